import PyProof.Rows.All
import Wide.All
import OpenK.AllK
import Wide.FinOn
import PyProof.EqAt
import PyProof.EqKinds
import PyProof.TupleCall
import KE.BitLaws
import Open.SpecLaws
import KE.OsHead
import KE.OsGo
import VbdhaeSpec
import KE.KSortTupG
import KE.KDictOf
import PySem.Challenge.RW_draftjoin_s01_answers
import PyProof.Rows.SetFrom
import KE.KSortTupUse
import KE.KDictSum
import PyFlat
import PySem.SetTable
import PyProof.SetScanFacts
set_option Elab.async false
set_option linter.all false
set_option maxRecDepth 100000
set_option maxHeartbeats 4000000
open List (all_cons all_eq_true all_map all_nil any_cons any_eq_true any_map append_assoc append_nil cons_append drop_drop drop_eq_getElem_cons drop_length drop_zero filterMap_cons filter_cons find?_cons flatMap_cons foldl_append foldl_cons forIn_nil getElem?_append_left getElem?_append_right getElem?_cons_succ getElem?_eq_getElem getElem?_map getElem?_of_mem getElem?_take_of_lt getElem?_toArray getElem_mem length length_append length_cons length_drop length_eq_zero_iff length_filter_le length_map length_nil length_take length_take_le length_take_le' lookup_cons map map_append map_congr_left map_cons map_drop map_dropLast map_id map_map map_nil map_take mem_append mem_append_left mem_append_right mem_cons mem_cons_of_mem mem_cons_self mem_eraseDups mem_filter mem_filterMap mem_map mem_of_getElem? mem_range nil_append nodup_append nodup_cons not_mem_nil of_mem_zip pairwise_cons pairwise_map range' replicate size_toArray take_add_one take_append_drop take_length take_of_length_le toList_toArray)
open Vbdhae (Change ENTRIES FIELDS LENGTH Op Res Values behind changeAt clashes cutAt decimal decode differing doOp doOps does falls fallsFrom feeds flag guards holds inside isDigit isE isF isLetter isN isOrder isText isThere isValue joined lacks listed mayAccept meets natOf nats noChange noDraft noForce numbers opOf opsAt printed readOps readsOf rising setChange setValue shared stepNumbers takenBack thingOf thingsTold valueOf values valuesBy writesOf)
open PySem.W (callWith_K callWith_K0 cellsFrom_some codeIn emptyDict findIn fnOf handedIn hasDictIn instObj isFn kIn_of kdl_extend keepIn lookIn makesIn methodCall_KW methodObj mg_none_of mg_of nsIn plainGet plainGet_of plainOver takerIn typeIn)
open Nat (le_of_succ_le le_succ mod_lt ne_of_lt succ_add zero_le)
open PySem.Heap (get?_push_of_some get?_push_size get?_update_self lt_size size_push)
open Array (all_toList ext' forIn_toList getElem?_toList length_toList toList toList_map)
open PySem.Builtin.Frozenset (addrOf baseOf copyOf isAnySet merge newClass slot0 slot1 unchanged updateFrom)
open PyProof.Rows (boot_dict boot_list boot_set boot_sorted boot_str in_str join_list join_tuple sorted_ints split_le)
open PySem.F (called_set entry_dict_get plainAttrs_list plain_list_iadd plain_set_new slot_dict_get slot_list_extend slot_set_iter slot_set_or type_dict_get type_list_extend)
set_option maxRecDepth 100000
section
set_option hygiene false
theorem cps {B:Prop}(h:∀Q:Prop,(B->Q)->Q):B:=h B id
local macro_rules|`(tactic|isplit)=>`(tactic|refine cps fun QQ kk=>?_)
local macro_rules|`(tactic|kl_no)=>`(tactic|(refine kk ?_;clear kk QQ))
local macro_rules|`(tactic|kt_str)=>`(tactic|(obtain ⟨h,lc,lf,ln,lr,as,st,nums,EX,rows,rfl,hA,Bs,HS,Qt,HM,Ge,q⟩:=h))
local macro_rules|`(tactic|kt_le)=>`(tactic|(isplit;obtain ⟨dx,fs,e1,e2,e3,e4,e5⟩:=hA.ex;kl_no))
local macro_rules|`(tactic|kt_chr)=>`(tactic|(obtain ⟨h,lc,lf,ln,lr,as,s,nums,EX,rows,rfl,_⟩:=h))
local macro_rules|`(tactic|kpt_hd)=>`(tactic|(refine BG (fun z=>?_) (fun z=>?_)))
local macro_rules|`(tactic|ktn_lt)=>`(tactic|(have FD:Aq 1 _:=hr.mono (by decide)))
local macro_rules|`(tactic|kxf_eq)=>`(tactic|(have Gg:Aq 2 _:=hr.mono (by decide)))
local macro_rules|`(tactic|kxf_if)=>`(tactic|(intro pins s σ H Q I h))
local macro_rules|`(tactic|kpt_eq)=>`(tactic|(intro z;cases z))
set_option hygiene true
namespace L2
open PySem PySem.Spec PyProof.Rows
abbrev Key:=Sum Int Str
def QL:Key->Value->Bool
 | .inl k,v=>Value.isInt k v
 | .inr x,v=>Value.isStrOf x v
def ADk (w:World):Key->Int
 | .inl k=>hashInt k
 | .inr x=>hashStr w x
theorem Bm:∀{k:Key} {v:Value},QL k v=true->(∃i t,k=Sum.inl i/\v=Value.int i t)\/(∃x t,k=Sum.inr x/\v=Value.str x t)
 | .inl i,v,h=>by
  obtain ⟨t,e⟩:=Value.isInt_shape (k:=i) (v:=v) h;exact .inl ⟨i,t,rfl,e⟩
 | .inr x,v,h=>by
  obtain ⟨t,e⟩:=Value.isStrOf_shape (x:=x) (v:=v) h;exact .inr ⟨x,t,rfl,e⟩
theorem ju (i:Int)(t:Tok):QL (.inl i) (.int i t)=true:=by simp[QL,Value.isInt]
theorem jt (x:Str)(t:Tok):QL (.inr x) (.str x t)=true:=by simp[QL,Value.isStrOf]
theorem xn (a b:Int):decide ((Sum.inl a:Key)=Sum.inl b)=(a==b):=by
 by_cases e:a=b
 ·subst e;simp
 ·have h:¬ (Sum.inl a:Key)=Sum.inl b:=fun q=>e (Sum.inl.inj q);rw[decide_eq_false h];exact (beq_eq_false_iff_ne.mpr e).symm
theorem xk (a b:Str):decide ((Sum.inr a:Key)=Sum.inr b)=decide (a=b):=by
 by_cases e:a=b
 ·subst e;simp
 ·have h:¬ (Sum.inr a:Key)=Sum.inr b:=fun q=>e (Sum.inr.inj q);rw[decide_eq_false h,decide_eq_false e]
theorem xm (a:Int)(b:Str):decide ((Sum.inl a:Key)=Sum.inr b)=false:=decide_eq_false (fun q=>nomatch q)
theorem xl (a:Str)(b:Int):decide ((Sum.inr a:Key)=Sum.inl b)=false:=decide_eq_false (fun q=>nomatch q)
def Ah (prog:Program)(w:World):PySem.KeyKind prog w Key where
 is:=QL
 hash:=ADk w
 inj:=fun v a b ha hb=>by
  rcases Bm ha with ⟨i,t,rfl,rfl⟩ | ⟨x,t,rfl,rfl⟩
  ·rcases Bm hb with ⟨j,u,rfl,e⟩ | ⟨y,u,rfl,e⟩
   ·injection e with e1 _;rw[e1]
   ·exact nomatch e
  ·rcases Bm hb with ⟨j,u,rfl,e⟩ | ⟨y,u,rfl,e⟩
   ·exact nomatch e
   ·injection e with e1 _;rw[e1]
 byValue:=fun k v h=>by
  rcases Bm h with ⟨i,t,rfl,rfl⟩ | ⟨x,t,rfl,rfl⟩ <;> rfl
 pyHash:=fun hv h=>by
  rcases Bm hv with ⟨i,t,rfl,rfl⟩ | ⟨x,t,rfl,rfl⟩
  ·exact wpAny_pyHash_int h
  ·exact wpAny_pyHash_str h
 eqBool:=fun hu hv h=>by
  rcases Bm hu with ⟨i,t,rfl,rfl⟩ | ⟨x,t,rfl,rfl⟩
  ·rcases Bm hv with ⟨j,u,rfl,rfl⟩ | ⟨y,u,rfl,rfl⟩
   ·rw[xn]at h;exact wpAny_eqBool_int h
   ·rw[xm]at h;exact SeqAt.EqAt.int_str i t y u _ _ _ _ h
  ·rcases Bm hv with ⟨j,u,rfl,rfl⟩ | ⟨y,u,rfl,rfl⟩
   ·rw[xl]at h;exact SeqAt.EqAt.str_int x t j u _ _ _ _ h
   ·rw[xk]at h;exact wpAny_eqBool_str h
 «strs»:=fun k x t v h=>by
  rcases Bm h with ⟨i,u,rfl,e⟩ | ⟨y,u,rfl,e⟩
  ·exact nomatch e
  ·injection e with e1 _
   subst e1;cases v <;> rfl
theorem KI (prog:Program)(w:World)(i:Int)(t:Tok):(Ah prog w).is (.inl i) (.int i t)=true:=ju i t
theorem aG (prog:Program)(w:World)(x:Str)(t:Tok):(Ah prog w).is (.inr x) (.str x t)=true:=jt x t
inductive V where
 |Bo | bl (b:Bool) | int (i:Int) | str (x:Str) | Ye (b:Array UInt8) | flt (b:UInt64) | ref (a:Addr) | ty (n:String)
 deriving DecidableEq
def RelV:V->Value->Prop
 | .Bo,u=>u=Value.none
 | .bl b,u=>u=Value.bool b
 | .int i,u=>∃t,u=Value.int i t
 | .str x,u=>∃t,u=Value.str x t
 | .Ye b,u=>∃t,u=Value.bytes b t
 | .flt b,u=>∃t,u=Value.float b t
 | .ref a,u=>u=Value.ref a
 | .ty n,u=>u=Value.type n
abbrev Vals:List V->List Value->Prop:=Paired RelV
theorem Vals.length {xs:List V}{us:List Value}(r:Vals xs us):xs.length=us.length:=Paired.length r
theorem Vals.get:∀{xs:List V} {us:List Value} {i:Nat} {x:V},Vals xs us->xs[i]? =some x->∃u,us[i]? =some u/\RelV x u
 |_,_,_,_,.nil,e=>by simp at e
 |_,_,0,_,.cons r _,e=>by simp at e;subst e;exact ⟨_,rfl,r⟩
 |_,_,i+1,x,.cons _ t,e=>by
  obtain ⟨u,h1,h2⟩:=Vals.get (i:=i) (x:=x) t (by simpa using e);exact ⟨u,by simpa using h1,h2⟩
theorem Vals.append:∀{xs ys:List V} {us ws:List Value},Vals xs us->Vals ys ws->Vals (xs++ys) (us++ws)
 |_,_,_,_,.nil,s=>s
 |_,_,_,_,.cons r t,s=> .cons r (Vals.append t s)
theorem Vals.take:∀{xs:List V} {us:List Value} (n:Nat),Vals xs us->Vals (xs.take n) (us.take n)
 |_,_,0,_=> .nil
 |_,_,_+1,.nil=> .nil
 |_,_,n+1,.cons r t=> .cons r (Vals.take n t)
theorem Vals.drop:∀{xs:List V} {us:List Value} (n:Nat),Vals xs us->Vals (xs.drop n) (us.drop n)
 |_,_,0,r=>r
 |_,_,_+1,.nil=> .nil
 |_,_,n+1,.cons _ t=>Vals.drop n t
def JZ:Option V->Option Value->Prop
 |some v,some u=>RelV v u
 |none,none=>True
 |_,_=>False
def KV {κ:Type}:List (κ×V)->List (κ×Value)->Prop:=Paired fun (p:κ×V) (q:κ×Value)=>p.1=q.1/\RelV p.2 q.2
def kV:Key->V
 | .inl i=> .int i
 | .inr x=> .str x
inductive HO where
 |lst (xs:List V)
 |tup (xs:List V)
 |dK (AV:List (Key×V)) | dT (AV:List (List Key×V))
 |set (S:Int->Bool) (n:Nat)
 |ins (C dx:Addr) (fs:List (Str×V))
 |own (x:Addr)
 |xd (fs:List (Str×V))
 |met (f x:Addr)
 |v7 (lo hi:Int)
 |EA (o:Obj) (u:HO)
 |wz (ps:Array Value)
 |ext (φ:Heap->Prop)
abbrev Hp:=Addr->Option HO
def upd (H:Hp)(a:Addr)(o:HO):Hp:=fun b=>if b=a then some o else H b
theorem AB {H:Hp}{a:Addr}{o:HO}:upd H a o a=some o:=by unfold upd;rw[if_pos rfl]
theorem AI {H:Hp}{a b:Addr}{o:HO}(h:b≠a):upd H a o b=H b:=by unfold upd;rw[if_neg h]
theorem DU {H:Hp}{a:Addr}{o u:HO}:upd (upd H a o) a u=upd H a u:=by
 funext b;unfold upd;split <;> rfl
theorem A7 {H:Hp}{a b:Addr}{o u:HO}(h:H a=some o)(h':H b=some u)(d:o≠u):a≠b:=by
 intro e;subst e;rw[h]at h';exact d (Option.some.inj h')
theorem AH {H:Hp}{a b:Addr}{o:HO}(h:H a=some o)(h':H b=none):a≠b:=by
 intro e;subst e;rw[h]at h';cases h'
section
variable (P:Program)(w:World)
def C1 (H:Hp)(h:Heap)(a:Addr):HO->Prop
 | .lst xs=>xs.length<=sizeLine/\∃(A1:List Value) (n:Nat),Vals xs A1/\h.get? a=some { cls:= .type "list",data:= .seq A1.toArray n }
 | .tup xs=>xs.length<=sizeLine/\∃A1:List Value,Vals xs A1/\IsTup h a A1.toArray
 | .dK AV=>AV.length<=sizeLine/\(a==sysModules)=false/\∃vs,KV AV vs/\h.DictOf (Ah P w) a vs
 | .dT AV=>AV.length<=sizeLine/\(a==sysModules)=false/\∃xs:List (List Key×Addr×Value),
   Paired (fun (p:List Key×V) (q:List Key×Addr×Value)=>p.1=q.1/\H q.2.1=some (.tup (p.1.map kV))/\RelV p.2 q.2.2) AV xs/\
   ∃o es ep,h.get? a=some o/\o.ExactDict/\o.data= .dict es ep/\es.toList=xs.map (entryOfKey (tupleKind (Ah P w)))/\(xs.map (·.1)).Nodup
 | .set S n=>h.SetOf (intKind P w) a S n
 | .ins C dx fs=>H dx=some (.own a)/\fs.length<=1000/\dx≠a/\h.get? a=some (instObj C dx)/\
   ∃mA,h.Ns1 dx mA/\(∀f,JZ (fs.lookup f) (mA f))/\PySem.Within mA (fs.map (·.1))
 | .own _=>∃o,h.get? a=some o
 | .xd fs=>∃mA,h.Ns1 a mA/\∀f,JZ (fs.lookup f) (mA f)
 | .v7 lo hi=>∃t u v,h.get? a=some { cls:= .type "range",data:= .fields #[.int lo t,.int hi u,.int 1 v] }
 | .EA o u=>h.get? a=some o/\C1 H h a u
 | .wz ps=>h.get? a=some { cls:= .none,data:= .fields ps }
 | .met f x=>h.get? a=some (methodObj (.ref f) (.ref x))
 | .ext φ=>φ h/\(∃o,h.get? a=some o)/\∀h1 h2:Heap,φ h1->(∀o,h1.get? a=some o->h2.get? a=some o)->φ h2
def Kn (H:Hp)(h:Heap):Prop:=∀a o,H a=some o->C1 P w H h a o
end
section
variable {P:Program}{w:World}{H H':Hp}{h h':Heap}{a:Addr}{o:HO}
theorem C1.lt (x:C1 P w H h a o):a<h.objs.size:=by
 cases o with
 |lst xs=>obtain ⟨_,_,_,_,e⟩:=x;exact lt_size e
 |tup xs=>obtain ⟨_,_,_,p⟩:=x;exact p.lt
 |dK AV=>obtain ⟨_,_,_,_,o,_,_,e,_⟩:=x;exact lt_size e
 |dT AV=>obtain ⟨_,_,_,_,o,_,_,e,_⟩:=x;exact lt_size e
 |set S n=>obtain ⟨o,_,_,_,e,_⟩:=x;exact lt_size e
 |ins C dx fs=>obtain ⟨_,_,_,e,_⟩:=x;exact lt_size e
 |own y=>obtain ⟨_,e⟩:=x;exact lt_size e
 |xd fs=>obtain ⟨_,⟨_,_,_,e,_⟩,_⟩:=x;exact lt_size e
 |v7 lo hi=>obtain ⟨_,_,_,e⟩:=x;exact lt_size e
 |EA ob u=>obtain ⟨e,_⟩:=x;exact lt_size e
 |wz ps=>exact lt_size (show h.get? a=some _ from x)
 |met f y=>exact lt_size (show h.get? a=some _ from x)
 |ext φ=>obtain ⟨_,⟨_,e⟩,_⟩:=x;exact lt_size e
theorem Paired.TD {α β:Type}{F G:α->β->Prop}:∀{l₁:List α} {l₂:List β},Paired F l₁ l₂->(∀a b,F a b->G a b)->Paired G l₁ l₂
 |_,_,.nil,_=> .nil
 |_,_,.cons r t,f=> .cons (f _ _ r) (Paired.TD t f)
theorem C1.ZF (x:C1 P w H h a o)(k:∀b u,(b=a\/H b=some (.own a))->h.get? b=some u->h'.get? b=some u)
  (ho:∀b,H b=some (.own a)->H' b=some (.own a)) (ht:∀b xs,H b=some (.tup xs)->H' b=some (.tup xs)):C1 P w H' h' a o:=by
 induction o with
 |lst xs=>isplit;obtain ⟨z,A1,n,r,e⟩:=x;kl_no;exact ⟨z,A1,n,r,k _ _ (.inl rfl) e⟩
 |tup xs=>isplit;obtain ⟨z,A1,r,ob,e,c⟩:=x;kl_no;exact ⟨z,A1,r,ob,k _ _ (.inl rfl) e,c⟩
 |dK AV=>isplit;obtain ⟨z,y,vs,r,ob,es,ep,e,c⟩:=x;kl_no;exact ⟨z,y,vs,r,ob,es,ep,k _ _ (.inl rfl) e,c⟩
 |dT AV=>
  isplit;obtain ⟨z,y,xs,r,ob,es,ep,e,c⟩:=x;kl_no;exact ⟨z,y,xs,Paired.TD r fun p q z=>⟨z.1,ht _ _ z.2.1,z.2.2⟩,ob,es,ep,k _ _ (.inl rfl) e,c⟩
 |set S n=>isplit;obtain ⟨ob,es,ep,t,e,c⟩:=x;kl_no;exact ⟨ob,es,ep,t,k _ _ (.inl rfl) e,c⟩
 |ins C dx fs=>
  isplit;obtain ⟨d,z,ne,e,mA,⟨od,es,ep,e2,c⟩,r⟩:=x;kl_no;exact ⟨ho _ d,z,ne,k _ _ (.inl rfl) e,mA,⟨od,es,ep,k _ _ (.inr d) e2,c⟩,r⟩
 |own y=>obtain ⟨ob,e⟩:=x;exact ⟨ob,k _ _ (.inl rfl) e⟩
 |xd fs=>isplit;obtain ⟨mA,⟨od,es,ep,e,c⟩,r⟩:=x;kl_no;exact ⟨mA,⟨od,es,ep,k _ _ (.inl rfl) e,c⟩,r⟩
 |v7 lo hi=>isplit;obtain ⟨t,u,v,e⟩:=x;kl_no;exact ⟨t,u,v,k _ _ (.inl rfl) e⟩
 |EA ob u ih=>obtain ⟨e,q⟩:=x;exact ⟨k _ _ (.inl rfl) e,ih q⟩
 |wz ps=>
  have e:h.get? a=some { cls:= .none,data:= .fields ps }:=x;show h'.get? a=some { cls:= .none,data:= .fields ps };exact k a _ (.inl rfl) e
 |met f y=>
  have e:h.get? a=some (methodObj (.ref f) (.ref y)):=x;show h'.get? a=some (methodObj (.ref f) (.ref y));exact k a _ (.inl rfl) e
 |ext φ=>isplit;obtain ⟨p,⟨o,e⟩,st⟩:=x;kl_no;exact ⟨st _ _ p fun o q=>k _ _ (.inl rfl) q,⟨o,k _ _ (.inl rfl) e⟩,st⟩
theorem Kn.lt (x:Kn P w H h)(e:H a=some o):a<h.objs.size:=(x a o e).lt
theorem Kn.fresh (x:Kn P w H h)(e:h.objs.size<=a):H a=none:=by
 cases q:H a with
 |none=>rfl
 |some u=>exact absurd (Nat.lt_of_lt_of_le (x.lt q) e) (Nat.lt_irrefl _)
theorem Kn.kept (x:Kn P w H h)(k:∀b u,h.get? b=some u->h'.get? b=some u):Kn P w H h':=fun a o e=>
 (x a o e).ZF (fun b u _ q=>k b u q) (fun _ q=>q) fun _ _ q=>q
theorem Kn.laid (x:Kn P w H h)(k:∀b u,h.get? b=some u->h'.get? b=some u)(hp:h.objs.size<=a)(new:C1 P w (upd H a o) h' a o):Kn P w (upd H a o) h':=fun b u e=>by
 have hn:=x.fresh hp;by_cases hb:b=a
 ·subst hb;rw[AB]at e;cases e;exact new
 ·rw[AI hb]at e;exact (x b u e).ZF (fun c v _ q=>k c v q) (fun c q=>by rw[AI (AH q hn)];exact q) fun c xs q=>by rw[AI (AH q hn)];exact q
end
def Rd (H:Hp)(a:Addr)(u:HO):Prop:=H a=some u\/∃o,H a=some (.EA o u)
theorem Rd.ok {P:Program}{w:World}{H:Hp}{h:Heap}{a:Addr}{u:HO}(r:Rd H a u)(x:Kn P w H h):C1 P w H h a u:=by
 rcases r with r | ⟨o,r⟩
 ·exact x a u r
 ·obtain ⟨_,q⟩:=x a _ r;exact q
def vy:Option HO->Prop
 |some (.lst _)=>True
 |some (.dK _)=>True
 |some (.dT _)=>True
 |some (.set _ _)=>True
 |some (.ins _ _ _)=>True
 |some (.ext _)=>True
 |_=>False
section
variable {P:Program}{w:World}{H:Hp}{h h':Heap}{x e:Addr}{o':HO}
theorem Kn.write (ok:Kn P w H h)(mu:vy (H x))(he:e=x\/H e=some (.own x))(k:∀b u,b≠e->h.get? b=some u->h'.get? b=some u)(zQ:∃u,h'.get? e=some u)
  (new:C1 P w (upd H x o') h' x o'):Kn P w (upd H x o') h':=fun b u q=>by
 have AAZ:∀c y,H c=some (.own y)->c≠x:=fun c y r z=>by subst z;rw[r]at mu;exact mu
 have ADI:∀c xs,H c=some (.tup xs)->c≠x:=fun c xs r z=>by subst z;rw[r]at mu;exact mu
 by_cases hb:b=x
 ·subst hb;rw[AB]at q;cases q;exact new
 ·rw[AI hb]at q;by_cases yQ:b=e
  ·have q':H b=some (.own x):=by
    rcases he with z | z
    ·exact absurd (yQ.trans z) hb
    ·rw[yQ];exact z
   rw[q]at q';cases q';obtain ⟨v,hv⟩:=zQ;exact ⟨v,by rw[yQ];exact hv⟩
  ·refine (ok b u q).ZF (fun c v hc r=>k c v ?_ r) (fun c r=>by rw[AI (AAZ c b r)];exact r) fun c xs r=>by rw[AI (ADI c xs r)];exact r
   rcases hc with rfl | hc
   ·exact yQ
   ·rintro rfl;rcases he with z | z
    ·exact AAZ c b hc z
    ·rw[hc]at z;cases z;exact hb rfl
end
structure Un (fs ex:List Addr)(H H':Hp)(h h':Heap):Prop where
 keep:∀b o,h.get? b=some o->H b=none->b∉fs->b∉ex->h'.get? b=some o
 slot:∀b o,h.get? b=some o->H b=none->b∈fs->b∉ex->∃sl,h'.get? b=some { o with slots:=sl }
 free:∀b o,h.get? b=some o->H b=none->b∉ex->H' b=none
 there:∀b o,h.get? b=some o->b∉ex->∃o',h'.get? b=some o'
 CW:∀b xs,H b=some (.tup xs)->H' b=some (.tup xs)
 Tv:∀b o u,H b=some (.EA o u)->H' b=some (.EA o u)
 XE:∀b ps,H b=some (.wz ps)->∃more,H' b=some (.wz (ps++more))
section
variable {fs GW ex ex':List Addr}{H H1 H2:Hp}{h h1 h2 h':Heap}{a x e:Addr}{o:HO}
theorem Un.any (u:Un fs ex H H1 h h1){b:Addr}{ob:Obj}(q:h.get? b=some ob)(n:H b=none)(hx:b∉ex):∃sl,h1.get? b=some { ob with slots:=sl }:=by
 by_cases hb:b∈fs
 ·exact u.slot b ob q n hb hx
 ·exact ⟨ob.slots,u.keep b ob q n hb hx⟩
theorem Un.kept (k:∀b u,h.get? b=some u->h'.get? b=some u):Un fs ex H H h h':=
 ⟨fun b ob q _ _ _=>k b ob q,fun b ob q _ _ _=>⟨ob.slots,k b ob q⟩,fun _ _ _ n _=>n,fun b ob q _=>⟨ob,k b ob q⟩,fun _ _ q=>q,fun _ _ _ q=>q,fun _ ps q=>⟨#[],by rw[q];simp⟩⟩
theorem Un.refl:Un fs ex H H h h:=Un.kept fun _ _ q=>q
theorem Un.laid (k:∀b u,h.get? b=some u->h'.get? b=some u)(hp:h.objs.size<=a)(hn:H a=none):Un fs ex H (upd H a o) h h' where
 keep:=fun b u q _ _ _=>k b u q
 slot:=fun b u q _ _ _=>⟨u.slots,k b u q⟩
 free:=fun b u q n _=>by rw[AI (ne_of_lt (Nat.lt_of_lt_of_le (lt_size q) hp))];exact n
 there:=fun b u q _=>⟨u,k b u q⟩
 CW:=fun b xs q=>by rw[AI (AH q hn)];exact q
 Tv:=fun b u xs q=>by rw[AI (AH q hn)];exact q
 XE:=fun b ps q=>⟨#[],by rw[AI (AH q hn),q];simp⟩
theorem Un.write (mu:vy (H x))(he:e=x\/H e=some (.own x))(k:∀b u,b≠e->h.get? b=some u->h'.get? b=some u)(zQ:∃u,h'.get? e=some u):Un fs ex H (upd H x o) h h':=by
 have hx:∀b,H b=none->b≠x:=fun b n z=>by subst z;rw[n]at mu;exact mu
 have hb:∀b,H b=none->b≠e:=fun b n z=>by
  subst z;rcases he with r | r
  ·exact hx b n r
  ·rw[n]at r;cases r
 have hm:∀b u,H b=some u->¬ vy (some u)->b≠x:=fun b u q nm z=>by subst z;rw[q]at mu;exact nm mu
 refine ⟨fun b u q n _ _=>k b u (hb b n) q,fun b u q n _ _=>⟨u.slots,k b u (hb b n) q⟩,fun b u q n _=>by rw[AI (hx b n)];exact n,fun b u q _=>?_,
  fun b xs q=>by rw[AI (hm b _ q fun z=>z)];exact q,fun b u xs q=>by rw[AI (hm b _ q fun z=>z)];exact q,fun b ps q=>⟨#[],by rw[AI (hm b _ q fun z=>z),q];simp⟩⟩
 by_cases yQ:b=e
 ·subst yQ;exact zQ
 ·exact ⟨u,k b u yQ q⟩
end
def trk (h:Heap)(H:Hp):List Addr:=(List.range h.objs.size).filter fun a=>(H a).isSome
def YC (h:Heap)(H:Hp):Heap:=PySem.W.hideAll h (trk h H)
theorem kE (h:Heap)(H:Hp):(YC h H).objs.size=h.objs.size:=PySem.W.hideAll_size _ _
theorem pw {h:Heap}{H:Hp}{b:Addr}{o:Obj}(e:h.get? b=some o)(n:H b=none):(YC h H).get? b=some o:=
 PySem.W.hideAll_get _ e fun hm=>by
  have q:(H b).isSome=true:=(mem_filter.mp hm).2;rw[n]at q;simp at q
theorem tU {h:Heap}{H:Hp}{b:Addr}{o:Obj}(e:(YC h H).get? b=some o):h.get? b=some o/\H b=none:=by
 have e':h.get? b=some o:=PySem.W.of_hideAll (trk h H) e;refine ⟨e',?_⟩;cases q:H b with
 |none=>rfl
 |some x=>
  have hm:b∈trk h H:=mem_filter.mpr ⟨mem_range.mpr (lt_size e'),by simp[q]⟩;have z:(YC h H).get? b=none:=PySem.W.hideAll_none (trk h H) hm;rw[z]at e;cases e
structure Mod (K:PySem.W.Frag)(mg:Str->Option Value)(base:Heap):Prop where
 zG:K.In base
 glob:base.Ns mainGlobals mg
 blt:∃mb,base.Ns builtinsNs mb/\∀x:Str,x≠"__name__"->mb x=bootBuiltins x
 nolimit:base.NoLimit
structure Cx where
 prog:Program
 w:World
 K:PySem.W.Frag
 mg:Str->Option Value
 base:Heap
 A:Around
 N:List Str
 Vz:Shared
 yx:Hp
 env:Env
 outer:List Env
 stack:List Env
 ex:List Addr
 fn:Str->Bool
 calm:Bool
 pn:List (Addr×Obj)
 xe:Value->Shared->Prop
def qK (l:List Env):List Addr:=l.filterMap (·.frame)
abbrev Cx.fs (X:Cx):List Addr:=qK X.outer
def yt (sc:Scope)(x:Str):Prop:=sc.names.lookup x=some .local\/sc.names.lookup x=some .cell\/sc.names.lookup x=some .free
def Loc (sc:Scope)(x:Str):Prop:=sc.names.lookup x=some .local\/sc.names.lookup x=some .cell
def Look (env:Env)(h:Heap)(m:Str->Option Value)(x:Str)(u:Value):Prop:=
 (env.kindOf x=some .local/\m x=some u)\/((env.kindOf x=some .cell\/env.kindOf x=some .free)/\∃c,env.cells.lookup x=some c/\h.IsCell c (some u))
structure Cx.Ok (X:Cx):Prop where
 mod:Mod X.K X.mg X.base
 kind:X.env.scope.kind= .function
 glob:X.env.globals=mainGlobals
 blt:X.env.builtins=builtinsNs
 above:X.Vz.heap.objs.size<=X.env.locals
 inj:∀x y c,X.env.cells.lookup x=some c->X.env.cells.lookup y=some c->x=y
 has:∀x,(X.env.kindOf x=some .cell\/X.env.kindOf x=some .free)->∃c,X.env.cells.lookup x=some c
 cab:∀x c,X.fn x=true->X.env.cells.lookup x=some c->X.Vz.heap.objs.size<=c
 hd:X.calm=true->X.A.handled=none
 frames:X.A.frames=some X.stack
 stk:X.stack=X.outer\/(X.stack=X.env::X.outer/\X.env.frame=some X.env.locals)
 exf:∀b∈X.ex,b≠X.env.locals/\∀x c,X.env.cells.lookup x=some c->c≠b
 bs:∀b o,X.base.get? b=some o->X.Vz.heap.get? b=some o/\X.yx b=none
 vU:X.base.objs.size<=X.Vz.heap.objs.size
 oZ:∀b o,X.base.get? b=some o->b∉X.ex
 qQ:∀b∈X.ex,b∉X.fs
 Qw:X.Vz.heap.FunFrames X.base X.outer
 yZ:∀b∈X.fs,X.yx b=none
structure Inv (X:Cx)(pins:List (Addr×Obj))(σ:List (Option V))(H:Hp)(s:Shared):Prop where
 ok:X.Ok
 os:s.os=X.Vz.os
 bare:AllBare s.gens
 base:Un X.fs X.ex X.yx H X.Vz.heap s.heap
 loc:∃m,s.heap.Ns X.env.locals m/\∀(i:Nat) (x:Str) (v:V),X.N[i]? =some x->σ[i]? =some (some v)->yt X.env.scope x->∃u,RelV v u/\Look X.env s.heap m x u
 cell:∀x c,X.env.cells.lookup x=some c->∃v,s.heap.IsCell c v
 free:H X.env.locals=none
 Hn:∀x c,X.env.cells.lookup x=some c->H c=none
 pin:∀p∈X.pn++pins,s.heap.get? p.1=some p.2/\H p.1=none/\p.1≠X.env.locals/\p.1∉X.fs/\∀v,p.2.data≠ .cell v
 BL:Kn X.prog X.w H s.heap
 len:σ.length=X.N.length
section
variable {X:Cx}{pins:List (Addr×Obj)}{σ:List (Option V)}{H H':Hp}{s:Shared}{h':Heap}
theorem Cx.Ok.ADQ (ok:X.Ok){b:Addr}{o:Obj}(e:X.base.get? b=some o):b∉X.fs:=fun hb=>by
 have:=(ok.Qw.mem hb).1;rw[e]at this;cases this
theorem Inv.bs (I:Inv X pins σ H s):∀b o,X.base.get? b=some o->s.heap.get? b=some o/\H b=none:=fun b o e=>
 ⟨I.base.keep b o (I.ok.bs b o e).1 (I.ok.bs b o e).2 (I.ok.ADQ e) (I.ok.oZ b o e),I.base.free b o (I.ok.bs b o e).1 (I.ok.bs b o e).2 (I.ok.oZ b o e)⟩
theorem Inv.bk (I:Inv X pins σ H s):∀b o,X.base.get? b=some o->s.heap.get? b=some o:=fun b o e=>(I.bs b o e).1
theorem Inv.mod (I:Inv X pins σ H s):Mod X.K X.mg X.base:=I.ok.mod
theorem Inv.Yq (I:Inv X pins σ H s):X.K.In s.heap:=I.ok.mod.zG.keeps I.bk
theorem Inv.lt (I:Inv X pins σ H s):X.env.locals<s.heap.objs.size:=let ⟨_,hn,_⟩:=I.loc;hn.lt
theorem Inv.sz (I:Inv X pins σ H s):X.Vz.heap.objs.size<=s.heap.objs.size:=Nat.le_trans I.ok.above (Nat.le_of_lt I.lt)
theorem Inv.ADP (I:Inv X pins σ H s){a:Addr}(h:s.heap.objs.size<=a):a∉X.fs:=fun hb=>by
 obtain ⟨_,o,ho,_⟩:=I.ok.Qw.mem hb;exact absurd (Nat.lt_of_lt_of_le (lt_size ho) (Nat.le_trans I.sz h)) (Nat.lt_irrefl _)
theorem Inv.yo (I:Inv X pins σ H s):∀x c,X.env.cells.lookup x=some c->c≠X.env.locals:=fun x c e z=>by
 obtain ⟨v,o,ho,hd⟩:=I.cell x c e;obtain ⟨m,⟨o',es,ep,Wa,hd',_⟩,_⟩:=I.loc;rw[z,Wa]at ho;cases ho;rw[hd']at hd;cases hd
theorem Inv.Qw (I:Inv X pins σ H s):s.heap.FunFrames X.base X.outer:=by
 have all:∀(l:List Env),(∀b∈qK l,b∈X.fs)->X.Vz.heap.FunFrames X.base l->s.heap.FunFrames X.base l:=by
  intro l;induction l with
  |nil=>intro _ _;trivial
  |cons env r ih=>
   intro hs hl;obtain ⟨hk,⟨L,o,hf,hn,ho,hd⟩,hr⟩:=hl;have hL:L∈X.fs:=hs L (by unfold qK;rw[filterMap_cons,hf];exact mem_cons_self);obtain ⟨sl,e⟩:=I.base.slot L o ho (I.ok.yZ L hL) hL fun z=>I.ok.qQ L z hL;exact ⟨hk,⟨L,_,hf,hn,e,hd⟩,ih (fun b hb=>hs b (by unfold qK;rw[filterMap_cons,hf];exact mem_cons_of_mem _ hb)) hr⟩
 exact all X.outer (fun _ hb=>hb) I.ok.Qw
theorem Inv.stack (I:Inv X pins σ H s):s.heap.FunFrames X.base X.stack:=by
 rcases I.ok.stk with e | ⟨e,hf⟩
 ·rw[e];exact I.Qw
 ·rw[e];obtain ⟨m,hn,_⟩:=I.loc;refine .cons (by rw[I.ok.kind];decide) hf hn ?_ I.Qw;exact Heap.get?_none_of_le (Nat.le_trans I.ok.vU I.ok.above)
theorem Inv.cS (I:Inv X pins σ H s):∀b∈qK X.stack,b∈X.env.locals::X.fs:=fun b hb=>by
 rcases I.ok.stk with e | ⟨e,hf⟩
 ·rw[e]at hb;exact mem_cons_of_mem _ hb
 ·rw[e]at hb;unfold qK at hb;rw[filterMap_cons,hf]at hb;exact hb
theorem Inv.fW (I:Inv X pins σ H s):∀b∈qK X.stack,H b=none:=fun b hb=>by
 rcases mem_cons.mp (I.cS b hb)with e | hb
 ·rw[e];exact I.free
 ·obtain ⟨_,o,ho,_⟩:=I.ok.Qw.mem hb;exact I.base.free b o ho (I.ok.yZ b hb) fun z=>I.ok.qQ b z hb
theorem Inv.step {g':Array GenState}{t':Nat}{d':Drawn}{ch:List Addr}(I:Inv X pins σ H s)
  (rj:∀b∈ch,(b∈X.ex\/X.Vz.heap.objs.size<=b)/\b≠X.env.locals/\(∀x c,X.env.cells.lookup x=some c->c≠b)/\∀p∈X.pn++pins,p.1≠b)
  (keep:∀b o,b≠X.env.locals->b∉X.fs->b∉ch->s.heap.get? b=some o->H b=none->h'.get? b=some o)
  (slot:∀b o,b≠X.env.locals->b∈X.fs->b∉ch->s.heap.get? b=some o->H b=none->∃sl,h'.get? b=some { o with slots:=sl }) (free:∀b o,b∉ch->s.heap.get? b=some o->H b=none->H' b=none)
  (there:∀b o,b∉ch->s.heap.get? b=some o->∃o',h'.get? b=some o')
  (CW:∀b xs,H b=some (.tup xs)->H' b=some (.tup xs)) (Tv:∀b o u,H b=some (.EA o u)->H' b=some (.EA o u)) (XE:∀b ps,H b=some (.wz ps)->∃more,H' b=some (.wz (ps++more)))
  (ns:∀m,s.heap.Ns X.env.locals m->h'.Ns X.env.locals m) (BL:Kn X.prog X.w H' h') (hg:AllBare g'):
  Inv X pins σ H' { s with heap:=h',gens:=g',drawn:=d',toks:=t' }:=by
 have neL:∀b o,X.Vz.heap.get? b=some o->b≠X.env.locals:=fun b o e=>ne_of_lt (Nat.lt_of_lt_of_le (lt_size e) I.ok.above);have neC:∀b o,X.Vz.heap.get? b=some o->b∉X.ex->b∉ch:=fun b o e hx hb=>by
  rcases (rj b hb).1 with z | z
  ·exact hx z
  ·exact absurd (Nat.lt_of_lt_of_le (lt_size e) z) (Nat.lt_irrefl _)
 have cellK:∀x c,X.env.cells.lookup x=some c->∀v,s.heap.IsCell c v->h'.IsCell c v:=fun x c e v ⟨o,ho,hd⟩=>by
  have gK:c∉ch:=fun z=>(rj c z).2.2.1 x c e rfl;by_cases hc:c∈X.fs
  ·obtain ⟨sl,q⟩:=slot c o (I.yo x c e) hc gK ho (I.Hn x c e);exact ⟨_,q,hd⟩
  ·exact ⟨o,keep c o (I.yo x c e) hc gK ho (I.Hn x c e),hd⟩
 refine ⟨I.ok,I.os,hg,⟨fun b o e n hb hx=>?_,fun b o e n hb hx=>?_,fun b o e n hx=>?_,fun b o e hx=>?_,fun b xs e=>CW b xs (I.base.CW b xs e),fun b o xs e=>Tv b o xs (I.base.Tv b o xs e),fun b ps e=>?_⟩,?_,fun x c e=>?_,?_,fun x c e=>?_,fun p hp=>?_,BL,I.len⟩
 ·exact keep b o (neL b o e) hb (neC b o e hx) (I.base.keep b o e n hb hx) (I.base.free b o e n hx)
 ·obtain ⟨sl,e1⟩:=I.base.slot b o e n hb hx;obtain ⟨sl',e2⟩:=slot b _ (neL b o e) hb (neC b o e hx) e1 (I.base.free b o e n hx);exact ⟨sl',e2⟩
 ·obtain ⟨o',e1⟩:=I.base.there b o e hx;exact free b o' (neC b o e hx) e1 (I.base.free b o e n hx)
 ·obtain ⟨o',e1⟩:=I.base.there b o e hx;exact there b o' (neC b o e hx) e1
 ·obtain ⟨m1,e1⟩:=I.base.XE b ps e;obtain ⟨m2,e2⟩:=XE b _ e1;exact ⟨m1++m2,by rw[e2,Array.append_assoc]⟩
 ·obtain ⟨m,hn,hl⟩:=I.loc;refine ⟨m,ns m hn,fun i x v e1 e2 e3=>?_⟩;obtain ⟨u,r,l⟩:=hl i x v e1 e2 e3;refine ⟨u,r,?_⟩;rcases l with l | ⟨k,c,e,z⟩
  ·exact .inl l
  ·exact .inr ⟨k,c,e,cellK x c e _ z⟩
 ·obtain ⟨v,z⟩:=I.cell x c e;exact ⟨v,cellK x c e v z⟩
 ·obtain ⟨m,⟨o,_,_,ho,_⟩,_⟩:=I.loc;exact free _ o (fun z=>(rj _ z).2.1 rfl) ho I.free
 ·obtain ⟨v,o,ho,hd⟩:=I.cell x c e;exact free c o (fun z=>(rj c z).2.2.1 x c e rfl) ho (I.Hn x c e)
 ·obtain ⟨e,n,ne,nf,d⟩:=I.pin p hp;have gK:p.1∉ch:=fun z=>(rj p.1 z).2.2.2 p hp rfl;exact ⟨keep p.1 p.2 ne nf gK e n,free p.1 p.2 gK e n,ne,nf,d⟩
theorem Inv.un {t':Nat}(I:Inv X pins σ H s)(u:Un X.fs [] H H' s.heap h')(BL:Kn X.prog X.w H' h'):Inv X pins σ H' { s with heap:=h',toks:=t' }:=by
 obtain ⟨m,⟨o,es,ep,ho,r⟩,_⟩:=id I.loc;obtain ⟨sl,hL⟩:=u.any ho I.free (by simp);exact I.step (g':=s.gens) (d':=s.drawn) (ch:= []) (fun _ z=>nomatch z) (fun b o _ hb _ e n=>u.keep b o e n hb (by simp)) (fun b o _ hb _ e n=>u.slot b o e n hb (by simp)) (fun b o _ e n=>u.free b o e n (by simp)) (fun b o _ e=>u.there b o e (by simp)) u.CW u.Tv u.XE (fun m' hm=>by
  obtain ⟨o',rq,Qx,Wa,r'⟩:=hm;rw[ho]at Wa;cases Wa;exact ⟨_,rq,Qx,hL,r'⟩) BL I.bare
theorem Inv.call {g':Array GenState}{t':Nat}{d':Drawn}{ch:List Addr}(I:Inv X pins σ H s)(u:Un (qK X.stack) ch H H' s.heap h')(BL:Kn X.prog X.w H' h')(hg:AllBare g')
  (rj:∀b∈ch,(b∈X.ex\/X.Vz.heap.objs.size<=b)/\b≠X.env.locals/\(∀x c,X.env.cells.lookup x=some c->c≠b)/\∀p∈X.pn++pins,p.1≠b):
  Inv X pins σ H' { s with heap:=h',gens:=g',drawn:=d',toks:=t' }:=by
 obtain ⟨m,⟨o,es,ep,ho,r⟩,_⟩:=id I.loc;obtain ⟨sl,hL⟩:=u.any ho I.free fun z=>(rj _ z).2.1 rfl;exact I.step (ch:=ch) rj (fun b o hL hb hc e n=>u.keep b o e n (fun z=>(mem_cons.mp (I.cS b z)).elim hL hb) hc) (fun b o _ _ hc e n=>u.any e n hc) (fun b o hc e n=>u.free b o e n hc) (fun b o hc e=>u.there b o e hc) u.CW u.Tv u.XE (fun m' hm=>by
  obtain ⟨o',rq,Qx,Wa,r'⟩:=hm;rw[ho]at Wa;cases Wa;exact ⟨_,rq,Qx,hL,r'⟩) BL hg
theorem Inv.turned {t':Nat}{it:Addr}(I:Inv X pins σ H s)(k:∀b o,b≠it->s.heap.get? b=some o->h'.get? b=some o)(hn:H it=none)(hL:it≠X.env.locals)
  (h1:it∈X.ex\/X.Vz.heap.objs.size<=it) (h2:∀x c,X.env.cells.lookup x=some c->c≠it) (h3:∀p∈X.pn++pins,p.1≠it):Inv X pins σ H { s with heap:=h',toks:=t' }:=by
 have nit:∀b u,H b=some u->b≠it:=fun b u e z=>by rw[z,hn]at e;cases e
 refine I.step (g':=s.gens) (d':=s.drawn) (ch:= [it]) (fun b hb=>?_) (fun b o _ _ hc e _=>k b o (fun z=>hc (by simp[z])) e) (fun b o _ _ hc e _=>⟨o.slots,k b o (fun z=>hc (by simp[z])) e⟩) (fun _ _ _ _ n=>n)
  (fun b o hc e=>⟨o,k b o (fun z=>hc (by simp[z])) e⟩) (fun _ _ e=>e) (fun _ _ _ e=>e) (fun b ps e=>⟨#[],by rw[e];simp⟩) (fun m hm=>?_) (fun b u e=>?_) I.bare
 ·have e:b=it:=by simpa using hb
  subst e;exact ⟨h1,hL,h2,h3⟩
 ·obtain ⟨o,es,ep,ho,r⟩:=hm;exact ⟨o,es,ep,k _ o (Ne.symm hL) ho,r⟩
 ·refine (I.BL b u e).ZF (fun c v hc q=>k c v ?_ q) (fun _ q=>q) fun _ _ q=>q;rcases hc with z | z
  ·rw[z];exact nit b u e
  ·exact nit c _ z
theorem Inv.tok (I:Inv X pins σ H s)(t:Nat):Inv X pins σ H { s with toks:=t }:=I.un (h':=s.heap) (t':=t) Un.refl I.BL
theorem Inv.kept {t':Nat}(I:Inv X pins σ H s)(k:∀b u,s.heap.get? b=some u->h'.get? b=some u):Inv X pins σ H { s with heap:=h',toks:=t' }:=I.un (Un.kept k) (I.BL.kept k)
theorem Inv.laid {a:Addr}{o:HO}{t':Nat}(I:Inv X pins σ H s)(k:∀b u,s.heap.get? b=some u->h'.get? b=some u)(hp:s.heap.objs.size<=a)(new:C1 X.prog X.w (upd H a o) h' a o):
  Inv X pins σ (upd H a o) { s with heap:=h',toks:=t' }:=I.un (Un.laid k hp (I.BL.fresh hp)) (I.BL.laid k hp new)
theorem Inv.write {x e:Addr}{o:HO}{t':Nat}(I:Inv X pins σ H s)(mu:vy (H x))(he:e=x\/H e=some (.own x))(k:∀b u,b≠e->s.heap.get? b=some u->h'.get? b=some u)(zQ:∃u,h'.get? e=some u)
  (new:C1 X.prog X.w (upd H x o) h' x o):Inv X pins σ (upd H x o) { s with heap:=h',toks:=t' }:=I.un (Un.write mu he k zQ) (I.BL.write mu he k zQ new)
theorem Inv.weak {σ':List (Option V)}(I:Inv X pins σ H s)(hl:σ'.length=σ.length)(w:∀(i:Nat) v,σ'[i]? =some (some v)->σ[i]? =some (some v)):Inv X pins σ' H s:=
 ⟨I.ok,I.os,I.bare,I.base,let ⟨m,hn,hl'⟩:=I.loc;⟨m,hn,fun i x v e1 e2 e3=>hl' i x v e1 (w i v e2) e3⟩,I.cell,I.free,I.Hn,I.pin,I.BL,hl.trans I.len⟩
theorem Inv.fw {wA:List (Addr×Obj)}(I:Inv X pins σ H s)(h:∀p∈wA,s.heap.get? p.1=some p.2/\H p.1=none/\p.1≠X.env.locals/\p.1∉X.fs/\∀v,p.2.data≠ .cell v):Inv X wA σ H s:=
 ⟨I.ok,I.os,I.bare,I.base,I.loc,I.cell,I.free,I.Hn,fun p hp=>(mem_append.mp hp).elim (fun z=>I.pin p (mem_append_left _ z)) (h p),I.BL,I.len⟩
theorem S4 {N:List Str}(hN:N.Nodup){i j:Nat}{x:Str}(a:N[i]? =some x)(b:N[j]? =some x):i=j:=by
 obtain ⟨h1,e1⟩:=List.getElem?_eq_some_iff.mp a;obtain ⟨h2,e2⟩:=List.getElem?_eq_some_iff.mp b;exact (List.getElem_inj hN).mp (e1.trans e2.symm)
theorem Vk {M:Model}{A:Around}{E:Value->Shared->Prop}{i:Nat}{x:Str}{v:V}{u:Value}{Q:Unit->Shared->Prop}(I:Inv X pins σ H s)(hN:X.N.Nodup)(hi:X.N[i]? =some x)(hx:Loc X.env.scope x)(r:RelV v u)
  (h:∀s',Inv X pins (σ.set i (some v)) H s'->(∃a,Heap.SameBut a s.heap s'.heap/\(a=X.env.locals\/X.env.cells.lookup x=some a))->Q () s') (hf:X.fn x=true\/X.env.scope.names.lookup x=some .local:=by first | exact .inl rfl | exact .inr rfl | assumption):wpAny M A (storeName X.env x u) Q E s:=by
 obtain ⟨m,hn,hl⟩:=id I.loc;have AEm:(X.env.scope.kind == .class||(X.env.scope.kind == .module&&X.env.locals != X.env.globals))=false:=by rw[I.ok.kind];rfl
 have hiσ:i<σ.length:=by rw[I.len];exact (List.getElem?_eq_some_iff.mp hi).1
 have yo:=I.yo;have tracked:∀{a:Addr} {h':Heap},(∃o,s.heap.get? a=some o/\H a=none)->Heap.SameBut a s.heap h'->Kn X.prog X.w H h':=fun {a h'} ha hs b ob e=>by
  obtain ⟨_,_,Wb⟩:=ha;refine (I.BL b ob e).ZF (fun c w' hc q=>(hs.2 c ?_).trans q) (fun _ q=>q) fun _ _ q=>q;rintro rfl;rcases hc with rfl | hc
  ·rw[Wb]at e;cases e
  ·rw[Wb]at hc;cases hc
 rcases hx with hk | hk
 ·refine wpAny_storeName_local hk hn (fun h' hn' hs=>?_) AEm;isplit;obtain ⟨oL,_,_,um,_⟩:=id hn;kl_no;refine h _ ⟨I.ok,I.os,I.bare,⟨fun b o e n hb hx=>?_,fun b o e n hb hx=>?_,I.base.free,fun b o e hx=>?_,I.base.CW,I.base.Tv,I.base.XE⟩,⟨_,hn',fun j y v' e1 e2 e3=>?_⟩,fun y c e=>?_,I.free,I.Hn,fun p hp=>?_,tracked ⟨oL,um,I.free⟩ hs,by simpa using I.len⟩ ⟨_,hs,.inl rfl⟩
  ·exact (hs.2 b (ne_of_lt (Nat.lt_of_lt_of_le (lt_size e) I.ok.above))).trans (I.base.keep b o e n hb hx)
  ·obtain ⟨sl,e1⟩:=I.base.slot b o e n hb hx;exact ⟨sl,(hs.2 b (ne_of_lt (Nat.lt_of_lt_of_le (lt_size e) I.ok.above))).trans e1⟩
  ·obtain ⟨o',e1⟩:=I.base.there b o e hx;exact ⟨o',(hs.2 b (ne_of_lt (Nat.lt_of_lt_of_le (lt_size e) I.ok.above))).trans e1⟩
  ·by_cases hj:j=i
   ·subst hj;rw[hi]at e1;cases e1;rw[List.getElem?_set_self hiσ]at e2;cases e2;exact ⟨u,r,.inl ⟨hk,by simp⟩⟩
   ·rw[List.getElem?_set_ne (Ne.symm hj)]at e2;obtain ⟨u',r',q⟩:=hl j y v' e1 e2 e3;refine ⟨u',r',?_⟩;rcases q with ⟨k,e⟩ | ⟨k,c,e,z⟩
    ·refine .inl ⟨k,?_⟩;have:y≠x:=fun e=>hj (S4 hN e1 (e ▸ hi));simp[this,e]
    ·exact .inr ⟨k,c,e,z.sameBut hs (yo y c e)⟩
  ·obtain ⟨w',z⟩:=I.cell y c e;exact ⟨w',z.sameBut hs (yo y c e)⟩
  ·isplit;obtain ⟨e,n,ne,nf,d⟩:=I.pin p hp;kl_no;exact ⟨(hs.2 p.1 ne).trans e,n,ne,nf,d⟩
 ·have hfn:X.fn x=true:=by
   rcases hf with z | z
   ·exact z
   ·rw[z]at hk;cases hk
  obtain ⟨c,hc⟩:=I.ok.has x (.inl hk);obtain ⟨w',z⟩:=I.cell x c hc;refine wpAny_storeName_cell I.ok.kind hk hc z (fun h' rk hs=>?_);obtain ⟨oc,hoc,AEA⟩:=id z;refine h { s with heap:=h' } ⟨I.ok,I.os,I.bare,⟨fun b o e n hb hx=>?_,fun b o e n hb hx=>?_,I.base.free,fun b o e hx=>?_,I.base.CW,I.base.Tv,I.base.XE⟩,⟨m,hn.sameBut hs (Ne.symm (yo x c hc)),fun j y v' e1 e2 e3=>?_⟩,fun y c' e=>?_,I.free,I.Hn,fun p hp=>?_,tracked ⟨oc,hoc,I.Hn x c hc⟩ hs,by simpa using I.len⟩ ⟨c,hs,.inr hc⟩
  ·exact (hs.2 b (ne_of_lt (Nat.lt_of_lt_of_le (lt_size e) (I.ok.cab x c hfn hc)))).trans (I.base.keep b o e n hb hx)
  ·obtain ⟨sl,e1⟩:=I.base.slot b o e n hb hx;exact ⟨sl,(hs.2 b (ne_of_lt (Nat.lt_of_lt_of_le (lt_size e) (I.ok.cab x c hfn hc)))).trans e1⟩
  ·obtain ⟨o',e1⟩:=I.base.there b o e hx;exact ⟨o',(hs.2 b (ne_of_lt (Nat.lt_of_lt_of_le (lt_size e) (I.ok.cab x c hfn hc)))).trans e1⟩
  ·by_cases hj:j=i
   ·subst hj;rw[hi]at e1;cases e1;rw[List.getElem?_set_self hiσ]at e2;cases e2;exact ⟨u,r,.inr ⟨.inl hk,c,hc,rk⟩⟩
   ·rw[List.getElem?_set_ne (Ne.symm hj)]at e2;obtain ⟨u',r',q⟩:=hl j y v' e1 e2 e3;refine ⟨u',r',?_⟩;rcases q with q | ⟨k,c',e,z'⟩
    ·exact .inl q
    ·refine .inr ⟨k,c',e,z'.sameBut hs ?_⟩;rintro rfl;exact hj (S4 hN e1 (I.ok.inj _ _ _ e hc ▸ hi))
  ·by_cases dq:c'=c
   ·subst dq;exact ⟨_,rk⟩
   ·obtain ⟨w2,z2⟩:=I.cell y c' e;exact ⟨w2,z2.sameBut hs dq⟩
  ·isplit;obtain ⟨e,n,ne,nf,d⟩:=I.pin p hp;kl_no;refine ⟨(hs.2 p.1 ?_).trans e,n,ne,nf,d⟩;intro q;rw[q,hoc]at e;have q':oc=p.2:=Option.some.inj e;exact d w' (by rw[<- q'];exact AEA)
theorem RV {M:Model}{A:Around}{E:Value->Shared->Prop}{i:Nat}{x:Str}{v:V}{u:Value}{Q:Unit->Shared->Prop}(I:Inv X pins σ H s)(hN:X.N.Nodup)(hi:X.N[i]? =some x)(hx:Loc X.env.scope x)(r:RelV v u)
  (h:∀s',Inv X pins (σ.set i (some v)) H s'->Q () s') (hf:X.fn x=true\/X.env.scope.names.lookup x=some .local:=by first | exact .inl rfl | exact .inr rfl | assumption):wpAny M A (storeName X.env x u) Q E s:=
 Vk I hN hi hx r (fun s' I' _=>h s' I') hf
theorem Inv.ABk {s':Shared}{ch:List Addr}(I:Inv X pins σ H s)(ho:s'.os=s.os)(u:Un (qK X.stack) ch H H' s.heap s'.heap)(BL:Kn X.prog X.w H' s'.heap)(hg:AllBare s'.gens)
  (rj:∀b∈ch,(b∈X.ex\/X.Vz.heap.objs.size<=b)/\b≠X.env.locals/\(∀x c,X.env.cells.lookup x=some c->c≠b)/\∀p∈X.pn++pins,p.1≠b):Inv X pins σ H' s':=by
 obtain ⟨h',g',d',t',o'⟩:=s';have e:o'=s.os:=ho;subst e;exact I.call (g':=g') (t':=t') (d':=d') u BL hg rj
end
abbrev XK:=Value->Option Addr->Hp->Prop
abbrev St:=List (Option V)
abbrev VK:=V->Hp->Prop
abbrev TE:=St->Hp->VK->Prop
abbrev TT:=St->Hp->(Bool->Hp->Prop)->Prop
abbrev TA:=St->Hp->(List V->Hp->Prop)->Prop
structure Ends where
 nx:St->Hp->Prop
 rt:VK
 bk:St->Hp->Prop:=fun _ _=>False
 ct:St->Hp->Prop:=fun _ _=>False
abbrev TS:=Ends->St->Hp->Prop
def EP (X:Cx)(pins:List (Addr×Obj))(σ:St)(Q:VK)(u:Value)(s':Shared):Prop:=∃v H',Inv X pins σ H' s'/\RelV v u/\Q v H'
def TP (X:Cx)(pins:List (Addr×Obj))(σ:St)(Q:Bool->Hp->Prop)(b:Bool)(s':Shared):Prop:=∃H',Inv X pins σ H' s'/\Q b H'
def AP (X:Cx)(pins:List (Addr×Obj))(σ:St)(Q:List V->Hp->Prop)(us:List Value)(s':Shared):Prop:=∃vs H',Inv X pins σ H' s'/\Vals vs us/\Q vs H'
def SP (X:Cx)(pins:List (Addr×Obj))(D:Ends)(f:Flow)(s':Shared):Prop:=
 match f with
 | .next=>∃σ' H',Inv X pins σ' H' s'/\D.nx σ' H'
 | .brk=>∃σ' H',Inv X pins σ' H' s'/\D.bk σ' H'
 | .cont=>∃σ' H',Inv X pins σ' H' s'/\D.ct σ' H'
 | .ret u=>∃v σ' H',Inv X pins σ' H' s'/\RelV v u/\D.rt v H'
def PE (X:Cx)(e:Expr)(t:TE):Prop:=
 ∀(pins:List (Addr×Obj)) (s:Shared) (σ:St) (H:Hp) (Q:VK),Inv X pins σ H s->t σ H Q->wpAny (model X.prog X.w) X.A (eval e X.env) (EP X pins σ Q) X.xe s
def PT (X:Cx)(e:Expr)(t:TT):Prop:=
 ∀(pins:List (Addr×Obj)) (s:Shared) (σ:St) (H:Hp) (Q:Bool->Hp->Prop),Inv X pins σ H s->t σ H Q->wpAny (model X.prog X.w) X.A (isTrue e X.env (eval e X.env)) (TP X pins σ Q) X.xe s
def PW (X:Cx)(e:Expr)(t:TT):Prop:=
 ∀(whole:Sem Value) (pins:List (Addr×Obj)) (s:Shared) (σ:St) (H:Hp) (Q:Bool->Hp->Prop),Inv X pins σ H s->t σ H Q->wpAny (model X.prog X.w) X.A (isTrue e X.env whole) (TP X pins σ Q) X.xe s
theorem PW.pt {X:Cx}{e:Expr}{t:TT}(h:PW X e t):PT X e t:=h _
def PA (X:Cx)(es:List Expr)(t:TA):Prop:=
 ∀(pos:Pos) (pins:List (Addr×Obj)) (s:Shared) (σ:St) (H:Hp) (Q:List V->Hp->Prop),Inv X pins σ H s->t σ H Q->wpAny (model X.prog X.w) X.A (spliced (backTo pos (starEach es X.env))) (AP X pins σ Q) X.xe s
def PS (X:Cx)(st:Stmt)(t:TS):Prop:=
 ∀(pins:List (Addr×Obj)) (s:Shared) (σ:St) (H:Hp) (D:Ends),Inv X pins σ H s->t D σ H->wpAny (model X.prog X.w) X.A (exec st X.env) (SP X pins D) X.xe s
def lX (X:Cx)(st:List Stmt)(t:TS):Prop:=
 ∀(pins:List (Addr×Obj)) (s:Shared) (σ:St) (H:Hp) (D:Ends),Inv X pins σ H s->t D σ H->wpAny (model X.prog X.w) X.A (execs st X.env) (SP X pins D) X.xe s
theorem Bx {α:Type}{t:Sem α}{Q Q':α->Shared->Prop}{M:Model}{A:Around}{E:Value->Shared->Prop}{s:Shared}(h:wpAny M A t Q E s)(hQ:∀a s,Q a s->Q' a s):wpAny M A t Q' E s:=wpAny_mono h hQ fun _ _ x=>x
section
variable {X:Cx}
def ZC (i:Nat):TE:=fun σ H Q=>∃v,σ[i]? =some (some v)/\Q v H
def tC (v:V):TE:=fun _ H Q=>Q v H
theorem nv {i:Nat}{x:Str}{pos:Pos}(hN:X.N[i]? =some x)(hv:yt X.env.scope x)(hd:(x==("__debug__":Str))=false:=by decide)(aw:(x==("__classdict__":Str))=false:=by decide):PE X (.Name x pos) (ZC i):=by
 kxf_if;obtain ⟨v,e,h⟩:=h;obtain ⟨m,hn,hl⟩:=I.loc;obtain ⟨u,r,l⟩:=hl i x v hN e hv;have fin:EP X pins σ Q u s:=⟨v,H,I,r,h⟩;rcases l with ⟨hk,hm⟩ | ⟨hk,c,hc,gf⟩
 ·exact wpAny_Name (wpAny_loadName_local I.ok.kind hk hn hm fin) hd
 ·rcases hk with hk | hk
  ·exact wpAny_Name (wpAny_loadName_cell I.ok.kind hk hc gf fin) hd
  ·exact wpAny_Name (wpAny_loadName_free I.ok.kind hk hc gf fin aw) hd
theorem AK {i j pos}:PE X (.Constant (.int i) j pos) (tC (.int i)):=fun _ _ _ H _ I h=>wpAny_Constant_int ⟨.int i,H,I.tok _,⟨_,rfl⟩,h⟩
theorem Zr {b j pos}:PE X (.Constant (.bool b) j pos) (tC (.bl b)):=fun _ _ _ H _ I h=>Constant_bool ⟨.bl b,H,I,rfl,h⟩
theorem Ek {j pos}:PE X (.Constant .none j pos) (tC .Bo):=fun _ _ _ H _ I h=>Constant_none ⟨.Bo,H,I,rfl,h⟩
theorem Bl {x j pos}:PE X (.Constant (.str x) j pos) (tC (.str x)):=fun _ _ _ H _ I h=>Calls.Constant_str ⟨.str x,H,I.tok _,⟨_,rfl⟩,h⟩
def Gl (X:Cx)(x:Str):Prop:=X.env.kindOf x=some .globalImplicit
theorem N1 {E:Value->Shared->Prop}{pins:List (Addr×Obj)}{s:Shared}{σ:St}{H:Hp}{x:Str}{u:Value}{pos:Pos}{Q:Value->Shared->Prop}(I:Inv X pins σ H s)(hg:Gl X x)(hm:X.mg x=some u)(h:Q u s)
  (hd:(x==("__debug__":Str))=false:=by decide):wpAny (model X.prog X.w) X.A (eval (.Name x pos) X.env) Q E s:=
 Calls.Name_function_global I.ok.kind hg (Calls.loadGlobal_global (by rw[I.ok.glob];exact I.mod.glob.keeps I.bk) hm h) hd
theorem X3 {E:Value->Shared->Prop}{pins:List (Addr×Obj)}{s:Shared}{σ:St}{H:Hp}{x:Str}{u:Value}{pos:Pos}{Q:Value->Shared->Prop}(I:Inv X pins σ H s)(hg:Gl X x)(hm:X.mg x=none)(hv:bootBuiltins x=some u)(h:Q u s)
  (hn:x≠"__name__":=by decide) (hd:(x==("__debug__":Str))=false:=by decide):wpAny (model X.prog X.w) X.A (eval (.Name x pos) X.env) Q E s:=by
 obtain ⟨mb,h1,h2⟩:=I.mod.blt;exact Calls.Name_function_global I.ok.kind hg (Calls.loadGlobal_builtin (by rw[I.ok.glob];exact I.mod.glob.keeps I.bk) hm (by rw[I.ok.blt];exact h1.keeps I.bk) ((h2 x hn).trans hv) h) hd
theorem Ad {x:Str}{v:V}{u:Value}{pos:Pos}(hg:Gl X x)(hm:X.mg x=some u)(r:RelV v u)(hd:(x==("__debug__":Str))=false:=by decide):PE X (.Name x pos) (tC v):=
 fun _ _ _ H _ I h=>N1 I hg hm ⟨v,H,I,r,h⟩ hd
variable {a b:Expr}{ta tb:TE}{pos:Pos}
def PC (X:Cx)(op:CmpOp)(a b:Expr)(t:TE):Prop:=
 ∀(pins:List (Addr×Obj)) (s:Shared) (σ:St) (H:Hp) (Q:VK),Inv X pins σ H s->t σ H Q->
  wpAny (model X.prog X.w) X.A (eval a X.env) (fun v Bq=>wpAny (model X.prog X.w) X.A (eval b X.env) (fun u F0=>wpAny (model X.prog X.w) X.A (compareOp op v u) (EP X pins σ Q) X.xe F0) X.xe Bq) X.xe s
theorem aD (b:Expr){op:CmpOp}(h:op≠ .In)(h2:op≠ .NotIn):behindInMarks op b=false:=by
 have e1:(op==CmpOp.In)=false:=by cases op <;> first | rfl | exact absurd rfl h
 have e2:(op==CmpOp.NotIn)=false:=by cases op <;> first | rfl | exact absurd rfl h2
 cases b <;> simp[behindInMarks,e1,e2]
def ACt (ta:TE):TE:=fun σ H Q=>ta σ H fun x H1=>Q (.bl (decide (x= .Bo))) H1
theorem RelV.oY {x:V}{v:Value}(r:RelV x v):(v==Value.none)=decide (x= .Bo):=by
 cases x with
 |Bo=>cases r;rfl
 |bl _=>cases r;rfl
 |int _=>obtain ⟨t,rfl⟩:=r;rfl
 |str _=>obtain ⟨t,rfl⟩:=r;rfl
 |Ye _=>obtain ⟨t,rfl⟩:=r;rfl
 |flt _=>obtain ⟨t,rfl⟩:=r;rfl
 |ref _=>cases r;rfl
 |ty _=>cases r;rfl
theorem O4 {j pos'}(ha:PE X a ta):PC X .Is a (.Constant .none j pos') (ACt ta):=by
 kxf_if;refine Bx (ha pins s σ H _ I h) fun v s1 ⟨x,H1,I1,r1,q1⟩=>?_;exact Constant_none (is_none_gen ⟨.bl _,H1,I1,by rw[r1.oY];rfl,q1⟩)
def tB (t:TE):TT:=fun σ H Q=>t σ H fun x H1=>∃c,x= .bl c/\Q c H1
theorem n9 {op:CmpOp}{t:TE}(h:PC X op a b t)(h1:behindInMarks op b=false:=by first | exact aD _ (by decide) (by decide) | rfl):PE X (.Compare a [op] [b] pos) t:=fun pins s σ H Q I hw=>wpAny_Compare1 (h pins s σ H Q I hw) h1
theorem MS {op:CmpOp}{t:TE}(h:PC X op a b t)(h1:behindInMarks op b=false:=by first | exact aD _ (by decide) (by decide) | rfl):PT X (.Compare a [op] [b] pos) (tB t):=by
 intro pins s σ H Q I hw;refine wpAny_isTrue_Compare1 (Bx (h pins s σ H _ I hw) fun v s1 h1=>Bx h1 fun u s2 h2=>Bx h2 fun c s3 ⟨x,H1,I1,r1,q1⟩=>?_) h1;obtain ⟨d,rfl,q⟩:=q1;cases r1;exact wpAny_truthy_bool ⟨H1,I1,q⟩
theorem CD {e:Expr}{t:TE}(h:PE X e t)(he:∀whole,isTrue e X.env whole=(do let v <- whole;standAt e.pos;holding [v] (truthy v)):=by intro _;rfl):PT X e (tB t):=by
 intro pins s σ H Q I hw;refine isTrue_plain (Bx (h pins s σ H _ I hw) fun v s1 ⟨x,H1,I1,r1,q1⟩=>?_) (he _);obtain ⟨d,rfl,q⟩:=q1;cases r1;exact wpAny_truthy_bool ⟨H1,I1,q⟩
variable {tA tB':TT}{rest:List Expr}
def ACx (t u:TT):TT:=fun σ H Q=>t σ H fun c H1=>if c=true then u σ H1 Q else Q false H1
def tOr (t u:TT):TT:=fun σ H Q=>t σ H fun c H1=>if c=true then Q true H1 else u σ H1 Q
def ACq (t:TT):TT:=fun σ H Q=>t σ H fun c H1=>Q (!c) H1
theorem fq (ha:PT X a tA):PW X (.BoolOp .And [a] pos) tA:=by
 intro wh pins s σ H Q I h;refine isTrue_and (Bx (ha pins s σ H Q I h) fun c s1 e=>?_);cases c with
 |true=>exact isTrue_and_nil e
 |false=>exact e
theorem SJ (ha:PT X a tA):PW X (.BoolOp .Or [a] pos) tA:=by
 intro wh pins s σ H Q I h;refine isTrue_or (Bx (ha pins s σ H Q I h) fun c s1 e=>?_);cases c with
 |false=>exact isTrue_or_nil e
 |true=>exact e
theorem ng (ha:PT X a tA)(hb:PW X (.BoolOp .And (b::rest) pos) tB'):PW X (.BoolOp .And (a::b::rest) pos) (ACx tA tB'):=by
 intro wh pins s σ H Q I h;refine isTrue_and (Bx (ha pins s σ H _ I h) fun c s1 ⟨H1,I1,q1⟩=>?_);cases c with
 |true=>exact hb wh pins s1 σ H1 Q I1 q1
 |false=>exact ⟨H1,I1,q1⟩
theorem V7 (ha:PT X a tA)(hb:PW X (.BoolOp .Or (b::rest) pos) tB'):PW X (.BoolOp .Or (a::b::rest) pos) (tOr tA tB'):=by
 intro wh pins s σ H Q I h;refine isTrue_or (Bx (ha pins s σ H _ I h) fun c s1 ⟨H1,I1,q1⟩=>?_);cases c with
 |true=>exact ⟨H1,I1,q1⟩
 |false=>exact hb wh pins s1 σ H1 Q I1 q1
theorem EJ (ha:PT X a tA):PT X (.UnaryOp .Not a pos) (ACq tA):=by
 kxf_if;exact isTrue_not (ha pins s σ H (fun c H1=>Q (!c) H1) I h)
def AAG (ta tb:TE):TE:=fun σ H Q=>ta σ H fun x H1=>∃c,x= .bl c/\if c=true then tb σ H1 Q else Q (.bl false) H1
def ACo (ta tb:TE):TE:=fun σ H Q=>ta σ H fun x H1=>∃c,x= .bl c/\if c=true then Q (.bl true) H1 else tb σ H1 Q
theorem GC {op}{t:TE}(h:PE X a t):PE X (.BoolOp op [a] pos) t:=fun pins s σ H Q I hw=>BoolOp_one (h pins s σ H Q I hw)
theorem KE (ha:PE X a ta)(hb:PE X (.BoolOp .And (b::rest) pos) tb):PE X (.BoolOp .And (a::b::rest) pos) (AAG ta tb):=by
 kxf_if;refine BoolOp_and (Bx (ha pins s σ H _ I h) fun v s1 ⟨x,H1,I1,r1,q1⟩=>?_);obtain ⟨c,rfl,q1⟩:=q1;cases r1;refine wpAny_truthy_bool ?_;cases c with
 |true=>exact hb pins s1 σ H1 Q I1 q1
 |false=>exact ⟨.bl false,H1,I1,rfl,q1⟩
theorem ny (ha:PE X a ta)(hb:PE X (.BoolOp .Or (b::rest) pos) tb):PE X (.BoolOp .Or (a::b::rest) pos) (ACo ta tb):=by
 kxf_if;refine BoolOp_or (Bx (ha pins s σ H _ I h) fun v s1 ⟨x,H1,I1,r1,q1⟩=>?_);obtain ⟨c,rfl,q1⟩:=q1;cases r1;refine wpAny_truthy_bool ?_;cases c with
 |false=>exact hb pins s1 σ H1 Q I1 q1
 |true=>exact ⟨.bl true,H1,I1,rfl,q1⟩
def tIf (t:TT)(ta tb:TE):TE:=fun σ H Q=>t σ H fun c H1=>if c=true then ta σ H1 Q else tb σ H1 Q
theorem KD {c:Expr}(hc:PT X c tA)(ha:PE X a ta)(hb:PE X b tb):PE X (.IfExp c a b pos) (tIf tA ta tb):=by
 kxf_if;refine wpAny_IfExp (Bx (hc pins s σ H _ I h) fun d s1 ⟨H1,I1,q1⟩=>?_);cases d with
 |true=>exact ha pins s1 σ H1 Q I1 q1
 |false=>exact hb pins s1 σ H1 Q I1 q1
end
def Ao (K:PySem.W.Frag)(H:Hp)(a:Addr)(xs:List V):Prop:=
 Rd H a (.lst xs)\/
  ∃(o:Obj) (A1:Array Value) (n:Nat),K.lookup a=some o/\o.cls= .type "list"/\o.dict=none/\o.data= .seq A1 n/\A1.size<=sizeLine/\Vals xs A1.toList
def Gi (K:PySem.W.Frag)(H:Hp)(a:Addr)(xs:List V):Prop:=
 Rd H a (.tup xs)\/
  ∃(o:Obj) (A1:Array Value) (n:Nat),K.lookup a=some o/\o.cls= .type "tuple"/\o.data= .seq A1 n/\A1.size<=sizeLine/\Vals xs A1.toList
def AFA:Value->Option V
 | .none=>some .Bo
 | .bool b=>some (.bl b)
 | .int i _=>some (.int i)
 | .str x _=>some (.str x)
 | .bytes b _=>some (.Ye b)
 | .float b _=>some (.flt b)
 | .ref a=>some (.ref a)
 | .type n=>some (.ty n)
 |_=>none
theorem RelV.abs {x:V}{u:Value}(r:RelV x u):AFA u=some x:=by
 cases x with
 |Bo=>cases r;rfl
 |bl _=>cases r;rfl
 |int _=>obtain ⟨t,rfl⟩:=r;rfl
 |str _=>obtain ⟨t,rfl⟩:=r;rfl
 |Ye _=>obtain ⟨t,rfl⟩:=r;rfl
 |flt _=>obtain ⟨t,rfl⟩:=r;rfl
 |ref _=>cases r;rfl
 |ty _=>cases r;rfl
theorem RelV.inj {x y:V}{u:Value}(r:RelV x u)(q:RelV y u):x=y:=Option.some.inj (r.abs.symm.trans q.abs)
theorem Vals.inj:∀{xs ys:List V} {us:List Value},Vals xs us->Vals ys us->xs=ys
 |_,_,_,.nil,.nil=>rfl
 |_,_,_,.cons r t,.cons r' t'=>by rw[r.inj r',Vals.inj t t']
section
variable {X:Cx}{pins:List (Addr×Obj)}{σ:St}{H:Hp}{s:Shared}{a:Addr}{xs ys:List V}
theorem Ao.of {K:PySem.W.Frag}(h:H a=some (.lst xs)):Ao K H a xs:= .inl (.inl h)
theorem Gi.of {K:PySem.W.Frag}(h:H a=some (.tup xs)):Gi K H a xs:= .inl (.inl h)
theorem Inv.list (I:Inv X pins σ H s)(h:Ao X.K H a xs):∃A1:List Value,Vals xs A1/\PlainL s.heap a A1.toArray/\xs.length<=sizeLine:=by
 rcases h with h | ⟨o,A1,n,hk,hc,hd,hs,hz,r⟩
 ·obtain ⟨z,A1,n,r,e⟩:=h.ok I.BL;exact ⟨A1,r,⟨_,n,e,rfl,rfl,rfl⟩,z⟩
 ·refine ⟨A1.toList,r,⟨o,n,I.Yq a o hk,hc,hd,by simpa using hs⟩,?_⟩;have e:=r.length;simp only[length_toList]at e;omega
theorem Inv.tuple (I:Inv X pins σ H s)(h:Gi X.K H a xs):∃A1:List Value,Vals xs A1/\IsTup s.heap a A1.toArray/\xs.length<=sizeLine:=by
 rcases h with h | ⟨o,A1,n,hk,hc,hs,hz,r⟩
 ·obtain ⟨z,A1,r,p⟩:=h.ok I.BL;exact ⟨A1,r,p,z⟩
 ·refine ⟨A1.toList,r,⟨o,I.Yq a o hk,hc,n,by simpa using hs⟩,?_⟩;have e:=r.length;simp only[length_toList]at e;omega
theorem Inv.o5 (I:Inv X pins σ H s)(h:Ao X.K H a xs)(h':Ao X.K H a ys):xs=ys:=by
 obtain ⟨A1,r,⟨o,n,e,_,_,d⟩,_⟩:=I.list h;obtain ⟨its',r',⟨o',n',e',_,_,d'⟩,_⟩:=I.list h';rw[e]at e';cases e';rw[d]at d';injection d' with d1 _
 have:A1=its':=by simpa using congrArg toList d1
 subst this;exact r.inj r'
end
abbrev Cx.Uu (X:Cx)(E:Value->Shared->Prop):Cx:={ X with xe:=E }
abbrev Cx.nox (X:Cx):Cx:=X.Uu fun _ _=>False
theorem Cx.Ok.Uu {X:Cx}(ok:X.Ok)(E:Value->Shared->Prop):(X.Uu E).Ok:=
 ⟨ok.mod,ok.kind,ok.glob,ok.blt,ok.above,ok.inj,ok.has,ok.cab,ok.hd,ok.frames,ok.stk,ok.exf,ok.bs,ok.vU,ok.oZ,ok.qQ,ok.Qw,ok.yZ⟩
theorem Cx.Ok.Jg {X:Cx}{E:Value->Shared->Prop}(ok:(X.Uu E).Ok):X.Ok:=
 ⟨ok.mod,ok.kind,ok.glob,ok.blt,ok.above,ok.inj,ok.has,ok.cab,ok.hd,ok.frames,ok.stk,ok.exf,ok.bs,ok.vU,ok.oZ,ok.qQ,ok.Qw,ok.yZ⟩
section
variable {X:Cx}{pins:List (Addr×Obj)}{σ:St}{H:Hp}{s:Shared}{E:Value->Shared->Prop}
theorem Inv.Uu (I:Inv X pins σ H s)(E:Value->Shared->Prop):Inv (X.Uu E) pins σ H s:=⟨I.ok.Uu E,I.os,I.bare,I.base,I.loc,I.cell,I.free,I.Hn,I.pin,I.BL,I.len⟩
theorem Inv.Jg (I:Inv (X.Uu E) pins σ H s):Inv X pins σ H s:=⟨I.ok.Jg,I.os,I.bare,I.base,I.loc,I.cell,I.free,I.Hn,I.pin,I.BL,I.len⟩
theorem SP.Jg {D:Ends}{f:Flow}{s':Shared}(h:SP (X.Uu E) pins D f s'):SP X pins D f s':=by
 cases f with
 |next=>obtain ⟨σ',H',I,q⟩:=h;exact ⟨σ',H',I.Jg,q⟩
 |brk=>obtain ⟨σ',H',I,q⟩:=h;exact ⟨σ',H',I.Jg,q⟩
 |cont=>obtain ⟨σ',H',I,q⟩:=h;exact ⟨σ',H',I.Jg,q⟩
 |ret u=>obtain ⟨v,σ',H',I,r,q⟩:=h;exact ⟨v,σ',H',I.Jg,r,q⟩
theorem lX.nox {st:List Stmt}{t:TS}(h:lX X.nox st t):lX X st t:=fun pins s σ H D I hw=>
 wpAny_mono (h pins s σ H D (I.Uu _) hw) (fun _ _ q=>q.Jg) fun _ _ z=>False.elim z
end
section
variable {X:Cx}{st:Stmt}{rest:List Stmt}{t u:TS}{e:Expr}{te:TE}{pos:Pos}
def vz:TS:=fun D σ H=>D.nx σ H
def ACn (t u:TS):TS:=fun D σ H=>t { D with nx:=u D } σ H
theorem Af:lX X [] vz:=fun _ _ σ H _ I h=>wpAny_execs_nil ⟨σ,H,I,h⟩
theorem AF (h1:PS X st t)(h2:lX X rest u):lX X (st::rest) (ACn t u):=by
 intro pins s σ H D I h;refine wpAny_execs_cons (Bx (h1 pins s σ H { D with nx:=u D } I h) fun f s1 q=>?_);cases f with
 |next=>
  obtain ⟨σ',H',I',q⟩:=q;exact h2 pins s1 σ' H' D I' q
 |ret v=>exact q
 |brk=>exact q
 |cont=>exact q
theorem AG (h1:PS X st t):lX X [st] t:=by
 intro pins s σ H D I h;refine wpAny_execs_cons (Bx (h1 pins s σ H D I h) fun f s1 q=>?_);cases f with
 |next=>exact wpAny_execs_nil q
 |ret v=>exact q
 |brk=>exact q
 |cont=>exact q
theorem Inv.quiet {pins:List (Addr×Obj)}{σ:St}{H:Hp}{s:Shared}(I:Inv X pins σ H s):interactive X.env=false:=by simp[interactive,I.ok.kind]
def AAC (te:TE):TS:=fun D σ H=>te σ H fun _ H1=>D.nx σ H1
theorem Bt (he:PE X e te)(hs:swapsWith e none pos.line X.env=pure false:=by rfl):PS X (.Expr e pos) (AAC te):=by
 intro pins s σ H D I h;exact wpAny_Expr_any (Bx (he pins s σ H _ I h) fun v s1 ⟨x,H1,I1,r1,q1⟩=>⟨σ,H1,I1,q1⟩) I.quiet hs
def zu (te:TE):TS:=fun D σ H=>te σ H D.rt
theorem AQ (he:PE X e te):PS X (.Return (some e) pos) (zu te):=by
 intro pins s σ H D I h;exact wpAny_Return_some (Bx (he pins s σ H _ I h) fun v s1 ⟨x,H1,I1,r1,q1⟩=>⟨x,σ,H1,I1,r1,q1⟩)
def AAA (c:TT)(t u:TS):TS:=fun D σ H=>c σ H fun b H1=>if b=true then t D σ H1 else u D σ H1
theorem A0 {c:Expr}{a b:List Stmt}{tc:TT}(hc:PT X c tc)(ha:lX X a t)(hb:lX X b u):PS X (.If c a b pos) (AAA tc t u):=by
 intro pins s σ H D I h;refine wpAny_If (Bx (hc pins s σ H _ I h) fun d s1 ⟨H1,I1,q1⟩=>?_);cases d with
 |true=>exact ha pins s1 σ H1 D I1 q1
 |false=>exact hb pins s1 σ H1 D I1 q1
end
abbrev TG:=V->St->Hp->(St->Hp->Prop)->Prop
def PG (X:Cx)(target:Expr)(t:TG):Prop:=
 ∀(pins:List (Addr×Obj)) (s:Shared) (σ:St) (H:Hp) (v:V) (u:Value) (Q:St->Hp->Prop),Inv X pins σ H s->RelV v u->t v σ H Q->
  wpAny (model X.prog X.w) X.A (assign target X.env u) (fun _ s'=>∃σ' H',Inv X pins σ' H' s'/\Q σ' H') X.xe s
abbrev TIp:=V->V->Hp->VK->Prop
def PIp (X:Cx)(op:Operator)(t:TIp):Prop:=
 ∀(pins:List (Addr×Obj)) (s:Shared) (σ:St) (H:Hp) (x y:V) (v u:Value) (Q:VK),Inv X pins σ H s->RelV x v->RelV y u->t x y H Q->
  wpAny (model X.prog X.w) X.A (inplaceOp op v u) (EP X pins σ Q) X.xe s
section
variable {X:Cx}{pos:Pos}
def gl (i:Nat):TG:=fun v σ H Q=>Q (σ.set i (some v)) H
theorem A2 {i:Nat}{x:Str}(hN:X.N.Nodup)(hi:X.N[i]? =some x)(hx:Loc X.env.scope x)(hf:X.fn x=true\/X.env.scope.names.lookup x=some .local:=by first | exact .inl rfl | exact .inr rfl | assumption):PG X (.Name x pos) (gl i):=by
 intro pins s σ H v u Q I r h;exact wpAny_assign_Name (RV I hN hi hx r (fun s' I'=>⟨_,H,I',h⟩) hf)
def AAF (te:TE)(g:TG):TS:=fun D σ H=>te σ H fun x H1=>g x σ H1 D.nx
theorem AZ {i:Nat}{x:Str}{e:Expr}{te:TE}{pos':Pos}(hN:X.N.Nodup)(hi:X.N[i]? =some x)(hx:Loc X.env.scope x)(he:PE X e te)(hs:swapsWith e (some (.Name x pos')) pos.line X.env=pure false:=by rfl)(hf:X.fn x=true\/X.env.scope.names.lookup x=some .local:=by first | exact .inl rfl | exact .inr rfl | assumption):
  PS X (.Assign [.Name x pos'] e pos) (AAF te (gl i)):=by
 intro pins s σ H D I h;refine wpAny_Assign_Name (Bx (he pins s σ H _ I h) fun v s1 ⟨y,H1,I1,r1,q1⟩=>?_) hs;exact RV I1 hN hi hx r1 (fun s2 I2=>⟨_,H1,I2,q1⟩) hf
def ACw (i:Nat)(te:TE)(ti:TIp):TS:=fun D σ H=>∃x,σ[i]? =some (some x)/\te σ H fun y H1=>ti x y H1 fun z H2=>D.nx (σ.set i (some z)) H2
theorem xQ {i:Nat}{x:Str}{e:Expr}{te:TE}{op:Operator}{ti:TIp}{pos':Pos}(hN:X.N.Nodup)(hi:X.N[i]? =some x)(hx:Loc X.env.scope x)(he:PE X e te)(ho:PIp X op ti)(hf:X.fn x=true\/X.env.scope.names.lookup x=some .local:=by first | exact .inl rfl | exact .inr rfl | assumption):
  PS X (.AugAssign (.Name x pos') op e pos) (ACw i te ti):=by
 intro pins s σ H D I h;obtain ⟨v,e1,h⟩:=h;obtain ⟨m,hn,hl⟩:=I.loc;have ld:yt X.env.scope x:=by rcases hx with k | k;exact .inl k;exact .inr (.inl k)
 obtain ⟨u,r,l⟩:=hl i x v hi e1 ld;refine wpAny_AugAssign_Name ?_;have go:wpAny (model X.prog X.w) X.A (eval e X.env) (fun w F0=>wpAny (model X.prog X.w) X.A (inplaceOp op u w) (fun r ZD=>wpAny (model X.prog X.w) X.A (storeName X.env x r) (fun _=>SP X pins D .next) X.xe ZD) X.xe F0) X.xe s:=by
  refine Bx (he pins s σ H _ I h) fun w s1 ⟨y,H1,I1,r1,q1⟩=>?_;refine Bx (ho pins s1 σ H1 v y u w _ I1 r r1 q1) fun z s2 ⟨zv,H2,I2,r2,q2⟩=>?_;exact RV I2 hN hi hx r2 (fun s3 I3=>⟨_,H2,I3,q2⟩) hf
 rcases l with ⟨hk,hm⟩ | ⟨hk,c,hc,gf⟩
 ·exact wpAny_loadName_local I.ok.kind hk hn hm go
 ·rcases hk with hk | hk
  ·exact wpAny_loadName_cell I.ok.kind hk hc gf go
  ·rcases hx with k | k
   ·have:X.env.scope.names.lookup x=some .free:=hk;rw[k]at this;cases this
   ·have:X.env.scope.names.lookup x=some .free:=hk;rw[k]at this;cases this
def ipI (f:Int->Int->Int):TIp:=fun x y H Q=>∃i j,x= .int i/\y= .int j/\Q (.int (f i j)) H
theorem xx:PIp X .Add (ipI fun i j=>i+j):=by
 intro pins s σ H x y v u Q I r1 r2 h;obtain ⟨i,j,e1,e2,q⟩:=h;subst e1;subst e2;obtain ⟨t,rfl⟩:=r1;obtain ⟨t',rfl⟩:=r2;exact iadd_int ⟨.int _,H,I.tok _,⟨_,rfl⟩,q⟩
end
section
variable {X:Cx}{pos:Pos}
def mZ (c:TT)(tb:TS):TS:=fun D σ H=>∃W:Nat->St->Hp->Prop,(∃m,W m σ H)/\∀m σ H,W m σ H->
 c σ H fun b H1=>if b=true then ∃N:St->Hp->Prop,(∀σ' H',N σ' H'->∃m',m'<m/\W m' σ' H')/\tb { D with nx:=N,ct:=N,bk:=D.nx } σ H1 else D.nx σ H1
theorem Zk {c:Expr}{body:List Stmt}{tc:TT}{tb:TS}(hp:PassesOwn (model X.prog X.w) X.A X.env X.xe)(hc:PT X c tc)(hb:lX X body tb):PS X (.While c body [] pos) (mZ tc tb):=by
 intro pins s σ H D I h;obtain ⟨W,⟨m0,w0⟩,turn⟩:=h;refine wpAny_While (codeAny_whileLoop (fun n s'=>∃σ' H',Inv X pins σ' H' s'/\W n σ' H') ?_ m0 ⟨σ,H,I,w0⟩);rintro n s1 ⟨σ1,H1,I1,w1⟩;refine wpAny_passesOwn hp (Bx (hc pins s1 σ1 H1 _ I1 (turn n σ1 H1 w1)) fun b s2 ⟨H2,I2,q2⟩=>?_);cases b with
 |true=>
  obtain ⟨N,hN,q2⟩:=q2;rw[if_pos rfl];refine wpAny_passesOwn hp (Bx (hb pins s2 σ1 H2 _ I2 q2) fun f s3 q3=>?_);cases f with
  |next=>
   obtain ⟨σ3,H3,I3,n3⟩:=q3;obtain ⟨m',hm,w3⟩:=hN σ3 H3 n3;exact ⟨m',hm,σ3,H3,I3,w3⟩
  |cont=>
   obtain ⟨σ3,H3,I3,n3⟩:=q3;obtain ⟨m',hm,w3⟩:=hN σ3 H3 n3;exact ⟨m',hm,σ3,H3,I3,w3⟩
  |brk=>exact q3
  |ret v=>exact q3
 |false=>
  rw[if_neg Bool.false_ne_true];exact wpAny_execs_nil ⟨σ1,H2,I2,q2⟩
end
structure It where
 go:Nat->Hp->Prop
 rR:Nat->Hp->V->Hp->Prop
 stop:Nat->Hp->Prop
def Vb (X:Cx)(pins:List (Addr×Obj))(H:Hp)(b:Addr):Prop:=
 H b=none/\b≠X.env.locals/\b∉X.fs/\(b∈X.ex\/X.Vz.heap.objs.size<=b)/\(∀x c,X.env.cells.lookup x=some c->c≠b)/\∀p∈X.pn++pins,p.1≠b
theorem Inv.ux {X:Cx}{pins:List (Addr×Obj)}{σ:St}{H H':Hp}{s:Shared}{b:Addr}(I:Inv X pins σ H s)(hb:s.heap.objs.size<=b)(hn:H' b=none):Vb X pins H' b:=by
 refine ⟨hn,Nat.ne_of_gt (Nat.lt_of_lt_of_le I.lt hb),I.ADP hb,.inr (Nat.le_trans I.sz hb),fun x c e z=>?_,fun p hp z=>?_⟩
 ·obtain ⟨v,q⟩:=I.cell x c e;exact absurd (Nat.lt_of_lt_of_le q.lt (by rw[z];exact hb)) (Nat.lt_irrefl _)
 ·exact absurd (Nat.lt_of_lt_of_le (lt_size (I.pin p hp).1) (by rw[z];exact hb)) (Nat.lt_irrefl _)
structure Turn (P:Program)(w:World)(K:PySem.W.Frag)(tg:Expr)(J:It)(fp:List Addr)(it:Addr)(tn:Nat->Heap->Prop):Prop where
 mem:it∈fp
 obj:∀i h,tn i h->∀b∈fp, ∃o,h.get? b=some o/\∀v,o.data≠ .cell v
 keep:∀i h h',tn i h->(∀b∈fp, ∀o,h.get? b=some o->h'.get? b=some o)->tn i h'
 item:∀(X:Cx),X.prog=P->X.w=w->X.K=K->X.calm=true->∀(i:Nat) (pins:List (Addr×Obj)) (s:Shared) (σ:St) (H:Hp) (E:Value->Shared->Prop),Inv X pins σ H s->(∀b∈fp,Vb X pins H b)->tn i s.heap->J.go i H->
  wpAny (model P w) X.A (pyNext (.ref it)) (fun r s1=>∃u,r=some u/\
   wpAny (model P w) X.A (letOwnedTupleGo tg (.ref it) u) (fun _ s2=>∃x H',Inv X pins σ H' s2/\RelV x u/\J.rR i H x H'/\tn (i+1) s2.heap/\∀b∈fp,H' b=none) E s1) E s
 done:∀(X:Cx),X.prog=P->X.w=w->X.K=K->X.calm=true->∀(i:Nat) (pins:List (Addr×Obj)) (s:Shared) (σ:St) (H:Hp) (E:Value->Shared->Prop),Inv X pins σ H s->(∀b∈fp,Vb X pins H b)->tn i s.heap->J.stop i H->
  wpAny (model P w) X.A (pyNext (.ref it)) (fun r s1=>r=none/\Inv X pins σ H s1) E s
 self:∀(A:Around) (i:Nat) (s:Shared) (Q:Value->Shared->Prop) (E:Value->Shared->Prop),tn i s.heap->Q (.ref it) s->wpAny (model P w) A (pyIter (.ref it)) Q E s
abbrev TI:=St->Hp->(It->Hp->Prop)->Prop
def PIE (X:Cx)(pins:List (Addr×Obj))(σ:St)(tg:Expr)(R:It->Hp->Prop)(itv:Value)(s2:Shared):Prop:=
 ∃(it:Addr) (fp:List Addr) (tn:Nat->Heap->Prop) (J:It) (H':Hp),itv= .ref it/\Inv X pins σ H' s2/\Turn X.prog X.w X.K tg J fp it tn/\tn 0 s2.heap/\(∀b∈fp,Vb X pins H' b)/\R J H'
def PI (X:Cx)(tg iter:Expr)(wi:TI):Prop:=
 ∀(pins:List (Addr×Obj)) (s:Shared) (σ:St) (H:Hp) (R:It->Hp->Prop),Inv X pins σ H s->wi σ H R->
  wpAny (model X.prog X.w) X.A (eval iter X.env) (fun v s1=>wpAny (model X.prog X.w) X.A (pyIter v) (PIE X pins σ tg R) X.xe s1) X.xe s
theorem a8 {M:Model}{A:Around}{E:Value->Shared->Prop}{s:Shared}{tg:Expr}{it:Addr}{u:Value}{o:Obj}{n:String}{vs:Array Value}{Q:Unit->Shared->Prop}(ho:s.heap.get? it=some o)(hc:o.cls= .type n)(hd:o.data= .fields vs)
  (hn: ["enumerate","zip","dict_itemiterator","dict_reverseitemiterator","odict_iterator","itertools.zip_longest","itertools.pairwise"].contains n=false) (hQ:Q () s):wpAny M A (letOwnedTupleGo tg (.ref it) u) Q E s:=by
 unfold letOwnedTupleGo;cases tg <;> first
  |exact wpAny_pure hQ
  | (cases u <;> first
    |exact wpAny_pure hQ
    | (refine wpAny_bind (wpAny_load ho ?_);rw[hc,hd];show wpAny M A (if (["enumerate","zip","dict_itemiterator","dict_reverseitemiterator","odict_iterator","itertools.zip_longest","itertools.pairwise"].contains n&&vs[0]? == some (rawInt _))=true then _ else _) Q E s;rw[if_neg (by intro h;rw[hn,Bool.false_and]at h;cases h)];exact wpAny_pure hQ))
def wt (K:PySem.W.Frag)(a:Addr):It:=
 ⟨fun i H=>∃xs x,Ao K H a xs/\xs[i]? =some x,fun i H x H'=>H'=H/\∀xs,Ao K H a xs->xs[i]? =some x,fun i H=>∃xs,Ao K H a xs/\xs.length<=i⟩
def sI (lo:Int)(n:Nat):It:=⟨fun i _=>i<n,fun i H x H'=>H'=H/\x= .int (lo+i),fun i _=>n<=i⟩
theorem iU {P:Program}{w:World}{K:PySem.W.Frag}{tg:Expr}(a it:Addr):Turn P w K tg (wt K a) [it] it (fun i h=>h.IsListIter it a i) where
 mem:=by simp
 obj:=fun i h st b hb=>by
  have e:b=it:=by simpa using hb
  subst e;isplit;obtain ⟨o,e,c,d⟩:=st;kl_no;exact ⟨o,e,fun v z=>by rw[d]at z;cases z⟩
 keep:=fun i h h' st k=>st.at fun o e=>k it (by simp) o e
 item:=by
  intro X hP hw hK hc i pins s σ H E I hf st hg;subst hP hw hK;isplit;obtain ⟨xs,x,hq,hx⟩:=hg;kl_no;isplit;obtain ⟨A1,rv,p,hz⟩:=I.list hq;kl_no;obtain ⟨u,hu,ru⟩:=rv.get hx;isplit;obtain ⟨f0,f1,f2,f3,f4,f5⟩:=hf it (by simp);kl_no;refine wpAny_pyNext_list_item st p.isList (x:=u) (by simpa using hu) fun h' Ja sb=>?_;have I1:Inv X pins σ H { s with heap:=h' }:=I.turned (t':=s.toks) (fun b o hb e=>(sb.2 b hb).trans e) f0 f1 f3 f4 f5;isplit;obtain ⟨o,e,c,d⟩:=id Ja;kl_no;exact ⟨u,rfl,a8 (s:={ s with heap:=h' }) e c d (by decide) ⟨x,H,I1,ru,⟨rfl,fun ys hy=>by rw[I.o5 hy hq];exact hx⟩,Ja,fun b hb=>(hf b hb).1⟩⟩
 done:=by
  intro X hP hw hK hc i pins s σ H E I hf st hg;subst hP hw hK;obtain ⟨xs,hq,hx⟩:=hg;isplit;obtain ⟨A1,rv,p,hz⟩:=I.list hq;kl_no;isplit;obtain ⟨f0,f1,f2,f3,f4,f5⟩:=hf it (by simp);kl_no;have hl:=rv.length;exact wpAny_pyNext_list_end (I.ok.hd hc) st p.isList (by simp;omega) fun h' eb=>⟨rfl,I.turned (t':=s.toks) (fun b o hb e=>eb b o hb e) f0 f1 f3 f4 f5⟩
 self:=fun _ _ _ _ _ st h=>wpAny_pyIter_listiter st h
theorem cO {P:Program}{w:World}{K:PySem.W.Frag}{tg:Expr}(it:Addr)(lo:Int)(n:Nat):Turn P w K tg (sI lo n) [it] it (fun i h=>IsRangeIter h it (lo+(i:Nat)*1) ((n:Int) - (i:Nat)) 1) where
 mem:=by simp
 obj:=fun i h st b hb=>by
  have e:b=it:=by simpa using hb
  subst e;exact ⟨_,st,fun v z=>by
   have z':Data.fields _=Data.cell v:=z;cases z'⟩
 keep:=fun i h h' st k=>k it (by simp) _ st
 item:=by
  intro X hP hw hK hc i pins s σ H E I hf st hg;subst hP hw hK;obtain ⟨f0,f1,f2,f3,f4,f5⟩:=hf it (by simp);have W:=Walks.range (prog:=X.prog) (w:=X.w) (I.ok.hd hc) it lo 1 n;refine W.item i s _ _ hg st fun v h' tk hv Ja kk=>?_;obtain ⟨t,rfl⟩:=hv;have I1:Inv X pins σ H { s with heap:=h',toks:=tk }:=I.turned (fun b o hb e=>kk b o (by simpa using hb) e) f0 f1 f3 f4 f5;refine ⟨_,rfl,a8 (s:={ s with heap:=h',toks:=tk }) (n:="range_iterator") Ja rfl rfl (by decide) ⟨.int (lo+i),H,I1,⟨t,?_⟩,⟨rfl,rfl⟩,Ja,fun b hb=>(hf b hb).1⟩⟩;rw[Int.mul_one]
 done:=by
  intro X hP hw hK hc i pins s σ H E I hf st hg;subst hP hw hK;obtain ⟨f0,f1,f2,f3,f4,f5⟩:=hf it (by simp);exact wpAny_pyNext_range_end (I.ok.hd hc) st (by have:n<=i:=hg;omega) fun h' eb=>⟨rfl,I.turned (t':=s.toks) (fun b o hb e=>eb b o hb e) f0 f1 f3 f4 f5⟩
 self:=fun _ _ _ _ _ st h=>wpAny_pyIter_rangeiter st h
section
variable {X:Cx}{tg:Expr}
def AAr (K:PySem.W.Frag)(tl:TE):TI:=fun σ H R=>tl σ H fun x H1=>∃a,x= .ref a/\(∃xs,Ao K H1 a xs)/\R (wt K a) H1
theorem BF {l:Expr}{tl:TE}(hl:PE X l tl):PI X tg l (AAr X.K tl):=by
 intro pins s σ H R I h;refine Bx (hl pins s σ H _ I h) fun v s1 ⟨x,H1,I1,r1,q1⟩=>?_;obtain ⟨a,e,⟨xs,hq⟩,q⟩:=q1;subst e;cases r1;obtain ⟨A1,rv,p,hz⟩:=I1.list hq;refine wpAny_pyIter_list p.isList ?_;refine ⟨s1.heap.objs.size,[s1.heap.objs.size],_,_,H1,rfl,I1.kept (t':=s1.toks) fun b o e=>get?_push_of_some _ e,iU a _,⟨_,get?_push_size _ rfl,rfl,rfl⟩,fun b hb=>?_,q⟩;have e:b=s1.heap.objs.size:=by simpa using hb
 subst e;exact I1.ux (Nat.le_refl _) (I1.BL.fresh (Nat.le_refl _))
theorem Zf {pins:List (Addr×Obj)}{σ:St}{H:Hp}{s:Shared}{R:It->Hp->Prop}{E:Value->Shared->Prop}{lo hi:Int}{t u v:Tok}{tk:Nat}(I:Inv X pins σ H s)(h1: -(2 ^ 62)<=lo)(h2:lo<2 ^ 62)(h3: -(2 ^ 62)<=hi)(h4:hi<2 ^ 62)
  (q:R (sI lo (hi - lo).toNat) H):wpAny (model X.prog X.w) X.A (pyIter (.ref s.heap.objs.size)) (PIE X pins σ tg R) E { s with heap:=s.heap.push { cls:= .type "range",data:= .fields #[.int lo t,.int hi u,.int 1 v] },toks:=tk }:=by
 refine wpAny_pyIter_range (IsRange.new ..) (small_one h1 h2 h3 h4) ?_;have I1:Inv X pins σ H { s with heap:=s.heap.push { cls:= .type "range",data:= .fields #[.int lo t,.int hi u,.int 1 v] },toks:=tk }:=I.kept fun b o e=>get?_push_of_some _ e;refine ⟨(s.heap.push { cls:= .type "range",data:= .fields #[.int lo t,.int hi u,.int 1 v] }).objs.size,[(s.heap.push { cls:= .type "range",data:= .fields #[.int lo t,.int hi u,.int 1 v] }).objs.size],_,_,H,rfl,
  I1.kept (t':=tk) fun b o e=>get?_push_of_some _ e,cO _ lo (hi - lo).toNat,?_,fun b hb=>?_,q⟩
 ·have e1:lo+((0:Nat):Int)*1=lo:=by simp
  have e2:(((hi - lo).toNat:Nat):Int) - ((0:Nat):Int)=Builtin.Range.rangeSize lo hi 1:=by rw[rangeSize_one];split <;> omega
  show IsRangeIter _ _ (lo+((0:Nat):Int)*1) ((((hi - lo).toNat:Nat):Int) - ((0:Nat):Int)) 1;rw[e1,e2];exact get?_push_size _ rfl
 ·have e:b=(s.heap.push { cls:= .type "range",data:= .fields #[.int lo t,.int hi u,.int 1 v] }).objs.size:=by simpa using hb
  subst e;exact I1.ux (Nat.le_refl _) (I1.BL.fresh (Nat.le_refl _))
def AAq (ta:TA):TI:=fun σ H R=>ta σ H fun vs H1=>∃j:Int,vs=[.int j]/\ -(2 ^ 62)<=j/\j<2 ^ 62/\R (sI 0 j.toNat) H1
def AAp (ta:TA):TI:=fun σ H R=>ta σ H fun vs H1=>∃i j:Int,vs=[.int i,.int j]/\(-(2 ^ 62)<=i/\i<2 ^ 62/\ -(2 ^ 62)<=j/\j<2 ^ 62)/\R (sI i (j - i).toNat) H1
theorem jM {a:Expr}{ta:TA}{p pos:Pos}(hg:Gl X "range")(hm:X.mg "range"=none)(ha:PA X [a] ta)(hs:starEach [a] X.env=[(false,eval a X.env)]:=by rfl):PI X tg (.Call (.Name "range" p) [a] [] pos) (AAq ta):=by
 intro pins s σ H R I h;refine Call_ (X3 I hg hm boot_range (PyProof.Rows.callWith_type1 (Bx (ha pos pins s σ H _ I h) fun us s1 ⟨vs,H1,I1,r1,q1⟩=>?_) hs rfl));obtain ⟨j,e,q1,q2,q⟩:=q1;subst e;cases r1 with
 |cons r rr=>
  cases rr;obtain ⟨t,rfl⟩:=r;exact call_range_1 (Zf I1 (by omega) (by omega) q1 q2 (by simpa using q))
theorem WB {a b:Expr}{ta:TA}{p pos:Pos}(hg:Gl X "range")(hm:X.mg "range"=none)(ha:PA X [a,b] ta)(hs:starEach [a,b] X.env=[(false,eval a X.env),(false,eval b X.env)]:=by rfl)(pU:starEach [b] X.env=[(false,eval b X.env)]:=by rfl):
  PI X tg (.Call (.Name "range" p) [a,b] [] pos) (AAp ta):=by
 intro pins s σ H R I h;refine Call_ (X3 I hg hm boot_range (PyProof.Rows.callWith_type1 (Bx (ha pos pins s σ H _ I h) fun us s1 ⟨vs,H1,I1,r1,q1⟩=>?_) (by rw[hs,pU]) (by rw[pU];rfl)));obtain ⟨i,j,e,⟨q1,q2,q3,q4⟩,q⟩:=q1;subst e;cases r1 with
 |cons r rr=>
  cases rr with
  |cons r' rr=>
   cases rr;obtain ⟨t,rfl⟩:=r;obtain ⟨t',rfl⟩:=r';exact call_range_2 (Zf I1 q1 q2 q3 q4 q)
def ACu (wi:TI)(g:TG)(tb:TS):TS:=fun D σ H=>wi σ H fun J H1=>∃W:Nat->Nat->St->Hp->Prop,(∃m,W 0 m σ H1)/\∀i m σ H,W i m σ H->
 (J.stop i H/\D.nx σ H)\/(J.go i H/\∃N:St->Hp->Prop,(∀σ' H',N σ' H'->∃m',m'<m/\W (i+1) m' σ' H')/\∀x H',J.rR i H x H'->g x σ H' fun σ2 H2=>tb { D with nx:=N,ct:=N,bk:=D.nx } σ2 H2)
def SL (fp:List Addr)(h:Heap):List (Addr×Obj):=fp.filterMap fun b=>(h.get? b).map fun o=>(b,o)
theorem Md {fp:List Addr}{h:Heap}{b:Addr}{o:Obj}(hb:b∈fp)(e:h.get? b=some o):(b,o)∈SL fp h:=mem_filterMap.mpr ⟨b,hb,by rw[e];rfl⟩
theorem ja {fp:List Addr}{h:Heap}{p:Addr×Obj}(hp:p∈SL fp h):p.1∈fp/\h.get? p.1=some p.2:=by
 obtain ⟨b,hb,e⟩:=mem_filterMap.mp hp;cases q:h.get? b with
 |none=>rw[q]at e;cases e
 |some o=>
  rw[q]at e;have e':(b,o)=p:=Option.some.inj e;subst e';exact ⟨hb,q⟩
theorem Inv.pinned {pins:List (Addr×Obj)}{σ:St}{H:Hp}{s:Shared}{fp:List Addr}(I:Inv X pins σ H s)(hf:∀b∈fp,Vb X pins H b)(ho:∀b∈fp, ∃o,s.heap.get? b=some o/\∀v,o.data≠ .cell v):Inv X (pins++SL fp s.heap) σ H s:=
 I.fw fun p hp=>(mem_append.mp hp).elim (fun z=>I.pin p (mem_append_right _ z)) fun z=>by
  obtain ⟨hb,e⟩:=ja z;obtain ⟨f0,f1,f2,_⟩:=hf p.1 hb;obtain ⟨o,e',d⟩:=ho p.1 hb;rw[e]at e';cases e';exact ⟨e,f0,f1,f2,d⟩
theorem Inv.M4 {pins pl:List (Addr×Obj)}{σ:St}{H:Hp}{s:Shared}(I:Inv X (pins++pl) σ H s):Inv X pins σ H s:=I.fw fun p hp=>I.pin p (mem_append_right _ (mem_append_left _ hp))
theorem Du {iter:Expr}{body:List Stmt}{wi:TI}{g:TG}{tb:TS}{pos:Pos}(hp:PassesOwn (model X.prog X.w) X.A X.env X.xe)(hc:X.calm=true)(hi:PI X tg iter wi)(hg:PG X tg g)(hb:lX X body tb)
  (hs:∀x,foldedSetIterable iter X.env x=pure x:=by intro _;rfl):PS X (.For tg iter body [] pos) (ACu wi g tb):=by
 intro pins s σ H D I h;refine wpAny_For (Bx (hi pins s σ H _ I h) fun v s1 h1=>Bx h1 fun itv s2 h2=>?_) hs;isplit;obtain ⟨it,fp,tn,J,H2,e,I2,T,yz,f2,W,⟨m0,w0⟩,turn⟩:=h2;kl_no;subst e;have stat:∀{H':Hp},(∀b∈fp,H' b=none)->∀b∈fp,Vb X pins H' b:=fun hn b hb=>⟨hn b hb,(f2 b hb).2⟩;refine codeAny_forLoop_any (fun n s'=>∃i σ' H',Inv X pins σ' H' s'/\tn i s'.heap/\(∀b∈fp,H' b=none)/\W i n σ' H') ?_ m0 ⟨0,σ,H2,I2,yz,fun b hb=>(f2 b hb).1,w0⟩;intro n s3 zz;isplit;obtain ⟨i,σ3,H3,I3,st3,fr3,w3⟩:=zz;kl_no;rcases turn i n σ3 H3 w3 with ⟨stop,qn⟩ | ⟨go,N,hN,step⟩
 ·refine wpAny_passesOwn hp (Bx (T.done X rfl rfl rfl hc i pins s3 σ3 H3 X.xe I3 (stat fr3) st3 stop) fun r s4 ⟨hr,I4⟩=>?_);subst hr;exact wpAny_execs_nil ⟨σ3,H3,I4,qn⟩
 ·refine wpAny_passesOwn hp (Bx (T.item X rfl rfl rfl hc i pins s3 σ3 H3 X.xe I3 (stat fr3) st3 go) fun r s4 ⟨u,hr,h4⟩=>?_);subst hr;refine wpAny_passesOwn hp (Bx h4 fun _ s5 ⟨x,H5,I5,r5,y5,yy,fr5⟩=>?_);have I5':=I5.pinned (stat fr5) (T.obj _ _ yy);refine wpAny_passesOwn hp (Bx (hg _ s5 σ3 H5 x u _ I5' r5 (step x H5 y5)) fun _ s6 ⟨σ6,H6,I6,q6⟩=>?_);refine wpAny_passesOwn hp (Bx (hb _ s6 σ6 H6 _ I6 q6) fun f s7 q7=>?_);have again:∀{σ7:St} {H7:Hp},Inv X (pins++SL fp s5.heap) σ7 H7 s7->N σ7 H7->∃m,m<n/\∃i σ' H',Inv X pins σ' H' s7/\tn i s7.heap/\(∀b∈fp,H' b=none)/\W i m σ' H':=fun {σ7 H7} I7 n7=>by
   obtain ⟨m',hm,w7⟩:=hN σ7 H7 n7;refine ⟨m',hm,i+1,σ7,H7,I7.M4,T.keep _ _ _ yy fun b hb o e=>(I7.pin (b,o) (mem_append_right _ (mem_append_right _ (Md hb e)))).1,fun b hb=>?_,w7⟩;obtain ⟨o,e,d⟩:=T.obj _ _ yy b hb;exact (I7.pin (b,o) (mem_append_right _ (mem_append_right _ (Md hb e)))).2.1
  cases f with
  |next=>isplit;obtain ⟨σ7,H7,I7,n7⟩:=q7;kl_no;exact again I7 n7
  |cont=>isplit;obtain ⟨σ7,H7,I7,n7⟩:=q7;kl_no;exact again I7 n7
  |brk=>isplit;obtain ⟨σ7,H7,I7,q7⟩:=q7;kl_no;exact ⟨σ7,H7,I7.M4,q7⟩
  |ret v=>isplit;obtain ⟨x7,σ7,H7,I7,r7,q7⟩:=q7;kl_no;exact ⟨x7,σ7,H7,I7.M4,r7,q7⟩
end
theorem Ch {K:PySem.W.Frag}{a:Addr}{xs:List V}{g:TG}{tb:TS}{D:Ends}{σ:St}{H:Hp}(Pv:Nat->St->Hp->Prop)(h0:Pv 0 σ H)(hl:∀i σ H,i<=xs.length->Pv i σ H->Ao K H a xs)
  (hs:∀i x σ H,xs[i]? =some x->Pv i σ H->g x σ H fun σ2 H2=>tb { D with nx:=Pv (i+1),ct:=Pv (i+1),bk:=D.nx } σ2 H2) (hd:∀σ H,Pv xs.length σ H->D.nx σ H):
  ∃W:Nat->Nat->St->Hp->Prop,(∃m,W 0 m σ H)/\∀i m σ H,W i m σ H->
   ((wt K a).stop i H/\D.nx σ H)\/((wt K a).go i H/\∃N:St->Hp->Prop,(∀σ' H',N σ' H'->∃m',m'<m/\W (i+1) m' σ' H')/\∀x H',(wt K a).rR i H x H'->g x σ H' fun σ2 H2=>tb { D with nx:=N,ct:=N,bk:=D.nx } σ2 H2):=by
 refine ⟨fun i m σ H=>m=xs.length - i/\i<=xs.length/\Pv i σ H,⟨xs.length,by simp,zero_le _,h0⟩,?_⟩;rintro i m σ H ⟨rfl,hi,p⟩;have q:=hl i σ H hi p;by_cases C2:i<xs.length
 ·refine .inr ⟨⟨xs,xs[i],q,by simp[C2]⟩,Pv (i+1),fun σ' H' p'=>⟨xs.length - (i+1),by omega,rfl,C2,p'⟩,fun x H' y=>?_⟩;obtain ⟨e,y⟩:=y;subst e;exact hs i x σ _ (y xs q) p
 ·have e:i=xs.length:=by omega
  subst e;exact .inl ⟨⟨xs,q,Nat.le_refl _⟩,hd σ H p⟩
theorem Wm {lo:Int}{n:Nat}{g:TG}{tb:TS}{D:Ends}{σ:St}{H:Hp}(Pv:Nat->St->Hp->Prop)(h0:Pv 0 σ H)
  (hs:∀i σ H,i<n->Pv i σ H->g (.int (lo+i)) σ H fun σ2 H2=>tb { D with nx:=Pv (i+1),ct:=Pv (i+1),bk:=D.nx } σ2 H2) (hd:∀σ H,Pv n σ H->D.nx σ H):
  ∃W:Nat->Nat->St->Hp->Prop,(∃m,W 0 m σ H)/\∀i m σ H,W i m σ H->
   ((sI lo n).stop i H/\D.nx σ H)\/((sI lo n).go i H/\∃N:St->Hp->Prop,(∀σ' H',N σ' H'->∃m',m'<m/\W (i+1) m' σ' H')/\∀x H',(sI lo n).rR i H x H'->g x σ H' fun σ2 H2=>tb { D with nx:=N,ct:=N,bk:=D.nx } σ2 H2):=by
 refine ⟨fun i m σ H=>m=n - i/\i<=n/\Pv i σ H,⟨n,by simp,zero_le _,h0⟩,?_⟩;rintro i m σ H ⟨rfl,hi,p⟩;by_cases C2:i<n
 ·refine .inr ⟨C2,Pv (i+1),fun σ' H' p'=>⟨n - (i+1),by omega,rfl,C2,p'⟩,fun x H' y=>?_⟩;obtain ⟨e,y⟩:=y;subst e y;exact hs i σ _ C2 p
 ·have e:i=n:=by omega
  subst e;exact .inl ⟨Nat.le_refl _,hd σ H p⟩
theorem Yv {c:TT}{tb:TS}{D:Ends}{σ:St}{H:Hp}(Pv:St->Hp->Prop)(μ:St->Hp->Nat)(h0:Pv σ H)
  (hs:∀σ H,Pv σ H->c σ H fun b H1=>if b=true then tb { D with nx:=fun σ' H'=>Pv σ' H'/\μ σ' H'<μ σ H,ct:=fun σ' H'=>Pv σ' H'/\μ σ' H'<μ σ H,bk:=D.nx } σ H1 else D.nx σ H1)
  (mono:∀σ H Q Q',(∀b H1,Q b H1->Q' b H1)->c σ H Q->c σ H Q'):mZ c tb D σ H:=by
 refine ⟨fun m σ H=>m=μ σ H/\Pv σ H,⟨_,rfl,h0⟩,?_⟩;rintro m σ H ⟨rfl,p⟩;refine mono σ H _ _ (fun b H1 q=>?_) (hs σ H p);cases b with
 |true=>exact ⟨_,fun σ' H' ⟨p',l⟩=>⟨_,l,rfl,p'⟩,q⟩
 |false=>exact q
abbrev R2:=V->V->Hp->VK->Prop
def Px (X:Cx)(f:Value->Value->Sem Value)(r:R2):Prop:=
 ∀(pins:List (Addr×Obj)) (s:Shared) (σ:St) (H:Hp) (x y:V) (v u:Value) (Q:VK),Inv X pins σ H s->RelV x v->RelV y u->r x y H Q->
  wpAny (model X.prog X.w) X.A (f v u) (EP X pins σ Q) X.xe s
def UnR (X:Cx)(f:Value->Sem Value)(r:V->Hp->VK->Prop):Prop:=
 ∀(pins:List (Addr×Obj)) (s:Shared) (σ:St) (H:Hp) (x:V) (v:Value) (Q:VK),Inv X pins σ H s->RelV x v->r x H Q->
  wpAny (model X.prog X.w) X.A (f v) (EP X pins σ Q) X.xe s
def Fm (X:Cx)(f:Value)(r:List V->Hp->VK->Prop):Prop:=
 ∀(pins:List (Addr×Obj)) (s:Shared) (σ:St) (H:Hp) (xs:List V) (us:List Value) (Q:VK),Inv X pins σ H s->Vals xs us->r xs H Q->
  wpAny (model X.prog X.w) X.A (call f us) (EP X pins σ Q) X.xe s
def AFC (X:Cx)(r:V->Hp->(Bool->Hp->Prop)->Prop):Prop:=
 ∀(pins:List (Addr×Obj)) (s:Shared) (σ:St) (H:Hp) (x:V) (v:Value) (Q:Bool->Hp->Prop),Inv X pins σ H s->RelV x v->r x H Q->
  wpAny (model X.prog X.w) X.A (truthy v) (TP X pins σ Q) X.xe s
def xA (r:R2)(ta tb:TE):TE:=fun σ H Q=>ta σ H fun x H1=>tb σ H1 fun y H2=>r x y H2 Q
def tUn (r:V->Hp->VK->Prop)(ta:TE):TE:=fun σ H Q=>ta σ H fun x H1=>r x H1 Q
def v9 (g:Int->Int->V):R2:=fun x y H Q=>∃i j,x= .int i/\y= .int j/\Q (g i j) H
def rU (g:Int->V):V->Hp->VK->Prop:=fun x H Q=>∃i,x= .int i/\Q (g i) H
section
variable {X:Cx}{a b c:Expr}{ta tb tc:TE}{pos:Pos}
theorem yp (ha:PE X a ta)(hb:PE X b tb){pins:List (Addr×Obj)}{s:Shared}{σ:St}{H:Hp}{R:V->V->Hp->Prop}(I:Inv X pins σ H s)
  (h:ta σ H fun x H1=>tb σ H1 fun y H2=>R x y H2) {Q:Value->Shared->Prop} {f:Value->Value->Sem Value}
  (hf:∀v u s2 x y H2,Inv X pins σ H2 s2->RelV x v->RelV y u->R x y H2->wpAny (model X.prog X.w) X.A (f v u) Q X.xe s2):
  wpAny (model X.prog X.w) X.A (eval a X.env) (fun v Bq=>wpAny (model X.prog X.w) X.A (eval b X.env) (fun u F0=>wpAny (model X.prog X.w) X.A (f v u) Q X.xe F0) X.xe Bq) X.xe s:=by
 refine Bx (ha pins s σ H _ I h) fun v s1 ⟨x,H1,I1,r1,q1⟩=>?_;refine Bx (hb pins s1 σ H1 _ I1 q1) fun u s2 ⟨y,H2,I2,r2,q2⟩=>?_;exact hf v u s2 x y H2 I2 r1 r2 q2
theorem CI {op:Operator}{r:R2}(ho:Px X (binaryOp op) r)(ha:PE X a ta)(hb:PE X b tb):PE X (.BinOp a op b pos) (xA r ta tb):=by
 kxf_if;exact wpAny_BinOp (yp ha hb I h fun v u s2 x y H2 I2 rx ry q=>ho pins s2 σ H2 x y v u Q I2 rx ry q)
theorem wB {op:UnaryOp}{r:V->Hp->VK->Prop}(ho:UnR X (unaryOp op) r)(ha:PE X a ta):PE X (.UnaryOp op a pos) (tUn r ta):=by
 kxf_if;exact UnaryOp_ (Bx (ha pins s σ H _ I h) fun v s1 ⟨x,H1,I1,r1,q1⟩=>ho pins s1 σ H1 x v Q I1 r1 q1)
theorem AAR {f:Value->Value->Sem Value}{g:Int->Int->Int}
  (rule:∀(i j:Int) (t u:Tok) (s:Shared) (Q:Value->Shared->Prop) (E:Value->Shared->Prop),Q (.int (g i j) s.toks) { s with toks:=s.toks+1 }->wpAny (model X.prog X.w) X.A (f (.int i t) (.int j u)) Q E s):
  Px X f (v9 fun i j=> .int (g i j)):=by
 intro pins s σ H x y v u Q I rx ry h;obtain ⟨i,j,rfl,rfl,q⟩:=h;obtain ⟨t,rfl⟩:=rx;obtain ⟨t',rfl⟩:=ry;exact rule i j t t' s _ _ ⟨.int (g i j),H,I.tok _,⟨_,rfl⟩,q⟩
theorem tO {f:Value->Value->Sem Value}{g:Int->Int->Bool}
  (rule:∀(i j:Int) (t u:Tok) (s:Shared) (Q:Value->Shared->Prop) (E:Value->Shared->Prop),Q (.bool (g i j)) s->wpAny (model X.prog X.w) X.A (f (.int i t) (.int j u)) Q E s):
  Px X f (v9 fun i j=> .bl (g i j)):=by
 intro pins s σ H x y v u Q I rx ry h;obtain ⟨i,j,rfl,rfl,q⟩:=h;obtain ⟨t,rfl⟩:=rx;obtain ⟨t',rfl⟩:=ry;exact rule i j t t' s _ _ ⟨.bl (g i j),H,I,rfl,q⟩
theorem Sd:Px X (binaryOp .Add) (v9 fun i j=> .int (i+j)):=AAR fun _ _ _ _ _ _ _ q=>add_int q
theorem SX:Px X (binaryOp .Sub) (v9 fun i j=> .int (i - j)):=AAR fun _ _ _ _ _ _ _ q=>sub_int q
theorem unI {f:Value->Sem Value}{g:Int->Int}
  (rule:∀(i:Int) (t:Tok) (s:Shared) (Q:Value->Shared->Prop) (E:Value->Shared->Prop),Q (.int (g i) s.toks) { s with toks:=s.toks+1 }->wpAny (model X.prog X.w) X.A (f (.int i t)) Q E s):
  UnR X f (rU fun i=> .int (g i)):=by
 intro pins s σ H x v Q I rx h;obtain ⟨i,rfl,q⟩:=h;obtain ⟨t,rfl⟩:=rx;exact rule i t s _ _ ⟨.int (g i),H,I.tok _,⟨_,rfl⟩,q⟩
theorem mN:UnR X (unaryOp .USub) (rU fun i=> .int (-i)):=unI fun _ _ _ _ _ q=>neg_int q
end
def AAK:V->V->Bool
 | .Bo,.Bo=>true | .Bo,.int _=>true | .int _,.Bo=>true | .Bo,.bl _=>true | .bl _,.Bo=>true | .Bo,.str _=>true | .str _,.Bo=>true
 | .int _,.int _=>true | .bl _,.bl _=>true | .str _,.str _=>true | .Ye _,.Ye _=>true
 | .int _,.str _=>true | .str _,.int _=>true | .bl _,.str _=>true | .str _,.bl _=>true
 |_,_=>false
def rEq:R2:=fun x y H Q=>AAK x y=true/\Q (.bl (decide (x=y))) H
def rNe:R2:=fun x y H Q=>AAK x y=true/\Q (.bl (!decide (x=y))) H
theorem gv {i j:Int}:decide (V.int i=V.int j)=(i==j):=by
 rw[Bool.eq_iff_iff];simp
theorem qc {i j:Bool}:decide (V.bl i=V.bl j)=(i==j):=by
 rw[Bool.eq_iff_iff];simp
theorem gu {i j:Str}:decide (V.str i=V.str j)=(i==j):=by
 rw[Bool.eq_iff_iff];simp
theorem gw {i j:Array UInt8}:decide (V.Ye i=V.Ye j)=(i.toList==j.toList):=by
 rw[Bool.eq_iff_iff];cases i;cases j;simp
section
variable {X:Cx}{a b c:Expr}{ta tb tc:TE}{pos:Pos}
theorem BE {pins:List (Addr×Obj)}{σ:St}{H:Hp}{s:Shared}{Q:VK}{k k':Bool}(I:Inv X pins σ H s)(q:Q (.bl k) H)(e:k=k'):EP X pins σ Q (.bool k') s:=by
 subst e;exact ⟨.bl k,H,I,rfl,q⟩
theorem Ea:Px X (compareOp .Eq) rEq:=by
 intro pins s σ H x y v u Q I rx ry h;obtain ⟨hs,q⟩:=h;cases x with
 |Bo=>
  cases rx;cases y with
  |Bo=>cases ry;exact PySem.EqNone.eq_none_none (BE I q (by simp))
  |bl j=>cases ry;exact PySem.EqNone.eq_none_bool (BE I q (by simp))
  |int j=>obtain ⟨t',rfl⟩:=ry;exact PySem.EqNone.eq_none_int (BE I q (by simp))
  |str j=>obtain ⟨t',rfl⟩:=ry;exact PySem.EqNone.eq_none_str (BE I q (by simp))
  |_=>exact absurd (show false=true from hs) Bool.false_ne_true
 |bl i=>
  cases rx;cases y with
  |Bo=>cases ry;exact PySem.EqNone.eq_bool_none (BE I q (by simp))
  |bl j=>cases ry;exact eq_bool (BE I q qc)
  |str j=>obtain ⟨t',rfl⟩:=ry;exact PySem.EqMixed.eq_bool_str (BE I q (by simp))
  |_=>exact absurd (show false=true from hs) Bool.false_ne_true
 |int i=>
  obtain ⟨t,rfl⟩:=rx;cases y with
  |Bo=>cases ry;exact PySem.EqNone.eq_int_none (BE I q (by simp))
  |int j=>obtain ⟨t',rfl⟩:=ry;exact eq_int (BE I q gv)
  |str j=>obtain ⟨t',rfl⟩:=ry;exact PySem.EqMixed.eq_int_str (BE I q (by simp))
  |_=>exact absurd (show false=true from hs) Bool.false_ne_true
 |str i=>
  obtain ⟨t,rfl⟩:=rx;cases y with
  |Bo=>cases ry;exact PySem.EqNone.eq_str_none (BE I q (by simp))
  |bl j=>cases ry;exact PySem.EqMixed.eq_str_bool (BE I q (by simp))
  |int j=>obtain ⟨t',rfl⟩:=ry;exact PySem.EqMixed.eq_str_int (BE I q (by simp))
  |str j=>obtain ⟨t',rfl⟩:=ry;exact eq_str (BE I q gu)
  |_=>exact absurd (show false=true from hs) Bool.false_ne_true
 |Ye i=>
  obtain ⟨t,rfl⟩:=rx;cases y with
  |Ye j=>obtain ⟨t',rfl⟩:=ry;exact PySem.W.eq_bytes (BE I q gw)
  |_=>exact absurd (show false=true from hs) Bool.false_ne_true
 |_=>cases y <;> exact absurd (show false=true from hs) Bool.false_ne_true
theorem SY:Px X (compareOp .NotEq) rNe:=by
 intro pins s σ H x y v u Q I rx ry h;obtain ⟨hs,q⟩:=h;cases x with
 |Bo=>
  cases rx;cases y with
  |Bo=>cases ry;exact PySem.EqNone.ne_none_none (BE I q (by simp))
  |bl j=>cases ry;exact PySem.EqNone.ne_none_bool (BE I q (by simp))
  |int j=>obtain ⟨t',rfl⟩:=ry;exact PySem.EqNone.ne_none_int (BE I q (by simp))
  |str j=>obtain ⟨t',rfl⟩:=ry;exact PySem.EqNone.ne_none_str (BE I q (by simp))
  |_=>exact absurd (show false=true from hs) Bool.false_ne_true
 |bl i=>
  cases rx;cases y with
  |Bo=>cases ry;exact PySem.EqNone.ne_bool_none (BE I q (by simp))
  |bl j=>cases ry;exact ne_bool (BE I q (congrArg not qc))
  |str j=>obtain ⟨t',rfl⟩:=ry;exact PySem.EqMixed.ne_bool_str (BE I q (by simp))
  |_=>exact absurd (show false=true from hs) Bool.false_ne_true
 |int i=>
  obtain ⟨t,rfl⟩:=rx;cases y with
  |Bo=>cases ry;exact PySem.EqNone.ne_int_none (BE I q (by simp))
  |int j=>obtain ⟨t',rfl⟩:=ry;exact ne_int (BE I q (congrArg not gv))
  |str j=>obtain ⟨t',rfl⟩:=ry;exact PySem.EqMixed.ne_int_str (BE I q (by simp))
  |_=>exact absurd (show false=true from hs) Bool.false_ne_true
 |str i=>
  obtain ⟨t,rfl⟩:=rx;cases y with
  |Bo=>cases ry;exact PySem.EqNone.ne_str_none (BE I q (by simp))
  |bl j=>cases ry;exact PySem.EqMixed.ne_str_bool (BE I q (by simp))
  |int j=>obtain ⟨t',rfl⟩:=ry;exact PySem.EqMixed.ne_str_int (BE I q (by simp))
  |str j=>obtain ⟨t',rfl⟩:=ry;exact ne_str (BE I q (congrArg not gu))
  |_=>exact absurd (show false=true from hs) Bool.false_ne_true
 |Ye i=>
  obtain ⟨t,rfl⟩:=rx;cases y with
  |Ye j=>obtain ⟨t',rfl⟩:=ry;exact PySem.W.ne_bytes (BE I q (congrArg not gw))
  |_=>exact absurd (show false=true from hs) Bool.false_ne_true
 |_=>cases y <;> exact absurd (show false=true from hs) Bool.false_ne_true
theorem Gs:Px X (compareOp .Lt) (v9 fun i j=> .bl (decide (i<j))):=tO fun _ _ _ _ _ _ _ q=>lt_int q
theorem GH:Px X (compareOp .LtE) (v9 fun i j=> .bl (decide (i<=j))):=tO fun _ _ _ _ _ _ _ q=>le_int q
theorem gB:Px X (compareOp .Gt) (v9 fun i j=> .bl (decide (j<i))):=tO fun _ _ _ _ _ _ _ q=>gt_int q
theorem AAQ:Px X (compareOp .GtE) (v9 fun i j=> .bl (decide (j<=i))):=tO fun _ _ _ _ _ _ _ q=>ge_int q
theorem oB:Px X (compareOp .Is) (fun x y H Q=>y= .Bo/\Q (.bl (decide (x= .Bo))) H):=by
 intro pins s σ H x y v u Q I rx ry h;obtain ⟨rfl,q⟩:=h;cases ry;refine is_none_gen (BE I q ?_);cases x <;> first
  | (cases rx;rfl)
  | (obtain ⟨t,rfl⟩:=rx;rfl)
theorem Av (b:Expr){op:CmpOp}(h:op≠ .In:=by decide)(h2:op≠ .NotIn:=by decide):behindInMarks op b=false:=by
 have e1:(op==CmpOp.In)=false:=by cases op <;> first | rfl | exact absurd rfl h
 have e2:(op==CmpOp.NotIn)=false:=by cases op <;> first | rfl | exact absurd rfl h2
 cases b <;> simp[behindInMarks,e1,e2]
theorem DX {op:CmpOp}{r:R2}(ho:Px X (compareOp op) r)(ha:PE X a ta)(hb:PE X b tb)(hm:behindInMarks op b=false):PE X (.Compare a [op] [b] pos) (xA r ta tb):=by
 kxf_if;exact wpAny_Compare1 (yp ha hb I h fun v u s2 x y H2 I2 rx ry q=>ho pins s2 σ H2 x y v u Q I2 rx ry q) hm
def md (t:TE):TT:=fun σ H Q=>t σ H fun x H'=>∃k,x= .bl k/\Q k H'
theorem Al {op:CmpOp}{r:R2}(ho:Px X (compareOp op) r)(ha:PE X a ta)(hb:PE X b tb)(hm:behindInMarks op b=false):PT X (.Compare a [op] [b] pos) (md (xA r ta tb)):=by
 kxf_if;refine wpAny_isTrue_Compare1 (Bx (ha pins s σ H _ I h) fun v s1 ⟨x,H1,I1,r1,q1⟩=>Bx (hb pins s1 σ H1 _ I1 q1) fun u s2 ⟨y,H2,I2,r2,q2⟩=>
  Bx (ho pins s2 σ H2 x y v u _ I2 r1 r2 q2) fun c s3 ⟨z,H3,I3,r3,k,e,q3⟩=>?_) hm
 subst e;cases r3;exact wpAny_truthy_bool ⟨H3,I3,q3⟩
def ml (r r':R2)(ta tb tc:TE):TE:=fun σ H Q=>ta σ H fun x H1=>tb σ H1 fun y H2=>r x y H2 fun z H3=>∃k,z= .bl k/\
 (if k=true then tc σ H3 fun w' H4=>r' y w' H4 Q else Q (.bl false) H3)
theorem Nk {op xW:CmpOp}{r r':R2}(ho:Px X (compareOp op) r)(Wa:Px X (compareOp xW) r')(ha:PE X a ta)(hb:PE X b tb)(hc:PE X c tc)
  (hm:lastMarks [op,xW] [b,c]=false:=by with_unfolding_all rfl):PE X (.Compare a [op,xW] [b,c] pos) (ml r r' ta tb tc):=by
 kxf_if;refine Compare_chain (Bx (ha pins s σ H _ I h) fun v s1 ⟨x,H1,I1,r1,q1⟩=>chain_link (Bx (hb pins s1 σ H1 _ I1 q1) fun u s2 ⟨y,H2,I2,r2,q2⟩=>
  Bx (ho pins s2 σ H2 x y v u _ I2 r1 r2 q2) fun d s3 ⟨z,H3,I3,r3,k,e,q3⟩=>?_)) hm
 subst e;cases r3;refine wpAny_truthy_bool ?_;cases k with
 |false=>exact ite_ff ⟨.bl false,H3,I3,rfl,q3⟩
 |true=>exact ite_tt (chain_last (Bx (hc pins s3 σ H3 _ I3 q3) fun w' s4 ⟨z',H4,I4,r4,q4⟩=>Wa pins s4 σ H4 y z' u w' Q I4 r2 r4 q4))
theorem SK {op xW:CmpOp}{r r':R2}(ho:Px X (compareOp op) r)(Wa:Px X (compareOp xW) r')(ha:PE X a ta)(hb:PE X b tb)(hc:PE X c tc)
  (hm:lastMarks [op,xW] [b,c]=false:=by with_unfolding_all rfl):PT X (.Compare a [op,xW] [b,c] pos) (md (ml r r' ta tb tc)):=by
 kxf_if;refine isTrue_chain (Bx (ha pins s σ H _ I h) fun v s1 ⟨x,H1,I1,r1,q1⟩=>test_link (Bx (hb pins s1 σ H1 _ I1 q1) fun u s2 ⟨y,H2,I2,r2,q2⟩=>
  Bx (ho pins s2 σ H2 x y v u _ I2 r1 r2 q2) fun d s3 ⟨z,H3,I3,r3,k,e,q3⟩=>?_)) hm
 subst e;cases r3;refine wpAny_truthy_bool ?_;cases k with
 |false=>
  obtain ⟨k',e',q'⟩:=q3;cases e';exact ite_ff ⟨H3,I3,q'⟩
 |true=>
  refine ite_tt (test_last (Bx (hc pins s3 σ H3 _ I3 q3) fun w' s4 ⟨z',H4,I4,r4,q4⟩=>Bx (Wa pins s4 σ H4 y z' u w' _ I4 r2 r4 q4) fun d' s5 ⟨z2,H5,I5,r5,k2,e2,q5⟩=>?_));subst e2;cases r5;exact wpAny_truthy_bool ⟨H5,I5,q5⟩
def vq (K:PySem.W.Frag)(x:V)(H:Hp)(k:Bool):Prop:=
 match x with
 | .Bo=>k=false
 | .bl b=>k=b
 | .int i=>k=(i != 0)
 | .str y=>y.length<=sizeLine/\k=((y.length:Int) != 0)
 | .Ye y=>y.size<=sizeLine/\k=((y.size:Int) != 0)
 | .ref p=>(∃xs,Ao K H p xs/\k= !xs.isEmpty)\/(∃xs,Gi K H p xs/\k= !xs.isEmpty)\/∃AV,H p=some (.dK AV)/\k= !AV.isEmpty
 |_=>False
theorem di {κ:Type}{AV:List (κ×V)}{vs:List (κ×Value)}(r:KV AV vs):(!vs.isEmpty)= !AV.isEmpty:=by
 cases r <;> rfl
theorem Te {xs:List V}{A1:List Value}(r:Vals xs A1):(!A1.toArray.isEmpty)= !xs.isEmpty:=by
 cases r <;> simp
theorem PD:(sizeLine:Nat)<2 ^ 63:=by rw[sizeLine_eq];decide
theorem cQ:AFC X (fun x H Q=>∃k,vq X.K x H k/\Q k H):=by
 intro pins s σ H x v Q I rx h;obtain ⟨k,e,q⟩:=h;have hl:=PD;have hs:sizeLine=16777216:=sizeLine_eq;cases x with
 |Bo=>
  cases rx;have e':k=false:=e;subst e';exact truthy_none ⟨H,I,q⟩
 |bl b=>
  cases rx;have e':k=b:=e;subst e';exact wpAny_truthy_bool ⟨H,I,q⟩
 |int i=>
  obtain ⟨t,rfl⟩:=rx;have e':k=(i != 0):=e;subst e';exact PySem.P.truthy_int ⟨H,I,q⟩
 |str y=>
  obtain ⟨t,rfl⟩:=rx;obtain ⟨hy,e'⟩:y.length<=sizeLine/\k=((y.length:Int) != 0):=e;subst e';exact PySem.P.truthy_str (by omega) ⟨H,I.tok _,q⟩
 |Ye y=>
  obtain ⟨t,rfl⟩:=rx;obtain ⟨hy,e'⟩:y.size<=sizeLine/\k=((y.size:Int) != 0):=e;subst e';exact PySem.W.truthy_bytes (by omega) ⟨H,I.tok _,q⟩
 |ref p=>
  cases rx;have e':(∃xs,Ao X.K H p xs/\k= !xs.isEmpty)\/(∃xs,Gi X.K H p xs/\k= !xs.isEmpty)\/∃AV,H p=some (.dK AV)/\k= !AV.isEmpty:=e;rcases e' with ⟨xs,hx,e'⟩ | ⟨xs,hx,e'⟩ | ⟨AV,hx,e'⟩
  ·subst e';obtain ⟨A1,r,pl,hz⟩:=I.list hx;have hlen:=r.length;exact wpAny_truthy_list pl.isList (by simp only[size_toArray];omega) ⟨H,I.tok _,by rw[Te r];exact q⟩
  ·subst e';obtain ⟨A1,r,pl,hz⟩:=I.tuple hx;have hlen:=r.length;exact truthy_tuple pl (by simp only[size_toArray];omega) ⟨H,I.tok _,by rw[Te r];exact q⟩
  ·subst e';obtain ⟨hz,hS,vs,r,m⟩:AV.length<=sizeLine/\(p==sysModules)=false/\∃vs,KV AV vs/\s.heap.DictOf (Ah X.prog X.w) p vs:=I.BL p _ hx;have hlen:AV.length=vs.length:=Paired.length r;exact wpAny_truthy_dict hS m (by omega) ⟨H,I.tok _,by rw[di r];exact q⟩
 |_=>exact (show False from e).elim
theorem Zj (ha:PE X a ta)(he:∀whole,isTrue a X.env whole=(do let v <- whole;standAt a.pos;holding [v] (truthy v))):
  PT X a (fun σ H Q=>ta σ H fun x H'=>∃k,vq X.K x H' k/\Q k H'):=by
 kxf_if;exact isTrue_plain (Bx (ha pins s σ H _ I h) fun v s1 ⟨x,H1,I1,r1,q1⟩=>cQ pins s1 σ H1 x v Q I1 r1 q1) (he _)
theorem cp:Px X (binaryOp .Add) (fun x y H Q=>∃i j,x= .str i/\y= .str j/\i.length+j.length<=sizeLine/\Q (.str (i++j)) H):=by
 intro pins s σ H x y v u Q I rx ry h;obtain ⟨i,j,rfl,rfl,hz,q⟩:=h;obtain ⟨t,rfl⟩:=rx;obtain ⟨t',rfl⟩:=ry;exact add_str (fun t' tk=>⟨.str (i++j),H,I.tok _,⟨_,rfl⟩,q⟩) hz
theorem vals1 {x:V}{us:List Value}(r:Vals [x] us):∃u,us=[u]/\RelV x u:=by
 cases r with
 |cons r1 r2=>cases r2;exact ⟨_,rfl,r1⟩
theorem Ya:Fm X (.type "str") (fun xs H Q=>∃i,xs=[.int i]/\i.natAbs.log2<1920/\Q (.str (toString i)) H):=by
 intro pins s σ H xs us Q I r h;obtain ⟨i,rfl,hz,q⟩:=h;obtain ⟨u,rfl,t,rfl⟩:=vals1 r;exact PySem.P.str_of_int hz ⟨.str _,H,I.tok _,⟨_,rfl⟩,q⟩
theorem UJ:Fm X (.builtin "ord") (fun xs H Q=>∃x,xs=[.str x]/\x.length=1/\Q (.int (x.cps.getD 0 0:Nat)) H):=by
 intro pins s σ H xs us Q I r h;obtain ⟨x,rfl,hz,q⟩:=h;obtain ⟨u,rfl,t,rfl⟩:=vals1 r;exact ord_of_one hz ⟨.int _,H,I.tok _,⟨_,rfl⟩,q⟩
end
structure fM (h:Heap)(x dx C:Addr)(mA:Str->Option Value):Prop where
 obj:h.get? x=some (instObj C dx)
 ns:h.Ns1 dx mA
 ne:dx≠x
theorem jr {h:Heap}{dx:Addr}{mA:Str->Option Value}(n:h.Ns1 dx mA):∃od,h.get? dx=some od/\∀name,lookIn name od=some (mA name):=by
 obtain ⟨o,es,ep,ho,hd,hk,_,hm⟩:=n;refine ⟨o,ho,fun name=>?_⟩;have e:=hm name;unfold nsFind findBy at e;rw[<- Array.find?_toList]at e;unfold lookIn;rw[hd];dsimp only;split
 ·rename_i y q;rw[q]at e;exact congrArg some e
 ·rename_i q;rw[q]at e;have a:es.toList.any (·.refKey)=false:=by
   rw[List.any_eq_false];intro y hy;obtain ⟨z,t,Ti⟩:=hk y (Array.mem_toList_iff.mp hy);simp[DictEntry.refKey,Ti]
  have a':¬ es.toList.any (·.refKey)=true:=by rw[a];exact Bool.false_ne_true
  rw[if_neg a'];exact congrArg some e
theorem fM.look {h:Heap}{x dx C:Addr}{mA:Str->Option Value}(I:fM h x dx C mA):∃od,PySem.W.InstAt h x (instObj C dx) C (some od)/\∀name,lookIn name od=some (mA name):=
 let ⟨od,ho,hl⟩:=jr I.ns
 ⟨od,⟨I.obj,rfl,rfl,ho⟩,hl⟩
section
variable {prog:Program}{w:World}{A:Around}{E:Value->Shared->Prop}{s:Shared}{K:PySem.W.Frag}{x dx C f:Addr}{mA:Str->Option Value}{name:Str}{v:Value}
theorem get_map {expr:Bool}{Q:Value->Shared->Prop}(X:K.In s.heap)(I:fM s.heap x dx C mA)(hg:plainGet K C name=true)(hh:hasDictIn K C=true)
  (ha:findIn K (.ref C) name=some none) (hv:mA name=some v) (hv':handedIn v=true) (h:Q v { s with toks:=s.toks+1 }):
  wpAny (model prog w) A (getAttr (.ref x) name expr) Q E s:=by
 obtain ⟨od,J,hl⟩:=I.look;exact PySem.W.get_value X J (plainGet_of hg).1 (PySem.W.findObj_own hh ha rfl (by rw[hl,hv])) hv' h
theorem qH {pl:Sem Bool}{Q:Value×List Value->Shared->Prop}(X:K.In s.heap)(I:fM s.heap x dx C mA)(hg:plainGet K C name=true)
  (hf:findIn K (.ref C) name=some (some (.ref f))) (ht:isFn K (.ref f)=true) (hv:mA name=none) (h:Q (.ref f,[.ref x]) s):
  wpAny (model prog w) A (getMethod (.ref x) name pl) Q E s:=by
 obtain ⟨od,J,hl⟩:=I.look;exact PySem.W.method_fn X J (plainGet_of hg).1 (plainGet_of hg).2 hf (beq_iff_eq.mp ht) (by show (lookIn name od).map (·.isSome)=some false;rw[hl,hv];rfl) h
theorem sZ {ns:List Str}{Q:Unit->Shared->Prop}(X:K.In s.heap)(I:fM s.heap x dx C mA)
  (hs:findIn K (.ref C) "__setattr__"=some (some (.builtin "object.__setattr__"))) (hp:plainOver K C=true) (ht:takerIn K C name=some none) (hh:hasDictIn K C=true)
  (hw:PySem.Within mA ns) (hsz:ns.length<=sizeLine)
  (h:∀h',fM h' x dx C (fun y=>if y=name then some v else mA y)->Heap.SameBut dx s.heap h'->Q () { s with heap:=h',toks:=s.toks+2 }):
  wpAny (model prog w) A (setAttr (.ref x) name v) Q E s:=by
 obtain ⟨od,J,hl⟩:=I.look;refine PySem.W.set_plain X J hs (PySem.W.osa_open (s:={ s with toks:=s.toks+1 }) (r:=none) X J hp ht fun b=>?_);obtain ⟨cd,hc,hd'⟩:=PySem.W.any_some hh;have hx:s.heap.get? x=some ⟨.ref C,some dx,.plain, #[]⟩:=I.obj;refine wpAny_bind (wpAny_pure (wpAny_bind (wpAny_bind (wpAny_loadPart hx (wpAny_bind (PySem.W.Looks.here (s:={ s with toks:=s.toks+1 }) (PySem.W.looks_clsIn X hc) ?_))))));rw[hd'];refine wpAny_pure (a:=some dx) (wpAny_bind (wpAny_pure (wpAny_bind ?_)));refine wpAny_nsSet1 (s:={ s with toks:=s.toks+1 }) I.ns fun h' Ge pU=>?_;obtain ⟨oD,esD,epD,hoD,hdD,hcD⟩:=Ge.count (PySem.Within.cons name v hw);refine wpAny_bind (wpAny_lookBehind hoD (by rw[hdD];exact pastItsLine_dict (Nat.le_trans hcD (by rw[length_cons];omega))) ?_);exact wpAny_pure (h _ ⟨(pU.2 _ (Ne.symm I.ne)).trans I.obj,Ge,I.ne⟩ pU)
theorem oy {R:Result->Shared->Prop}{vs:List Value}{kw:List (Str×Value)}(X:K.In s.heap)(hm:makesIn K C=true)
  (hi:findIn K (.ref C) "__init__"=some (some (.ref f))) (hf:typeIn K (.ref f)=some (.type "function"))
  (h:codeAny (model prog w) (A.under (.builtin "type.__call__" ⟨.ref C::vs,kw⟩)) (.call (.ref f) ⟨.ref (s.heap.objs.size+1)::vs,kw⟩) (PySem.W.InitBack (s.heap.objs.size+1) R)
   { s with heap:=(s.heap.push emptyDict).push (instObj C s.heap.objs.size) }):
  codeAny (model prog w) A (.call (.ref C) ⟨vs,kw⟩) R s:=by
 obtain ⟨hh,g,d,t,os⟩:=s;exact PySem.W.make_core (PySem.W.makes_of X hm) (PySem.W.looks_findIn X hi) (fun self=>PySem.W.bind_fn X self hf) (.inl rfl) h
end
def BX (f:Str)(v:V):List (Str×V)->List (Str×V)
 | []=> [(f,v)]
 | (g,x)::r=>if g=f then (g,v)::r else (g,x)::BX f v r
theorem A4 (f g:Str)(v:V):∀fs:List (Str×V),(BX f v fs).lookup g=if g=f then some v else fs.lookup g
 | []=>by
  show List.lookup g [(f,v)]=_;by_cases h:g=f
  ·have hb:(g==f)=true:=beq_iff_eq.mpr h;simp only[List.lookup,hb,if_pos h]
  ·have hb:(g==f)=false:=beq_eq_false_iff_ne.mpr h;simp only[List.lookup,hb,if_neg h]
 | (k,x)::r=>by
  have ih:=A4 f g v r;rw[show BX f v ((k,x)::r)=(if k=f then (k,v)::r else (k,x)::BX f v r)from rfl];by_cases hk:k=f
  ·rw[if_pos hk];by_cases h:g=k
   ·have hb:(g==k)=true:=beq_iff_eq.mpr h;simp only[List.lookup,hb,if_pos (h.trans hk)]
   ·have hb:(g==k)=false:=beq_eq_false_iff_ne.mpr h;simp only[List.lookup,hb,if_neg (fun e:g=f=>h (e.trans hk.symm))]
  ·rw[if_neg hk];by_cases h:g=k
   ·have hb:(g==k)=true:=beq_iff_eq.mpr h;simp only[List.lookup,hb,if_neg (fun e:g=f=>hk (h.symm.trans e))]
   ·have hb:(g==k)=false:=beq_eq_false_iff_ne.mpr h;simp only[List.lookup,hb];exact ih
theorem PJ (f:Str)(v:V):∀fs:List (Str×V),f∈(BX f v fs).map (·.1)/\∀g,g∈fs.map (·.1)->g∈(BX f v fs).map (·.1)
 | []=>⟨by simp[BX],fun g h=>by simp at h⟩
 | (k,x)::r=>by
  obtain ⟨i1,i2⟩:=PJ f v r;rw[show BX f v ((k,x)::r)=(if k=f then (k,v)::r else (k,x)::BX f v r)from rfl];by_cases hk:k=f
  ·rw[if_pos hk];subst hk;exact ⟨by simp,fun g h=>by simpa using h⟩
  ·rw[if_neg hk];refine ⟨?_,fun g h=>?_⟩
   ·rw[map_cons];exact mem_cons_of_mem _ i1
   ·rw[map_cons]at h ⊢;rcases mem_cons.mp h with e | e
    ·exact mem_cons.mpr (.inl e)
    ·exact mem_cons_of_mem _ (i2 g e)
theorem QK (f:Str)(v:V):∀fs:List (Str×V),(BX f v fs).length<=fs.length+1
 | []=>by simp[BX]
 | (k,x)::r=>by
  have ih:=QK f v r;rw[show BX f v ((k,x)::r)=(if k=f then (k,v)::r else (k,x)::BX f v r)from rfl];by_cases hk:k=f
  ·rw[if_pos hk,length_cons,length_cons];omega
  ·rw[if_neg hk,length_cons,length_cons];omega
theorem JZ.some_of {v:V}{o:Option Value}(r:JZ (some v) o):∃u,o=some u/\RelV v u:=by
 cases o with
 |none=>exact (show False from r).elim
 |some u=>exact ⟨u,rfl,r⟩
theorem JZ.none_of {o:Option Value}(r:JZ none o):o=none:=by
 cases o with
 |none=>rfl
 |some u=>exact (show False from r).elim
theorem kM {v:V}{u:Value}(r:RelV v u):handedIn u=true:=by
 cases v with
 |Bo=>cases (show u=Value.none from r);rfl
 |bl b=>cases (show u=Value.bool b from r);rfl
 |int i=>obtain ⟨t,e⟩:=(show ∃t,u=Value.int i t from r);cases e;rfl
 |str x=>obtain ⟨t,e⟩:=(show ∃t,u=Value.str x t from r);cases e;rfl
 |Ye b=>obtain ⟨t,e⟩:=(show ∃t,u=Value.bytes b t from r);cases e;rfl
 |flt b=>obtain ⟨t,e⟩:=(show ∃t,u=Value.float b t from r);cases e;rfl
 |ref a=>cases (show u=Value.ref a from r);rfl
 |ty n=>cases (show u=Value.type n from r);rfl
section
variable {P:Program}{w:World}{H H':Hp}{h h':Heap}{a C dx:Addr}{fs GW:List (Str×V)}
theorem X8 (BL:Kn P w H h)(e:H a=some (.ins C dx fs)):∃mA,fM h a dx C mA/\(∀f,JZ (fs.lookup f) (mA f))/\PySem.Within mA (fs.map (·.1))/\fs.length<=1000/\H dx=some (.own a):=by
 obtain ⟨d,z,ne,ob,mA,n,r,q⟩:=(show C1 P w H h a (.ins C dx fs)from BL a _ e);exact ⟨mA,⟨ob,n,ne⟩,r,q,z,d⟩
end
structure fP (K:PySem.W.Frag)(C:Addr):Prop where
 pg:plainGet K C Str.empty=true
 hd:hasDictIn K C=true
 po:plainOver K C=true
 sa:findIn K (.ref C) "__setattr__"=some (some (.builtin "object.__setattr__"))
theorem fP.get {K:PySem.W.Frag}{C:Addr}(c:fP K C)(f:Str):plainGet K C f=true:=c.pg
def A6 (K:PySem.W.Frag)(C:Addr)(f:Str):Prop:=findIn K (.ref C) f=some none
theorem A6.zr {K:PySem.W.Frag}{C:Addr}{f:Str}(n:A6 K C f):takerIn K C f=some none:=by
 unfold takerIn;rw[show findIn K (.ref C) f=some none from n];rfl
structure Meth (K:PySem.W.Frag)(C:Addr)(m:Str)(f:Addr):Prop where
 at_:findIn K (.ref C) m=some (some (.ref f))
 fn:isFn K (.ref f)=true
 kp:keepIn K (.ref f)=true
section
variable {X:Cx}{pins:List (Addr×Obj)}{σ:St}{H:Hp}{s:Shared}{a C dx:Addr}{fs:List (Str×V)}{f:Str}{v:V}{A:Around}{E:Value->Shared->Prop}
theorem Tr {b:Bool}{Q:Value->Shared->Prop}(I:Inv X pins σ H s)(e:H a=some (.ins C dx fs))(c:fP X.K C)(n:A6 X.K C f)(l:fs.lookup f=some v)
  (h:∀u s',Inv X pins σ H s'->RelV v u->Q u s'):wpAny (model X.prog X.w) A (getAttr (.ref a) f b) Q E s:=by
 obtain ⟨mA,O,r,_,_,_⟩:=X8 I.BL e;obtain ⟨u,hu,ru⟩:=JZ.some_of (v:=v) (o:=mA f) (by rw[<- l];exact r f);exact get_map I.Yq O (c.get f) c.hd n hu (kM ru) (h u _ (I.tok _) ru)
theorem Tq {m:Str}{g:Addr}{pl:Sem Bool}{Q:Value×List Value->Shared->Prop}(I:Inv X pins σ H s)(e:H a=some (.ins C dx fs))(c:fP X.K C)(k:Meth X.K C m g)(l:fs.lookup m=none)
  (h:Q (.ref g,[.ref a]) s):wpAny (model X.prog X.w) A (getMethod (.ref a) m pl) Q E s:=by
 obtain ⟨mA,O,r,_,_,_⟩:=X8 I.BL e;have hn:mA m=none:=JZ.none_of (by rw[<- l];exact r m);exact qH I.Yq O (c.get m) k.at_ k.fn hn h
theorem Rh {y:V}{u:Value}{Q:Unit->Shared->Prop}(I:Inv X pins σ H s)(e:H a=some (.ins C dx fs))(c:fP X.K C)(n:A6 X.K C f)(hl:fs.length<1000)(ry:RelV y u)
  (h:∀s',Inv X pins σ (upd H a (.ins C dx (BX f y fs))) s'->Q () s'):wpAny (model X.prog X.w) A (setAttr (.ref a) f u) Q E s:=by
 obtain ⟨mA,O,r,wi,_,ho⟩:=X8 I.BL e;have hz:(fs.map (·.1)).length<=sizeLine:=by rw[length_map,sizeLine_eq];omega
 refine sZ I.Yq O c.sa c.po n.zr c.hd wi hz fun h' O' sb=>h _ ?_;have hd:∃o,h'.get? dx=some o:=let ⟨o,_,_,e',_⟩:=O'.ns;⟨o,e'⟩;refine I.write (x:=a) (e:=dx) (by rw[e];exact True.intro) (.inr ho) (fun b q hb z=>(sb.2 b hb).trans z) hd ?_;refine ⟨by rw[AI O.ne];exact ho,?_,O.ne,O'.obj,_,O'.ns,fun g=>?_,fun g hg=>?_⟩
 ·have:=QK f y fs;omega
 ·show JZ ((BX f y fs).lookup g) (if g=f then some u else mA g);rw[A4];by_cases q:g=f
  ·rw[if_pos q,if_pos q];exact ry
  ·rw[if_neg q,if_neg q];exact r g
 ·by_cases q:g=f
  ·rw[q];exact (PJ f y fs).1
  ·refine (PJ f y fs).2 g (wi g fun z=>hg ?_);show (if g=f then some u else mA g)=none;rw[if_neg q];exact z
theorem Inv.made (I:Inv X pins σ H s):Inv X pins σ (upd (upd H s.heap.objs.size (.own (s.heap.objs.size+1))) (s.heap.objs.size+1) (.ins C s.heap.objs.size []))
  { s with heap:=(s.heap.push emptyDict).push (instObj C s.heap.objs.size) }:=by
 have e1:(s.heap.push emptyDict).get? s.heap.objs.size=some emptyDict:=get?_push_size s.heap rfl;have e2:((s.heap.push emptyDict).push (instObj C s.heap.objs.size)).get? (s.heap.objs.size+1)=some (instObj C s.heap.objs.size):=by
  have:=get?_push_size (s.heap.push emptyDict) (o:=instObj C s.heap.objs.size) rfl
  rwa [size_push]at this
 have e3:(s.heap.push emptyDict).Ns s.heap.objs.size (fun _=>none):=⟨emptyDict, #[],_,e1,rfl,(fun e he=>absurd he (by simp)),fun _=>rfl⟩;have I1:=I.laid (a:=s.heap.objs.size) (o:= .own (s.heap.objs.size+1)) (h':=s.heap.push emptyDict) (t':=s.toks) (fun b u q=>get?_push_of_some _ q) (Nat.le_refl _) ⟨_,e1⟩;refine I1.laid (a:=s.heap.objs.size+1) (o:= .ins C s.heap.objs.size []) (t':=s.toks) (fun b u q=>get?_push_of_some _ q) (Nat.le_of_eq (size_push _ _)) ?_;have ne:s.heap.objs.size≠s.heap.objs.size+1:=ne_of_lt (Nat.lt_succ_self _);refine ⟨by rw[AI ne,AB],zero_le _,ne,e2,fun _=>none,(Heap.Ns1.of_empty e3).at fun o q=>get?_push_of_some _ q,fun _=>True.intro,fun y hy=>absurd rfl hy⟩
theorem vi {prog:Program}{w:World}{env:Env}{e:Expr}{f:Str}{pos:Pos}{s:Shared}{Q:Value->Shared->Prop}(hb:attributeBase e f env (eval e env)=eval e env)
  (h:wpAny (model prog w) A (eval e env) (fun o Bq=>wpAny (model prog w) A (getAttr o f true) Q E Bq) E s):wpAny (model prog w) A (eval (.Attribute e f pos) env) Q E s:=
 Attribute_any_ h (by rw[arm_eval_Attribute,hb])
end
def AAB (K:PySem.W.Frag)(ta:TE)(f:Str):TE:=fun σ H Q=>ta σ H fun x H1=>∃a C dx fs v,x= .ref a/\H1 a=some (.ins C dx fs)/\fP K C/\A6 K C f/\fs.lookup f=some v/\Q v H1
def AC0 (K:PySem.W.Frag)(ta tv:TE)(f:Str):TS:=fun D σ H=>tv σ H fun y H1=>ta σ H1 fun x H2=>∃a C dx fs,x= .ref a/\H2 a=some (.ins C dx fs)/\fP K C/\A6 K C f/\fs.length<1000/\
 D.nx σ (upd H2 a (.ins C dx (BX f y fs)))
def ABs (X:Cx)(op:Operator)(rd:V->V->Hp->VK->Prop):Prop:=
 ∀(pins:List (Addr×Obj)) (s:Shared) (σ:St) (H:Hp) (x y:V) (u v:Value) (Q:VK),Inv X pins σ H s->RelV x u->RelV y v->rd x y H Q->wpAny (model X.prog X.w) X.A (inplaceOp op u v) (EP X pins σ Q) X.xe s
def sh (K:PySem.W.Frag)(ta tv:TE)(rd:V->V->Hp->VK->Prop)(f:Str):TS:=fun D σ H=>ta σ H fun x H1=>∃a C dx fs v,x= .ref a/\H1 a=some (.ins C dx fs)/\fP K C/\A6 K C f/\fs.lookup f=some v/\
 tv σ H1 fun y H2=>rd v y H2 fun z H3=>∃K8 GW,H3 a=some (.ins C K8 GW)/\GW.length<1000/\D.nx σ (upd H3 a (.ins C K8 (BX f z GW)))
section
variable {X:Cx}{o e value:Expr}{f:Str}{pos pos' zq:Pos}{ta tv:TE}
theorem Ap (he:PE X e ta)(hb:attributeBase e f X.env (eval e X.env)=eval e X.env):PE X (.Attribute e f pos) (AAB X.K ta f):=by
 kxf_if;refine vi hb (Bx (he pins s σ H _ I h) fun u s1 ⟨x,H1,I1,rx,a,C,dx,fs,v,ex,ea,c,n,l,q⟩=>?_);subst ex;obtain rfl:u=Value.ref a:=rx;exact Tr I1 ea c n l fun u' s2 I2 ru=>⟨v,H1,I2,ru,q⟩
theorem CV (ha:PE X o ta)(hv:PE X value tv)(hs:swapsWith value (some (.Attribute o f pos')) pos.line X.env=pure false):PS X (.Assign [.Attribute o f pos'] value pos) (AC0 X.K ta tv f):=by
 intro pins s σ H D I h;refine plainObj_wpAny_Assign_Attribute (Bx (hv pins s σ H _ I h) fun u s1 ⟨y,H1,I1,ry,q⟩=>Bx (ha pins s1 σ H1 _ I1 q) fun ov s2 ⟨x,H2,I2,rx,a,C,dx,fs,ex,ea,c,n,l,q2⟩=>?_) hs;subst ex;obtain rfl:ov=Value.ref a:=rx;exact Rh I2 ea c n l ry fun s3 I3=>⟨σ,_,I3,q2⟩
theorem V8 {op:Operator}{rd:V->V->Hp->VK->Prop}(ha:PE X o ta)(hv:PE X value tv)(zL:ABs X op rd):PS X (.AugAssign (.Attribute o f zq) op value pos) (sh X.K ta tv rd f):=by
 intro pins s σ H D I h;refine wpAny_AugAssign_AttributeAny (Bx (ha pins s σ H _ I h) fun ov s1 ⟨x,H1,I1,rx,a,C,dx,fs,v,ex,ea,c,n,l,q⟩=>?_);subst ex;obtain rfl:ov=Value.ref a:=rx;refine Tr I1 ea c n l fun u s2 I2 ru=>Bx (hv pins s2 σ H1 _ I2 q) fun w3 s3 ⟨y,H2,I3,ry,q3⟩=>Bx (zL pins s3 σ H2 v y u w3 _ I3 ru ry q3) fun w4 s4 ⟨z,H3,I4,rz,K8,GW,ea',l',q4⟩=>?_;exact Rh I4 ea' c n l' rz fun s5 I5=>⟨σ,_,I5,q4⟩
def ADE:V->V->Hp->VK->Prop:=fun x y H Q=>∃i j,x= .int i/\y= .int j/\Q (.int (i+j)) H
theorem pP:ABs X .Add ADE:=by
 rintro pins s σ H x y u v Q I rx ry ⟨i,j,rfl,rfl,q⟩;obtain ⟨t,rfl⟩:=(show ∃t,u=Value.int i t from rx);obtain ⟨t',rfl⟩:=(show ∃t',v=Value.int j t' from ry);exact PyProof.Rows.iadd_int ⟨.int (i+j),H,I.tok _,⟨_,rfl⟩,q⟩
end
section
variable {X:Cx}{pins:List (Addr×Obj)}{σ:St}{H:Hp}{s:Shared}{A:Around}{E:Value->Shared->Prop}{Q:Value->Shared->Prop}{c:Value}{b:Bool}
end
structure Aq (k:Nat)(A:Around):Prop where
 hd:A.handled=none
 dp:A.depth+3*k+5<recursionLimit
 un:A.units+16*k+200<cLine
theorem Aq.mono {j k:Nat}{A:Around}(r:Aq k A)(h:j<=k):Aq j A:=⟨r.hd,by have:=r.dp;omega,by have:=r.un;omega⟩
theorem Aq.deeper {k:Nat}{A:Around}(r:Aq (k+1) A)(env:Env):Aq k (A.deeper env):=
 ⟨r.hd,by have:=r.dp;show A.depth+1+3*k+5<_;omega,by have:=r.un;show A.units+3+16*k+200<_;omega⟩
theorem dX {A:Around}{C:Addr}{us:List Value}{kw:List (Str×Value)}:(A.under (.builtin "type.__call__" ⟨.ref C::us,kw⟩)).depth=A.depth+1:=by
 first | rfl | simp[Around.under,Code.weight,Code.isCreation,Code.isGuard,Code.isCaller,Code.frames,Code.isFrame,guardIds]
theorem dW {A:Around}{C:Addr}{us:List Value}{kw:List (Str×Value)}:(A.under (.builtin "type.__call__" ⟨.ref C::us,kw⟩)).units=A.units+1:=by
 first | rfl | simp[Around.under,Code.cUnits,Code.frames,Code.isFrame]
theorem Aq.make {k:Nat}{A:Around}(r:Aq (k+1) A)(C:Addr)(us:List Value)(kw:List (Str×Value)):Aq k (A.under (.builtin "type.__call__" ⟨.ref C::us,kw⟩)):=
 ⟨r.hd,by have:=r.dp;rw[dX];omega,by have:=r.un;rw[dW];omega⟩
theorem Aq.depth {k:Nat}{A:Around}(r:Aq k A):A.depth<recursionLimit:=by have:=r.dp;omega
theorem Aq.units {k:Nat}{A:Around}(r:Aq k A):A.units+64<cLine:=by have:=r.un;omega
def sU:TA:=fun _ H Q=>Q [] H
def mj (ta:TE)(tr:TA):TA:=fun σ H Q=>ta σ H fun x H1=>tr σ H1 fun xs H2=>Q (x::xs) H2
section
variable {X:Cx}{e:Expr}{es:List Expr}{te:TE}{t:TA}{pos:Pos}
theorem AC:PA X [] sU:=fun _ _ _ _ H Q I h=>Calls.spliced_nil ⟨[],H,I,.nil,h⟩
theorem AA (ha:PE X e te)(hr:PA X es t)(hs:starEach (e::es) X.env=(false,eval e X.env)::starEach es X.env:=by rfl):PA X (e::es) (mj te t):=by
 intro pos pins s σ H Q I h;rw[hs];show wpAny _ _ (spliced ((false,eval e X.env)::backTo pos (starEach es X.env))) _ _ s;refine Calls.spliced_cons (Bx (ha pins s σ H _ I h) fun u s1 ⟨x,H1,I1,r1,q1⟩=>?_);exact Bx (hr pos pins s1 σ H1 _ I1 q1) fun us s2 ⟨xs,H2,I2,r2,q2⟩=>⟨x::xs,H2,I2,.cons r1 r2,q2⟩
def ACm (t:TA):TE:=fun σ H Q=>t σ H fun xs H1=>xs.length<=sizeLine/\∀p,H1 p=none->Q (.ref p) (upd H1 p (.tup xs))
def ACs (t:TA):TE:=fun σ H Q=>t σ H fun xs H1=>xs.length<=sizeLine/\∀p,H1 p=none->Q (.ref p) (upd H1 p (.lst xs))
theorem SM {x1}(h:PA X es t):PE X (.Tuple es x1 pos) (ACm t):=by
 intro pins s σ H Q I hq;refine wpAny_Tuple_spliced (Bx (h pos pins s σ H _ I hq) fun us s1 ⟨xs,H1,I1,r,z,q⟩=>⟨by rw[<- r.length];exact z,?_⟩);have hf:H1 s1.heap.objs.size=none:=I1.BL.fresh (Nat.le_refl _);refine ⟨.ref s1.heap.objs.size,upd H1 s1.heap.objs.size (.tup xs),I1.laid (t':=s1.toks) (fun b u e=>get?_push_of_some _ e) (Nat.le_refl _) ?_,rfl,q _ hf⟩;exact ⟨z,us,r,⟨_,get?_push_size _ rfl,rfl,_,rfl⟩⟩
theorem Aj (h:PA X es t):PE X (.List es pos) (ACs t):=by
 intro pins s σ H Q I hq;refine wpAny_List_spliced (Bx (h pos pins s σ H _ I hq) fun us s1 ⟨xs,H1,I1,r,z,q⟩=>⟨by rw[<- r.length];exact z,?_⟩);have hf:H1 s1.heap.objs.size=none:=I1.BL.fresh (Nat.le_refl _);refine ⟨.ref s1.heap.objs.size,upd H1 s1.heap.objs.size (.lst xs),I1.laid (t':=s1.toks) (fun b u e=>get?_push_of_some _ e) (Nat.le_refl _) ?_,rfl,q _ hf⟩;exact ⟨z,us,0,r,get?_push_size _ rfl⟩
end
abbrev Sp:=List V->Hp->VK->XK->Prop
abbrev lZ:=List Env->Hp->Shared->XK->Value->Shared->Prop
structure fN (P:Program)(w:World)(K:PySem.W.Frag)(mg:Str->Option Value)(base:Heap)(A:Around)(outer:List Env)(s:Shared)(H:Hp):Prop where
 frames:A.frames=some outer
 mod:Mod K mg base
 bs:∀b o,base.get? b=some o->s.heap.get? b=some o/\H b=none
 vU:base.objs.size<=s.heap.objs.size
 Qw:s.heap.FunFrames base outer
 yZ:∀b∈qK outer,H b=none
 BL:Kn P w H s.heap
 bare:AllBare s.gens
def CE (outer:List Env)(P:Program)(w:World)(H:Hp)(s:Shared)(Q:VK)(u:Value)(s':Shared):Prop:=
 ∃v H',s'.os=s.os/\AllBare s'.gens/\Un (qK outer) [] H H' s.heap s'.heap/\Kn P w H' s'.heap/\RelV v u/\Q v H'
def CR (CX:lZ)(outer:List Env)(P:Program)(w:World)(H:Hp)(s:Shared)(Q:VK)(E:XK)(r:Result)(s':Shared):Prop:=
 match r with
 | .ok (.ret u)=>CE outer P w H s Q u s'
 | .ok _=>False
 | .error e=>CX outer H s E e s'
structure AR (P:Program)(w:World)(K:PySem.W.Frag)(mg:Str->Option Value)(base:Heap)(CX:lZ)(k:Nat)(f:Addr)(fd:FuncData)(ps:List Str)(sp:Sp):Prop where
 len:∀vs H Q E,sp vs H Q E->vs.length=ps.length
 run:∀(A:Around) (outer:List Env) (s:Shared) (H:Hp) (args:Args) (us:List Value) (vs:List V) (Q:VK) (E:XK),Aq k A->fN P w K mg base A outer s H->BindsTo s fd args (ps.zip us)->Vals vs us->sp vs H Q E->
  codeAny (model P w) A (.call (.ref f) args) (CR CX outer P w H s Q E) s
theorem fN.make {P:Program}{w:World}{K:PySem.W.Frag}{mg:Str->Option Value}{base:Heap}{A:Around}{outer:List Env}{s:Shared}{H:Hp}(e:fN P w K mg base A outer s H)(C:Addr)(us:List Value)(kw:List (Str×Value)):
  fN P w K mg base (A.under (.builtin "type.__call__" ⟨.ref C::us,kw⟩)) outer s H:=⟨by first | exact e.frames | (simpa [Around.under,Code.envs,Code.isFrame,pushEnvs]using e.frames),e.mod,e.bs,e.vU,e.Qw,e.yZ,e.BL,e.bare⟩
section
variable {X:Cx}{pins:List (Addr×Obj)}{σ:St}{H:Hp}{s s':Shared}
theorem Inv.ABd (I:Inv X pins σ H s):fN X.prog X.w X.K X.mg X.base X.A X.stack s H:=
 ⟨I.ok.frames,I.ok.mod,I.bs,Nat.le_trans I.ok.vU I.sz,I.stack,I.fW,I.BL,I.bare⟩
theorem Inv.after {Q:VK}{u:Value}(I:Inv X pins σ H s)(h:CE X.stack X.prog X.w H s Q u s'):EP X pins σ Q u s':=by
 obtain ⟨v,H',os,bare,un,BL,r,q⟩:=h;obtain ⟨hh,g,d,t,os'⟩:=s';obtain rfl:os'=s.os:=os;exact ⟨v,H',I.call (h':=hh) (g':=g) (d':=d) (t':=t) (ch:= []) un BL bare (fun b z=>absurd z (by simp)),r,q⟩
end
def AAE (sp:Sp)(RH:List V)(E:XK)(t:TA):TE:=fun σ H Q=>t σ H fun vs H1=>sp (vs++RH) H1 Q E
def v0 (C:Addr)(m:Str)(sp:Sp)(RH:List V)(E:XK)(ta:TE)(t:TA):TE:=fun σ H Q=>ta σ H fun x H1=>∃a dx fs,x= .ref a/\H1 a=some (.ins C dx fs)/\fs.lookup m=none/\
 t σ H1 fun vs H2=>sp (x::(vs++RH)) H2 Q E
def mh (C:Addr)(sp:Sp)(RH:List V)(E:XK)(t:TA):TE:=fun σ H Q=>t σ H fun vs H1=>∀x dx,H1 x=none->H1 dx=none->dx≠x->
 sp (.ref x::(vs++RH)) (upd (upd H1 dx (.own x)) x (.ins C dx [])) (fun v H2=>v= .Bo/\Q (.ref x) H2) E
def Binds (K:PySem.W.Frag)(fd:FuncData)(ps:List Str)(ds:List Value):Prop:=
 ∀(s:Shared) (us:List Value),K.In s.heap->(us++ds).length=ps.length->BindsTo s fd ⟨us,[]⟩ (ps.zip (us++ds))
theorem Binds.all {K:PySem.W.Frag}{fd:FuncData}{ps:List Str}(h:∀us:List Value,us.length=ps.length->bindArgs fd ⟨us,[]⟩=pure (ps.zip us)):Binds K fd ps []:=fun s us _ hl=>by
 rw[append_nil]at hl ⊢;exact .of_eq (h us hl)
def Iv (CX:lZ)(X:Cx)(E:XK):Prop:=∀(pins:List (Addr×Obj)) (σ:St) (H:Hp) (s:Shared) (e:Value) (s':Shared),Inv X pins σ H s->CX X.stack H s E e s'->X.xe e s'
section
variable {X:Cx}{CX:lZ}{k:Nat}{f C:Addr}{fd:FuncData}{ps:List Str}{sp:Sp}{RH:List V}{ds:List Value}{E:XK}{x m:Str}{p pos apos:Pos}{e o:Expr}{es:List Expr}{ta:TE}{t:TA}
theorem XQ {pins:List (Addr×Obj)}{σ:St}{H:Hp}{s:Shared}{Q:VK}{us:List Value}{vs:List V}(F:AR X.prog X.w X.K X.mg X.base CX k f fd ps sp)(hr:Aq k X.A)(hb:Binds X.K fd ps ds)(hd:Vals RH ds)(hx:Iv CX X E)
  (I:Inv X pins σ H s) (r:Vals vs us) (h:sp (vs++RH) H Q E):wpAny (model X.prog X.w) X.A (call (.ref f) us) (EP X pins σ Q) X.xe s:=by
 have r2:Vals (vs++RH) (us++ds):=r.append hd;have hl:(us++ds).length=ps.length:=by rw[<- r2.length];exact F.len _ _ _ _ h
 refine wpAny_call (codeAny_mono (F.run X.A X.stack s H ⟨us,[]⟩ (us++ds) (vs++RH) Q E hr I.ABd (hb s us I.Yq hl) r2 h) fun r s' hq=>?_);cases r with
 |error e=>exact hx pins σ H s e s' I hq
 |ok fl=>
  cases fl with
  |ret u=>exact I.after hq
  |next=>exact False.elim hq
  |brk=>exact False.elim hq
  |cont=>exact False.elim hq
theorem AX (F:AR X.prog X.w X.K X.mg X.base CX k f fd ps sp)(hr:Aq k X.A)(hg:Gl X x)(hm:X.mg x=some (.ref f))(hk:keepIn X.K (.ref f)=true)(hb:Binds X.K fd ps ds)(hd:Vals RH ds)(hx:Iv CX X E)
  (ha:PA X (e::es) t) (up:(x==("__debug__":Str))=false:=by decide) (he:starEach (e::es) X.env=(false,eval e X.env)::starEach es X.env:=by rfl) (Mx:(backTo pos (starEach es X.env)).any (·.1)=false:=by rfl):
  PE X (.Call (.Name x p) (e::es) [] pos) (AAE sp RH E t):=by
 kxf_if;refine wpAny_Call_Name_kw (N1 I hg hm ?_ up);refine callWith_K (h₀:=X.base) I.ok.mod.zG hk (Bx (ha pos pins s σ H _ I h) fun us s1 ⟨vs,H1,I1,r,q⟩=>⟨I1.Yq,?_⟩) he Mx;exact XQ F hr hb hd hx I1 r q
theorem Ac {pl:Sem Bool}(he:PE X o ta)(c:fP X.K C)(hm:Meth X.K C m f)(F:AR X.prog X.w X.K X.mg X.base CX k f fd ps sp)(hr:Aq k X.A)(hb:Binds X.K fd ps ds)(hd:Vals RH ds)(hx:Iv CX X E)(ha:PA X (e::es) t)
  (wQ:starEach (e::es) X.env=(false,eval e X.env)::starEach es X.env:=by rfl) (Mx:(backTo pos (starEach es X.env)).any (·.1)=false:=by rfl)
  (ht:eval (.Call (.Attribute o m apos) (e::es) [] pos) X.env=(do
   let ov <- eval o X.env
   standAt apos.atName
   let (f,first) <- holding [ov] (getMethod ov m pl)
   callWith pos f first (backTo pos (starEach (e::es) X.env)) (backToKw pos (keywordEach [] X.env))):=by rfl):
  PE X (.Call (.Attribute o m apos) (e::es) [] pos) (v0 C m sp RH E ta t):=by
 kxf_if;refine methodCall_KW (pl:=pl) (Bx (he pins s σ H _ I h) fun u s1 ⟨x,H1,I1,rx,a,dx,fs,ex,ea,l,q⟩=>?_) ht;subst ex;obtain rfl:u=Value.ref a:=rx;refine Tq I1 ea c hm l ?_;refine callWith_K (first:= [.ref a]) (h₀:=X.base) I.ok.mod.zG hm.kp (Bx (ha pos pins s1 σ H1 _ I1 q) fun us s2 ⟨vs,H2,I2,r,q2⟩=>⟨I2.Yq,?_⟩) wQ Mx;exact XQ (us:= .ref a::us) (vs:= .ref a::vs) F hr hb hd hx I2 (.cons rfl r) q2
theorem C8 {pl:Sem Bool}(he:PE X o ta)(c:fP X.K C)(hm:Meth X.K C m f)(F:AR X.prog X.w X.K X.mg X.base CX k f fd ps sp)(hr:Aq k X.A)(hb:Binds X.K fd ps ds)(hd:Vals RH ds)(hx:Iv CX X E)
  (ht:eval (.Call (.Attribute o m apos) [] [] pos) X.env=(do
   let ov <- eval o X.env
   standAt apos.atName
   let (f,first) <- holding [ov] (getMethod ov m pl)
   callWith pos f first (backTo pos (starEach [] X.env)) (backToKw pos (keywordEach [] X.env))):=by rfl):
  PE X (.Call (.Attribute o m apos) [] [] pos) (v0 C m sp RH E ta sU):=by
 kxf_if;refine methodCall_KW (pl:=pl) (Bx (he pins s σ H _ I h) fun u s1 ⟨x,H1,I1,rx,a,dx,fs,ex,ea,l,q⟩=>?_) ht;subst ex;obtain rfl:u=Value.ref a:=rx;refine Tq I1 ea c hm l ?_;exact callWith_K0 (first:= [.ref a]) I1.Yq hm.kp (XQ (us:= [.ref a]) (vs:= [.ref a]) F hr hb hd hx I1 (.cons rfl .nil) q)
structure Mk (K:PySem.W.Frag)(C f:Addr):Prop where
 makes:makesIn K C=true
 init:findIn K (.ref C) "__init__"=some (some (.ref f))
 fn:isFn K (.ref f)=true
 kp:keepIn K (.ref C)=true
theorem ZY {pins:List (Addr×Obj)}{σ:St}{H:Hp}{s:Shared}{Q:VK}{us:List Value}{vs:List V}(M:Mk X.K C f)(F:AR X.prog X.w X.K X.mg X.base CX k f fd ps sp)(hr:Aq (k+1) X.A)(hb:Binds X.K fd ps ds)(hd:Vals RH ds)
  (hx:Iv CX X E) (I:Inv X pins σ H s) (r:Vals vs us)
  (h:∀x dx,H x=none->H dx=none->dx≠x->sp (.ref x::(vs++RH)) (upd (upd H dx (.own x)) x (.ins C dx [])) (fun v H2=>v= .Bo/\Q (.ref x) H2) E):
  wpAny (model X.prog X.w) X.A (call (.ref C) us) (EP X pins σ Q) X.xe s:=by
 have hq:=h (s.heap.objs.size+1) s.heap.objs.size (I.BL.fresh (le_succ _)) (I.BL.fresh (Nat.le_refl _)) (ne_of_lt (Nat.lt_succ_self _));have I2:=Inv.made (C:=C) I;have r2:Vals (V.ref (s.heap.objs.size+1)::(vs++RH)) (Value.ref (s.heap.objs.size+1)::(us++ds)):= .cons rfl (r.append hd);have hl:(Value.ref (s.heap.objs.size+1)::us++ds).length=ps.length:=by
  have e:=r2.length;rw[F.len _ _ _ _ hq]at e;exact e.symm
 refine wpAny_call (oy (f:=f) I.Yq M.makes M.init (beq_iff_eq.mp M.fn) (codeAny_mono (F.run _ X.stack _ _ ⟨Value.ref (s.heap.objs.size+1)::us,[]⟩ (Value.ref (s.heap.objs.size+1)::(us++ds)) _ _ E (hr.make C us [])
  (I2.ABd.make C us []) (hb _ (Value.ref (s.heap.objs.size+1)::us) I2.Yq hl) r2 hq) fun r s' wT=>?_))
 cases r with
 |error e=>exact hx pins σ _ _ e s' I2 wT
 |ok fl=>
  cases fl with
  |ret u=>
   obtain ⟨v,H',I3,rv,ev,q3⟩:=I2.after wT;subst ev;exact ⟨rv,⟨V.ref (s.heap.objs.size+1),H',I3,rfl,q3⟩⟩
  |next=>exact False.elim wT
  |brk=>exact False.elim wT
  |cont=>exact False.elim wT
theorem RF (M:Mk X.K C f)(F:AR X.prog X.w X.K X.mg X.base CX k f fd ps sp)(hr:Aq (k+1) X.A)(hg:Gl X x)(hm:X.mg x=some (.ref C))(hb:Binds X.K fd ps ds)(hd:Vals RH ds)(hx:Iv CX X E)
  (ha:PA X (e::es) t) (up:(x==("__debug__":Str))=false:=by decide) (he:starEach (e::es) X.env=(false,eval e X.env)::starEach es X.env:=by rfl) (Mx:(backTo pos (starEach es X.env)).any (·.1)=false:=by rfl):
  PE X (.Call (.Name x p) (e::es) [] pos) (mh C sp RH E t):=by
 kxf_if;refine wpAny_Call_Name_kw (N1 I hg hm ?_ up);refine callWith_K (h₀:=X.base) I.ok.mod.zG M.kp (Bx (ha pos pins s σ H _ I h) fun us s1 ⟨vs,H1,I1,r,q⟩=>⟨I1.Yq,?_⟩) he Mx;exact ZY M F hr hb hd hx I1 r q
theorem nz (M:Mk X.K C f)(F:AR X.prog X.w X.K X.mg X.base CX k f fd ps sp)(hr:Aq (k+1) X.A)(hg:Gl X x)(hm:X.mg x=some (.ref C))(hb:Binds X.K fd ps ds)(hd:Vals RH ds)(hx:Iv CX X E)
  (up:(x==("__debug__":Str))=false:=by decide):PE X (.Call (.Name x p) [] [] pos) (mh C sp RH E sU):=by
 kxf_if;refine wpAny_Call_Name_kw (N1 I hg hm ?_ up);exact callWith_K0 I.Yq M.kp (ZY (us:= []) M F hr hb hd hx I .nil h)
end
section
variable {X:Cx}{CX:lZ}{k:Nat}{f C:Addr}{fd:FuncData}{ps ks:List Str}{sp:Sp}{E:XK}{x m:Str}{p pos apos AHu:Pos}{e o:Expr}{es:List Expr}{kws:List Keyword}{te ta:TE}{t tk:TA}{nm:Option Str}
variable {g:List Value->List Value->List Value}{gV:List V->List V->List V}
end
structure AT (N P:List Str)(sc:Scope):Prop where
 kind:sc.kind= .function
 co:sc.isCoroutine=false
 gen:sc.isGenerator=false
 nd:N.Nodup
 pre:N.take P.length=P
 par:∀x∈P,sc.names.lookup x=some .local\/sc.names.lookup x=some .cell
 xb:∀y∈sc.names,y.2≠ .free
theorem Wr {kindOf:Str->Option NameKind}{x:Str}:∀{binds:List (Str×Value)} {m:Str->Option Value},(∀v,(x,v)∉binds)->bindL kindOf binds m x=m x
 | [],_,_=>rfl
 | (n,v)::r,m,h=>by
  unfold bindL;rw[Wr fun w hw=>h w (mem_cons_of_mem _ hw)];split
  ·have:x≠n:=by rintro rfl;exact h v mem_cons_self
   simp[this]
  ·rfl
theorem Wt {kindOf:Str->Option NameKind}{x:Str}:∀{binds:List (Str×Value)} {m:Str->Option Value},(∀v,(x,v)∉binds)->bindC kindOf binds m x=m x
 | [],_,_=>rfl
 | (n,v)::r,m,h=>by
  unfold bindC;rw[Wt fun w hw=>h w (mem_cons_of_mem _ hw)];split
  ·rfl
  ·have:x≠n:=by rintro rfl;exact h v mem_cons_self
   simp[this]
theorem Ws {kindOf:Str->Option NameKind}{x:Str}{v:Value}:∀{P:List Str} {vs:List Value} {i:Nat} {m:Str->Option Value},P.Nodup->P[i]? =some x->vs[i]? =some v->kindOf x=some .local->
  bindL kindOf (P.zip vs) m x=some v
 | [],_,_,_,_,h,_,_=>by simp at h
 |_::_,[],_,_,_,_,h,_=>by simp at h
 |p::P,w::vs,0,m,nd,h1,h2,hk=>by
  simp at h1 h2;subst h1;subst h2;show bindL kindOf ((p,w)::P.zip vs) m p=_;unfold bindL;rw[Wr fun v hv=>(nodup_cons.mp nd).1 (of_mem_zip hv).1,if_pos hk];simp
 |p::P,w::vs,i+1,m,nd,h1,h2,hk=>by
  show bindL kindOf ((p,w)::P.zip vs) m x=_;unfold bindL;exact Ws (i:=i) (nodup_cons.mp nd).2 (by simpa using h1) (by simpa using h2) hk
theorem Wu {kindOf:Str->Option NameKind}{x:Str}{v:Value}:∀{P:List Str} {vs:List Value} {i:Nat} {m:Str->Option Value},P.Nodup->P[i]? =some x->vs[i]? =some v->kindOf x≠some .local->
  bindC kindOf (P.zip vs) m x=some v
 | [],_,_,_,_,h,_,_=>by simp at h
 |_::_,[],_,_,_,_,h,_=>by simp at h
 |p::P,w::vs,0,m,nd,h1,h2,hk=>by
  simp at h1 h2;subst h1;subst h2;show bindC kindOf ((p,w)::P.zip vs) m p=_;unfold bindC;rw[Wt fun v hv=>(nodup_cons.mp nd).1 (of_mem_zip hv).1,if_neg hk];simp
 |p::P,w::vs,i+1,m,nd,h1,h2,hk=>by
  show bindC kindOf ((p,w)::P.zip vs) m x=_;unfold bindC;exact Wu (i:=i) (nodup_cons.mp nd).2 (by simpa using h1) (by simpa using h2) hk
def start (N:List Str)(vs:List V):St:=vs.map some++replicate (N.length - vs.length) none
def lB (CX:lZ)(P:Program)(w:World)(K:PySem.W.Frag)(mg:Str->Option Value)(base:Heap)(N:List Str)(qual:Str)(scope:Scope)(f:Addr)(cd:Value)(A:Around)(outer:List Env)(s:Shared)(H:Hp)(E:XK):Cx where
 prog:=P
 w:=w
 K:=K
 mg:=mg
 base:=base
 A:=A.deeper (envOfC qual scope s.heap.objs.size f cd)
 N:=N
 Vz:=s
 yx:=H
 env:=envOfC qual scope s.heap.objs.size f cd
 outer:=outer
 stack:=envOfC qual scope s.heap.objs.size f cd::outer
 ex:= []
 calm:=true
 fn:=fun _=>true
 pn:= []
 xe:=fun e s'=>wpAny (model P w) (A.deeper (envOfC qual scope s.heap.objs.size f cd)) (leaving (envOfC qual scope s.heap.objs.size f cd) e) (fun _ s''=>CX outer H s E e s'') (fun e' s''=>CX outer H s E e' s'') s'
theorem bU {sc:Scope}{n:Nat}{x:Str}(h:sc.names.lookup x=some .cell):∃c,(cellsFrom n sc.names []).lookup x=some c:=by
 have q:=cellsFrom_some sc.names n [] (.inl h);exact Option.isSome_iff_exists.mp q
theorem j7 {CX:lZ}{P:Program}{w:World}{K:PySem.W.Frag}{mg:Str->Option Value}{base:Heap}{N ps:List Str}{qual:Str}{scope:Scope}{f:Addr}{cd:Value}{A:Around}{outer:List Env}{s s1:Shared}{H:Hp}{E:XK}{us:List Value}{vs:List V}
  (S:AT N ps scope) (hd:A.handled=none) (e0:fN P w K mg base A outer s H) (hl:vs.length=ps.length) (r:Vals vs us)
  (x:InCallC s s.heap.objs.size (bindL (envOfC qual scope s.heap.objs.size f cd).kindOf (ps.zip us) fun _=>none) (cellsFrom (s.heap.objs.size+1) scope.names []) (bindC (envOfC qual scope s.heap.objs.size f cd).kindOf (ps.zip us) fun _=>none) s1):
  Inv (lB CX P w K mg base N qual scope f cd A outer s H E) [] (start N vs) H s1:=by
 have Mx:ps.length<=N.length:=by have:=congrArg length S.pre;rw[length_take]at this;omega
 isplit;obtain ⟨h1,tk,rfl,hk⟩:=x.done;kl_no;have y0:∀b:Addr,b∉(lB CX P w K mg base N qual scope f cd A outer s H E).ex:=fun b z=>absurd (show b∈([]:List Addr)from z) (by simp);refine ⟨⟨e0.mod,S.kind,rfl,rfl,Nat.le_refl _,fun y z c h1 h2=>?_,fun y hy=>?_,fun y c _ h=>?_,fun _=>hd,Around.frames_deeper e0.frames,.inr ⟨rfl,rfl⟩,fun b z=>absurd z (y0 b),e0.bs,e0.vU,fun b _ _=>y0 b,fun b z=>absurd z (y0 b),e0.Qw,e0.yZ⟩,
  rfl,e0.bare,Un.kept hk,⟨_,x.toInCall.ns,fun i y v h1 h2 h3=>?_⟩,fun y c h=>⟨_,x.cell y c h⟩,e0.BL.fresh (Nat.le_refl _),fun y c h=>?_,fun p hp=>absurd (show p∈([]:List (Addr×Obj))from hp) (by simp),e0.BL.kept hk,?_⟩
 ·exact name_of_addr x.apart (PySem.mem_of_lookup h1) (PySem.mem_of_lookup h2)
 ·have hy:scope.names.lookup y=some .cell\/scope.names.lookup y=some .free:=hy;rcases hy with hy | hy
  ·exact bU hy
  ·exact absurd rfl (S.xb _ (PySem.mem_of_lookup hy))
 ·exact Nat.le_of_lt (x.above y c (PySem.mem_of_lookup h))
 ·have hi:i<vs.length:=by
   unfold start at h2;by_cases hi:i<vs.length
   ·exact hi
   ·rw[getElem?_append_right (by simpa using hi)]at h2;rw[List.getElem?_replicate]at h2;split at h2 <;> cases h2
  have ha:vs[i]? =some v:=by
   unfold start at h2;rw[getElem?_append_left (by simpa using hi),getElem?_map]at h2;cases e:vs[i]? with
   |none=>rw[e]at h2;cases h2
   |some a=>rw[e]at h2;cases h2;rfl
  obtain ⟨u,hu,rv⟩:=r.get ha;have hp:ps[i]? =some y:=by
   rw[<- S.pre,getElem?_take_of_lt (by omega)];exact h1
  have ndP:ps.Nodup:=by rw[<- S.pre];exact S.nd.sublist (List.take_sublist _ _)
  refine ⟨u,rv,?_⟩;rcases S.par y (mem_of_getElem? hp)with k | k
  ·exact .inl ⟨k,Ws ndP hp hu k⟩
  ·obtain ⟨c,e⟩:=bU (n:=s.heap.objs.size+1) k;refine .inr ⟨.inl k,c,e,?_⟩;have q:=x.cell y c e;rw[Wu ndP hp hu (by show scope.names.lookup y≠_;rw[k];decide)]at q;exact q
 ·exact e0.BL.fresh (Nat.le_of_lt (x.above y c (PySem.mem_of_lookup h)))
 ·unfold start;show _=N.length;rw[length_append,length_map,List.length_replicate];omega
theorem ABX {CX:lZ}{P:Program}{w:World}{K:PySem.W.Frag}{mg:Str->Option Value}{base:Heap}{k:Nat}{f:Addr}{name qual:Str}{params:Arguments}{body:List Stmt}{scope:Scope}{dV kV doc pm BM ct oc:Value}{an od:Option Addr}
  {SR:Array (Option Value)} {N ps:List Str} {sp:Sp} (lk:K.lookup f=some ⟨oc,od,.func (fnOf name qual params body scope dV kV doc pm an BM ct),SR⟩) (aw:codeIn K BM qual=true) (S:AT N ps scope)
  (len:∀vs H Q E,sp vs H Q E->vs.length=ps.length)
  (qA:∀(A:Around) (outer:List Env) (s:Shared) (H:Hp) (vs:List V) (Q:VK) (E:XK),Aq k (A.deeper (envOfC qual scope s.heap.objs.size f BM))->sp vs H Q E->
   ∃t,lX (lB CX P w K mg base N qual scope f BM A outer s H E) body t/\t { nx:=fun _ H'=>Q .Bo H',rt:=Q } (start N vs) H):
  AR P w K mg base CX (k+1) f (fnOf name qual params body scope dV kV doc pm an BM ct) ps sp:=by
 refine ⟨len,fun A outer s H args us vs Q E hr e0 hb r YB=>?_⟩;have hl:=len _ _ _ _ YB;have KX:K.In s.heap:=e0.mod.zG.keeps fun b o e=>(e0.bs b o e).1;have lim:s.heap.NoLimit:=e0.mod.nolimit.keeps fun b o e=>(e0.bs b o e).1;have ABF:∀y∈ps.zip us,scope.names.lookup y.1=some .local\/(scope.names.lookup y.1=some .cell/\((cellsFrom (s.heap.objs.size+1) scope.names []).lookup y.1).isSome=true):=fun ⟨n,v⟩ hy=>by
  rcases S.par n (of_mem_zip hy).1 with q | q
  ·exact .inl q
  ·exact .inr ⟨q,cellsFrom_some _ _ _ (.inl q)⟩
 refine codeAny_call_function hr.depth (KX _ _ lk) rfl S.co S.gen rfl (PySem.W.codeRec_of KX aw) (hb _ _ _ _ ?_);refine wpAny_newFunctionEnv_cells S.kind ABF fun env he s1 x=>?_;subst he;refine ⟨lim.keeps x.toInCall.keep,codeAny_func ?_⟩;obtain ⟨t,ht,hq⟩:=qA A outer s H vs Q E (hr.deeper _) YB;have I:Inv (lB CX P w K mg base N qual scope f BM A outer s H E) [] (start N vs) H s1:=j7 S hr.hd e0 hl r x;refine wpAny_mono (ht [] s1 (start N vs) H _ I hq) (fun fl s' hs=>?_) fun e s' hs=>hs;have fin:∀{σ':St} {H':Hp} {v:V} {u:Value},Inv (lB CX P w K mg base N qual scope f BM A outer s H E) [] σ' H' s'->RelV v u->Q v H'->CE outer P w H s Q u s':=
  fun {σ' H' v u} J rv q=>⟨v,H',J.os,J.bare,J.base,J.BL,rv,q⟩
 cases fl with
 |ret u=>
  obtain ⟨v,σ',H',J,rv,q⟩:=hs;exact fin J rv q
 |next=>
  obtain ⟨σ',H',J,q⟩:=hs;exact fin (v:=V.Bo) (u:=Value.none) J rfl q
 |brk=>
  obtain ⟨_,_,_,q⟩:=hs;exact False.elim q
 |cont=>
  obtain ⟨_,_,_,q⟩:=hs;exact False.elim q
section
variable {X:Cx}{x:Str}{p pos:Pos}{e:Expr}{es:List Expr}{t:TA}{id T:String}{r:List V->Hp->VK->Prop}
def tCB (r:List V->Hp->VK->Prop)(t:TA):TE:=fun σ H Q=>t σ H fun vs H1=>r vs H1 Q
theorem Aa (hc:Fm X (.builtin id) r)(hg:Gl X x)(hm:X.mg x=none)(hv:bootBuiltins x=some (.builtin id))(ha:PA X (e::es) t)(hn:x≠"__name__":=by decide)(up:(x==("__debug__":Str))=false:=by decide)
  (he:starEach (e::es) X.env=(false,eval e X.env)::starEach es X.env:=by rfl) (Mx:(backTo pos (starEach es X.env)).any (·.1)=false:=by rfl):PE X (.Call (.Name x p) (e::es) [] pos) (tCB r t):=by
 kxf_if;refine wpAny_Call_Name_kw (X3 I hg hm hv ?_ hn up);exact PyProof.Rows.callWith_builtin1 (Bx (ha pos pins s σ H _ I h) fun us s1 ⟨vs,H1,I1,r1,q1⟩=>hc pins s1 σ H1 vs us Q I1 r1 q1) he Mx
theorem Cr (hc:Fm X (.type T) r)(hg:Gl X x)(hm:X.mg x=none)(hv:bootBuiltins x=some (.type T))(ha:PA X (e::es) t)(hn:x≠"__name__":=by decide)(up:(x==("__debug__":Str))=false:=by decide)
  (he:starEach (e::es) X.env=(false,eval e X.env)::starEach es X.env:=by rfl) (Mx:(backTo pos (starEach es X.env)).any (·.1)=false:=by rfl):PE X (.Call (.Name x p) (e::es) [] pos) (tCB r t):=by
 kxf_if;refine wpAny_Call_Name_kw (X3 I hg hm hv ?_ hn up);exact PyProof.Rows.callWith_type1 (Bx (ha pos pins s σ H _ I h) fun us s1 ⟨vs,H1,I1,r1,q1⟩=>hc pins s1 σ H1 vs us Q I1 r1 q1) he Mx
end
end L2
namespace HT
open PySem PyProof.Rows
section
open PySem.SeqAt
open PySem.AutoSeq1 (wpAny_loadPart')
open PySem.MeetsSeq PySem.MeetsSeq2 PySem.MeetsSeq3
end
section
variable {prog:Program}{w:World}{A:Around}{E:Value->Shared->Prop}{s:Shared}
def Fh (n d:Nat):Option Int->Nat
 |none=>d
 |some v=>if v<0 then (v+(n:Int)).toNat else min v.toNat n
theorem R0 (n d:Nat):Fh n d none=d:=rfl
theorem RE (n d k:Nat):Fh n d (some (k:Int))=min k n:=by
 show (if (k:Int)<0 then ((k:Int)+(n:Int)).toNat else min (k:Int).toNat n)=min k n;rw[if_neg (by omega),Int.toNat_natCast]
theorem nN (n d:Nat)(hd:d<=n)(o:Option Int):Fh n d o<=n:=by
 cases o with
 |none=>exact hd
 |some v=>
  show (if v<0 then (v+(n:Int)).toNat else min v.toNat n)<=n;by_cases hv:v<0
  ·rw[if_pos hv];omega
  ·rw[if_neg hv];exact Nat.min_le_right _ _
end
end HT
namespace L2
open PySem PySem.Spec PyProof.Rows
abbrev TO:=St->Hp->(Option Int->Hp->Prop)->Prop
def PO (X:Cx)(e:Option Expr)(t:TO):Prop:=
 ∀(pins:List (Addr×Obj)) (s:Shared) (σ:St) (H:Hp) (Q:Option Int->Hp->Prop),Inv X pins σ H s->t σ H Q->
  wpAny (model X.prog X.w) X.A (evalPart e X.env) (fun u s'=>∃o H',Inv X pins σ H' s'/\IsPart u o/\Q o H') X.xe s
def sT:TO:=fun _ H Q=>Q none H
def zx (t:TE):TO:=fun σ H Q=>t σ H fun x H1=>∃i,x= .int i/\Q (some i) H1
section
variable {X:Cx}{e:Expr}{te:TE}{lo hi:Option Expr}{tl th:TO}{pos p2:Pos}
theorem Xe:PO X none sT:=by
 kxf_if;rw[evalPart_none];exact wpAny_pure ⟨none,H,I,.none,h⟩
theorem Nh (h:PE X e te):PO X (some e) (zx te):=by
 intro pins s σ H Q I hw;rw[evalPart_some];refine Bx (h pins s σ H _ I hw) fun u s1 ⟨x,H1,I1,r1,q1⟩=>?_;obtain ⟨i,rfl,q⟩:=q1;obtain ⟨t,rfl⟩:=r1;exact ⟨some i,H1,I1,.int i t,q⟩
def SlR (X:Cx)(r:V->Option Int->Option Int->Hp->VK->Prop):Prop:=
 ∀(pins:List (Addr×Obj)) (s:Shared) (σ:St) (H:Hp) (x:V) (v vl vu:Value) (lo hi:Option Int) (sl:Addr) (Q:VK),Inv X pins σ H s->RelV x v->s.heap.IsSliceOf sl vl vu .none->IsPart vl lo->IsPart vu hi->r x lo hi H Q->
  ∃T id,typeLookup (.type T) "__getitem__"=pure (some (.builtin id))/\s.TypeIs v T/\wpAny (model X.prog X.w) X.A (getItem v (.ref sl)) (EP X pins σ Q) X.xe s
def tSl (r:V->Option Int->Option Int->Hp->VK->Prop)(te:TE)(tl th:TO):TE:=fun σ H Q=>te σ H fun x H1=>tl σ H1 fun l H2=>th σ H2 fun u H3=>r x l u H3 Q
theorem Nj {r:V->Option Int->Option Int->Hp->VK->Prop}(hr:SlR X r)(he:PE X e te)(hl:PO X lo tl)(hu:PO X hi th):PE X (.Subscript e (.Slice lo hi none p2) pos) (tSl r te tl th):=by
 kxf_if;refine Subscript_ (Bx (he pins s σ H _ I h) fun v s1 ⟨x,H1,I1,r1,q1⟩=>?_);refine wpAny_Slice (Bx (hl pins s1 σ H1 _ I1 q1) fun vl s2 ⟨l,H2,I2,pl,q2⟩=>Bx (hu pins s2 σ H2 _ I2 q2) fun vu s3 ⟨u,H3,I3,pu,q3⟩=>?_);rw[evalPart_none];refine wpAny_pure ?_;have I4:Inv X pins σ H3 { s3 with heap:=s3.heap.push { cls:= .type "slice",data:= .fields #[vl,vu,.none] } }:=I3.kept (t':=s3.toks) fun b ob q=>get?_push_of_some _ q;obtain ⟨T,id,hT,ht,hg⟩:=hr pins { s3 with heap:=s3.heap.push { cls:= .type "slice",data:= .fields #[vl,vu,.none] } } σ H3 x v vl vu l u s3.heap.objs.size Q I4 r1 (Heap.IsSliceOf.new ..) pl pu q3;show wpAny (model X.prog X.w) X.A (subscriptTail e (.Slice lo hi none p2) v (.ref s3.heap.objs.size)) (EP X pins σ Q) X.xe { s3 with heap:=s3.heap.push { cls:= .type "slice",data:= .fields #[vl,vu,.none] } };exact tail_any (ops:= [.ref s3.heap.objs.size,v]) ht hT hg (by with_unfolding_all rfl)
def UG (xs:List V)(lo hi:Option Int):List V:=(xs.drop (HT.Fh xs.length 0 lo)).take (HT.Fh xs.length xs.length hi - HT.Fh xs.length 0 lo)
theorem bN (xs:List V)(lo hi:Option Int):(UG xs lo hi).length<=xs.length:=by
 unfold UG;rw[length_take,length_drop];omega
end
def wO (n:Nat)(i:Int):Option Nat:=if 0<=i then (if i<n then some i.toNat else none)else if -(n:Int)<=i then some (i+n).toNat else none
def rG {α:Type}(xs:List α)(i:Int):Option α:=(wO xs.length i).bind fun j=>xs[j]?
theorem ua {n:Nat}{i:Int}{j:Nat}(h:wO n i=some j):seqIndex? i n=some j/\j<n/\ -(n:Int)<=i/\i<n:=by
 unfold wO at h;by_cases h0:0<=i
 ·rw[if_pos h0]at h;by_cases h1:i<n
  ·rw[if_pos h1]at h;have e:i.toNat=j:=Option.some.inj h;exact ⟨by rw[seqIndex_of h0 h1,e],by omega,by omega,h1⟩
  ·rw[if_neg h1]at h;cases h
 ·rw[if_neg h0]at h;by_cases h1: -(n:Int)<=i
  ·rw[if_pos h1]at h;have e:(i+n).toNat=j:=Option.some.inj h;exact ⟨by rw[seqIndex_neg (by omega) h1,e],by omega,h1,by omega⟩
  ·rw[if_neg h1]at h;cases h
theorem Yn {α:Type}{xs:List α}{i:Int}{v:α}(h:rG xs i=some v):∃j,seqIndex? i xs.length=some j/\xs[j]? =some v/\j<xs.length/\ -(xs.length:Int)<=i/\i<xs.length:=by
 unfold rG at h;cases e:wO xs.length i with
 |none=>rw[e]at h;cases h
 |some j=>
  rw[e]at h;obtain ⟨h1,h2,h3,h4⟩:=ua e;exact ⟨j,h1,h,h2,h3,h4⟩
theorem Iq {α:Type}{xs:List α}{j:Nat}{v:α}(h:xs[j]? =some v):rG xs (j:Int)=some v:=by
 have hj:j<xs.length:=(List.getElem?_eq_some_iff.mp h).1;have e:wO xs.length (j:Int)=some j:=by
  unfold wO;rw[if_pos (by omega),if_pos (by omega)];simp
 unfold rG;rw[e];exact h
theorem rC {α:Type}(xs:List α)(v:α):rG (xs ++ [v]) (-1)=some v:=by
 have hl:(xs ++ [v]).length=xs.length+1:=by simp
 have e:wO (xs ++ [v]).length (-1)=some xs.length:=by
  unfold wO;rw[hl,if_neg (by decide),if_pos (by omega)]
  congr 1
  omega
 unfold rG;rw[e];show (xs ++ [v])[xs.length]? =some v;simp
def vx (b:Expr):Prop:=∀o i,subscripted b false o i=operate [o,i] (getItem o i)
def IxR (X:Cx)(r:R2):Prop:=
 ∀(value slice:Expr) (pins:List (Addr×Obj)) (s:Shared) (σ:St) (H:Hp) (x y:V) (v u:Value) (Q:VK),Inv X pins σ H s->RelV x v->RelV y u->r x y H Q->
  subscripted slice false v u=operate [v,u] (getItem v u)->wpAny (model X.prog X.w) X.A (subscriptTail value slice v u) (EP X pins σ Q) X.xe s
def MtR (X:Cx)(id:String)(r:V->List V->Hp->VK->Prop):Prop:=
 ∀(pins:List (Addr×Obj)) (s:Shared) (σ:St) (H:Hp) (x:V) (xs:List V) (v:Value) (us:List Value) (Q:VK),Inv X pins σ H s->RelV x v->Vals xs us->r x xs H Q->
  wpAny (model X.prog X.w) X.A (call (.builtin id) (v::us)) (EP X pins σ Q) X.xe s
section
variable {X:Cx}{a b:Expr}{ta tb:TE}{pos:Pos}
theorem Ar {r:R2}(hr:IxR X r)(ha:PE X a ta)(hb:PE X b tb)(hs:vx b):PE X (.Subscript a b pos) (xA r ta tb):=by
 kxf_if;exact Subscript_ (yp ha hb I h fun v u s2 x y H2 I2 rx ry q=>hr a b pins s2 σ H2 x y v u Q I2 rx ry q (hs _ _))
def AC9 (K:PySem.W.Frag):R2:=fun x y H Q=>∃p xs i v,x= .ref p/\y= .int i/\Ao K H p xs/\rG xs i=some v/\Q v H
def xN (K:PySem.W.Frag):R2:=fun x y H Q=>∃p xs i v,x= .ref p/\y= .int i/\Gi K H p xs/\rG xs i=some v/\Q v H
def AC8:R2:=fun x y H Q=>∃z i c,x= .str z/\y= .int i/\z.length<=sizeLine/\rG z.cps.toList i=some c/\Q (.str ⟨#[c]⟩) H
theorem Ag:IxR X (AC9 X.K):=by
 intro value slice pins s σ H x y v u Q I rx ry h hs;obtain ⟨p,xs,i,z,rfl,rfl,hq,he,q⟩:=h;cases rx;obtain ⟨t,rfl⟩:=ry;obtain ⟨A1,r,pl,hz⟩:=I.list hq;obtain ⟨j,h1,h2,h3,h4,h5⟩:=Yn he;obtain ⟨w,ew,nO⟩:=r.get h2;have hl:=r.length;have hn:=PD;have fin:EP X pins σ Q w s:=⟨z,H,I,nO,q⟩;by_cases h0:0<=i
 ·have hj:i.toNat=j:=by
   rw[seqIndex_of h0 h5]at h1;exact Option.some.inj h1
  exact item_listR pl.isList h0 (by omega) (by rw[hj];simpa using ew) fin hs
 ·have hj:(i+(A1.toArray.size:Int)).toNat=j:=by
   rw[seqIndex_neg (by omega) h4]at h1;rw[size_toArray, <- hl];exact Option.some.inj h1
  exact subscriptTail_builtinR (x:=w) pl.isList.typeIs slot_list_getitem.lookup
   (wpAny_getItem_list_neg (Q:=fun r s'=>r=w/\EP X pins σ Q r s') pl.isList (by omega) (by rw[size_toArray] <;> omega) (by omega) (by rw[hj];simpa using ew) ⟨rfl,fin⟩) hs
theorem Cw:IxR X (xN X.K):=by
 intro value slice pins s σ H x y v u Q I rx ry h hs;obtain ⟨p,xs,i,z,rfl,rfl,hq,he,q⟩:=h;cases rx;obtain ⟨t,rfl⟩:=ry;obtain ⟨A1,r,pl,hz⟩:=I.tuple hq;obtain ⟨j,h1,h2,h3,h4,h5⟩:=Yn he;obtain ⟨w,ew,nO⟩:=r.get h2;have hl:=r.length;have hn:=PD;have fin:EP X pins σ Q w s:=⟨z,H,I,nO,q⟩;exact subscriptTail_builtinR (x:=w) pl.typeIs slot_tuple_getitem.lookup
  (getItem_tuple (j:=j) (Q:=fun r s'=>r=w/\EP X pins σ Q r s') pl (by omega) (by omega) (by rw[size_toArray, <- hl];exact h1) (by simpa using ew) ⟨rfl,fin⟩) hs
theorem pM:IxR X AC8:=by
 intro value slice pins s σ H x y v u Q I rx ry h hs;obtain ⟨z,i,c,rfl,rfl,hz,he,q⟩:=h;obtain ⟨t,rfl⟩:=rx;obtain ⟨t',rfl⟩:=ry;obtain ⟨j,h1,h2,h3,h4,h5⟩:=Yn he;have hl:z.cps.toList.length=z.length:=by simp[Str.length]
 rw[hl]at h1 h4 h5;have hn:=PD;exact tail_any (typeIs_str s z t) slot_str_getitem.lookup (getItem_str (c:=c) (by
  have e1:decide (i < -(2 ^ 63:Int))=false:=decide_eq_false (by omega);have e2:decide (i ≥ 2 ^ 63)=false:=decide_eq_false (by omega);rw[e1,e2,Bool.or_false]) (by rw[h1];simpa using h2) ⟨.str ⟨#[c]⟩,H,I.tok _,⟨_,rfl⟩,q⟩) hs
theorem XI (lo hi:Option Int)(n:Nat):(sliceBounds lo hi none n).1=((HT.Fh n 0 lo:Nat):Int)/\(sliceBounds lo hi none n).2.1=((HT.Fh n n hi:Nat):Int)/\(sliceBounds lo hi none n).2.2=1:=by
 refine ⟨?_,?_,rfl⟩
 ·cases lo with
  |none=>simp[sliceBounds,HT.Fh]
  |some i=>
   simp only[sliceBounds,HT.Fh,Option.getD_none,show (1:Int) > 0 by decide,if_true];by_cases h:i<0
   ·simp only[h,if_true] <;> omega
   ·simp only[h,if_false] <;> omega
 ·cases hi with
  |none=>simp[sliceBounds,HT.Fh]
  |some i=>
   simp only[sliceBounds,HT.Fh,Option.getD_none,show (1:Int) > 0 by decide,if_true];by_cases h:i<0
   ·simp only[h,if_true] <;> omega
   ·simp only[h,if_false] <;> omega
theorem Uz (A1:List Value)(lo hi:Option Int):slicePick A1.toArray lo hi none=((A1.drop (HT.Fh A1.length 0 lo)).take (HT.Fh A1.length A1.length hi - HT.Fh A1.length 0 lo)).toArray:=by
 obtain ⟨h1,h2,h3⟩:=XI lo hi A1.toArray.size;unfold slicePick;rw[h1,h2,h3];simp only[sliceRange_one,pick_run,size_toArray] <;> rfl
def AC6 (K:PySem.W.Frag):V->Option Int->Option Int->Hp->VK->Prop:=fun x lo hi H Q=>∃a xs,x= .ref a/\Ao K H a xs/\∀p,H p=none->Q (.ref p) (upd H p (.lst (UG xs lo hi)))
theorem XJ:SlR X (AC6 X.K):=by
 intro pins s σ H x v vl vu lo hi sl Q I rx hs pl pu h;obtain ⟨a,xs,rfl,hx,q⟩:=h;cases rx;obtain ⟨A1,r,ht,hz⟩:=I.list hx;have hlen:=r.length;refine ⟨"list",_,slot_list_getitem.lookup,ht.isList.typeIs,?_⟩;refine wpAny_getItem_list_slice ht.isList hs pl pu .none (by simp) ?_ (by rw[size_toArray] <;> omega);rw[Uz, <- hlen];refine ⟨.ref s.heap.objs.size,_,I.laid (t':=s.toks) (o:= .lst (UG xs lo hi)) (fun b ob q=>get?_push_of_some _ q) (Nat.le_refl _) ?_,rfl,q _ (I.BL.fresh (Nat.le_refl _))⟩;exact ⟨Nat.le_trans (bN xs lo hi) hz,_,0,(r.drop (HT.Fh xs.length 0 lo)).take (HT.Fh xs.length xs.length hi - HT.Fh xs.length 0 lo),get?_push_size _ rfl⟩
def G1:V->Bool
 | .Bo=>true
 | .bl _=>true
 | .int _=>true
 | .str _=>true
 |_=>false
def r9:V->V->Bool
 | .Bo,.Bo=>true
 | .bl a,.bl b=>a==b
 | .bl a,.int b=>(if a then 1 else 0)==b
 | .int a,.bl b=>a==(if b then 1 else 0)
 | .int a,.int b=>a==b
 | .str a,.str b=>a==b
 |_,_=>false
theorem ye {A:Around}{s:Shared}{y x:V}{u v:Value}(ry:RelV y u)(rx:RelV x v)(fy:G1 y=true)(fx:G1 x=true):SeqAt.EqAt A s u v (r9 y x):=by
 cases y with
 |Bo=>
  cases ry;cases x with
  |Bo=>cases rx;exact SeqAt.EqAt.same _
  |bl b=>cases rx;exact SeqAt.EqAt.none_bool b
  |int b=>obtain ⟨t,rfl⟩:=rx;exact SeqAt.EqAt.none_int b t
  |str b=>obtain ⟨t,rfl⟩:=rx;exact SeqAt.EqAt.none_str b t
  |_=>exact absurd (show false=true from fx) Bool.false_ne_true
 |bl a=>
  cases ry;cases x with
  |Bo=>cases rx;exact SeqAt.EqAt.bool_none a
  |bl b=>cases rx;exact SeqAt.EqAt.bool_bool a b
  |int b=>obtain ⟨t,rfl⟩:=rx;exact SeqAt.EqAt.bool_int a b t
  |str b=>obtain ⟨t,rfl⟩:=rx;exact SeqAt.EqAt.bool_str a b t
  |_=>exact absurd (show false=true from fx) Bool.false_ne_true
 |int a=>
  obtain ⟨t',rfl⟩:=ry;cases x with
  |Bo=>cases rx;exact SeqAt.EqAt.int_none a t'
  |bl b=>cases rx;exact SeqAt.EqAt.int_bool a t' b
  |int b=>obtain ⟨t,rfl⟩:=rx;exact SeqAt.EqAt.int_int a t' b t
  |str b=>obtain ⟨t,rfl⟩:=rx;exact SeqAt.EqAt.int_str a t' b t
  |_=>exact absurd (show false=true from fx) Bool.false_ne_true
 |str a=>
  obtain ⟨t',rfl⟩:=ry;cases x with
  |Bo=>cases rx;exact SeqAt.EqAt.str_none a t'
  |bl b=>cases rx;exact SeqAt.EqAt.str_bool a t' b
  |int b=>obtain ⟨t,rfl⟩:=rx;exact SeqAt.EqAt.str_int a t' b t
  |str b=>obtain ⟨t,rfl⟩:=rx;exact SeqAt.EqAt.str_str a t' b t
  |_=>exact absurd (show false=true from fx) Bool.false_ne_true
 |_=>exact absurd (show false=true from fy) Bool.false_ne_true
def cH (x:V)(u:Value):Bool:=match u with
 | .none=>r9 .Bo x
 | .bool b=>r9 (.bl b) x
 | .int i _=>r9 (.int i) x
 | .str z _=>r9 (.str z) x
 |_=>false
theorem YN {x y:V}{u:Value}(r:RelV y u)(f:G1 y=true):cH x u=r9 y x:=by
 cases y with
 |Bo=>cases r;rfl
 |bl b=>cases r;rfl
 |int i=>obtain ⟨t,rfl⟩:=r;rfl
 |str z=>obtain ⟨t,rfl⟩:=r;rfl
 |_=>exact absurd (show false=true from f) Bool.false_ne_true
theorem OQ {x:V}:∀{xs:List V} {us:List Value},Vals xs us->xs.all G1=true->us.any (cH x)=xs.any fun y=>r9 y x
 |_,_,.nil,_=>rfl
 |y::xs,u::us,.cons r t,f=>by
  rw[all_cons,Bool.and_eq_true]at f;rw[any_cons,any_cons,YN r f.1,OQ t f.2]
theorem Hh {A:Around}{s:Shared}{x:V}{v:Value}(rx:RelV x v)(fx:G1 x=true):∀{xs:List V} {us:List Value},Vals xs us->xs.all G1=true->∀u∈us,SeqAt.EqAt A s u v (cH x u)
 |_,_,.nil,_=>fun u hu=>by cases hu
 |y::xs,u::us,.cons r t,f=>fun u' hu=>by
  rw[all_cons,Bool.and_eq_true]at f;rcases mem_cons.mp hu with rfl | hu
  ·rw[YN r f.1];exact ye r rx f.1 fx
  ·exact Hh rx fx t f.2 u' hu
def zI (x:V)(xs:List V):Bool:=xs.any fun y=>r9 y x
def rIn (K:PySem.W.Frag)(neg:Bool):R2:=fun x y H Q=>∃p xs,y= .ref p/\(Ao K H p xs\/Gi K H p xs)/\G1 x=true/\xs.all G1=true/\Q (.bl (if neg then !zI x xs else zI x xs)) H
theorem WF:Px X (compareOp .In) (rIn X.K false):=by
 intro pins s σ H x y v u Q I rx ry h;obtain ⟨p,xs,rfl,hq,fx,fs,q⟩:=h;cases ry;rcases hq with hq | hq
 ·obtain ⟨A1,r,pl,hz⟩:=I.list hq;refine SeqAt.in_listAt (cH x) pl.isList (fun w hw=>Hh rx fx r fs w (by simpa using hw)) ⟨.bl _,H,I,rfl,?_⟩;rw[show A1.toArray.any (cH x)=A1.any (cH x) by simp,OQ r fs];exact q
 ·obtain ⟨A1,r,pl,hz⟩:=I.tuple hq;refine SeqAt.in_tupleAt (cH x) pl (fun w hw=>Hh rx fx r fs w (by simpa using hw)) ⟨.bl _,H,I,rfl,?_⟩;rw[show A1.toArray.any (cH x)=A1.any (cH x) by simp,OQ r fs];exact q
theorem Np:Px X (compareOp .NotIn) (rIn X.K true):=by
 intro pins s σ H x y v u Q I rx ry h;obtain ⟨p,xs,rfl,hq,fx,fs,q⟩:=h;cases ry;rcases hq with hq | hq
 ·obtain ⟨A1,r,pl,hz⟩:=I.list hq;refine SeqAt.notIn_listAt (cH x) pl.isList (fun w hw=>Hh rx fx r fs w (by simpa using hw)) ⟨.bl _,H,I,rfl,?_⟩;rw[show A1.toArray.any (cH x)=A1.any (cH x) by simp,OQ r fs];exact q
 ·obtain ⟨A1,r,pl,hz⟩:=I.tuple hq;refine SeqAt.notIn_tupleAt (cH x) pl (fun w hw=>Hh rx fx r fs w (by simpa using hw)) ⟨.bl _,H,I,rfl,?_⟩;rw[show A1.toArray.any (cH x)=A1.any (cH x) by simp,OQ r fs];exact q
theorem Ae:Fm X (.builtin "len") (fun xs H Q=>∃p ys,xs=[.ref p]/\(Ao X.K H p ys\/Gi X.K H p ys)/\Q (.int ys.length) H):=by
 intro pins s σ H xs us Q I r h;obtain ⟨p,ys,rfl,hq,q⟩:=h;obtain ⟨u,rfl,rx⟩:=vals1 r;cases rx;have hn:=PD;rcases hq with hq | hq
 ·obtain ⟨A1,r',pl,hz⟩:=I.list hq;have hlen:=r'.length;exact Calls.call_len_list pl.isList (by simp only[size_toArray] <;> omega) ⟨.int ys.length,H,I.tok _,⟨s.toks+1,by rw[size_toArray,hlen]⟩,q⟩
 ·obtain ⟨A1,r',pl,hz⟩:=I.tuple hq;have hlen:=r'.length;exact len_tuple pl (by simp only[size_toArray] <;> omega) ⟨.int ys.length,H,I.tok _,⟨s.toks+1,by rw[size_toArray,hlen]⟩,q⟩
theorem Io:Fm X (.builtin "len") (fun xs H Q=>∃z,xs=[.str z]/\z.length<=sizeLine/\Q (.int z.length) H):=by
 intro pins s σ H xs us Q I r h;obtain ⟨z,rfl,hz,q⟩:=h;obtain ⟨u,rfl,t,rfl⟩:=vals1 r;have hn:=PD;exact len_str (by omega) ⟨.int z.length,H,I.tok _,⟨_,rfl⟩,q⟩
theorem ER:Fm X (.type "list") (fun xs H Q=>∃p ys,xs=[.ref p]/\(Ao X.K H p ys\/Gi X.K H p ys)/\∀l,H l=none->Q (.ref l) (upd H l (.lst ys))):=by
 intro pins s σ H xs us Q I r h;obtain ⟨p,ys,rfl,hq,q⟩:=h;obtain ⟨u,rfl,rx⟩:=vals1 r;cases rx;have fin:∀(A1:List Value),Vals ys A1->ys.length<=sizeLine->∀(h':Heap) (c':Nat),(∀b o',s.heap.get? b=some o'->h'.get? b=some o')->
   h'.get? s.heap.objs.size=some { cls:= .type "list",dict:=none,data:= .seq A1.toArray c',slots:= #[] }->EP X pins σ Q (.ref s.heap.objs.size) { s with heap:=h' }:=fun A1 r' hz h' c' kp e=>
  ⟨.ref s.heap.objs.size,_,I.laid (t':=s.toks) kp (Nat.le_refl _) (show C1 X.prog X.w _ h' _ (.lst ys)from ⟨hz,A1,c',r',e⟩),rfl,q _ (I.BL.fresh (Nat.le_refl _))⟩
 rcases hq with hq | hq
 ·obtain ⟨A1,r',pl,hz⟩:=I.list hq;have hlen:=r'.length;obtain ⟨o,ho,hc,n,hd⟩:=pl.isList;exact call_list_seq p (.inl rfl) ho hc hd (fun h' c' kp e=>fin A1 r' hz h' c' kp e) (by simp only[size_toArray] <;> omega)
 ·obtain ⟨A1,r',pl,hz⟩:=I.tuple hq;have hlen:=r'.length;obtain ⟨o,ho,hc,n,hd⟩:=pl;exact call_list_seq p (.inr rfl) ho hc hd (fun h' c' kp e=>fin A1 r' hz h' c' kp e) (by simp only[size_toArray] <;> omega)
def tyV (K:PySem.W.Frag)(T:String)(x:V)(H:Hp):Prop:=match x with
 | .str _=>T="str"
 | .int _=>T="int"
 | .ref p=>(T="list"/\∃xs,Ao K H p xs)\/(T="tuple"/\∃o,K.lookup p=some o/\o.cls= .type "tuple"/\o.dict=none)\/
   (T="dict"/\((∃AV,H p=some (.dK AV))\/∃AV,H p=some (.dT AV)))\/(T="set"/\∃S n,H p=some (.set S n))
 |_=>False
theorem wx {pins:List (Addr×Obj)}{σ:St}{H:Hp}{s:Shared}{T:String}{x:V}{v:Value}(I:Inv X pins σ H s)(r:RelV x v)(ty:tyV X.K T x H):
  s.TypeIs v T/\∀a,v= .ref a->∃ob,s.heap.get? a=some ob/\ob.dict=none:=by
 cases x with
 |str z=>
  obtain ⟨t,rfl⟩:=r;cases (show T="str" from ty);exact ⟨typeIs_str s z t,fun _ e=>nomatch e⟩
 |int i=>
  obtain ⟨t,rfl⟩:=r;cases (show T="int" from ty);exact ⟨typeIs_int s i t,fun _ e=>nomatch e⟩
 |ref p=>
  cases r;rcases ty with ⟨rfl,xs,hq⟩ | ⟨rfl,o,hk,hc,hd⟩ | ⟨rfl,hk⟩ | ⟨rfl,S,n,hk⟩
  ·obtain ⟨A1,_,pl,_⟩:=I.list hq;refine ⟨pl.isList.typeIs,fun a e=>?_⟩;cases e;obtain ⟨o,n,e,c,hd,_⟩:=pl;exact ⟨o,e,hd⟩
  ·refine ⟨⟨o,I.Yq p o hk,hc⟩,fun a e=>?_⟩;cases e;exact ⟨o,I.Yq _ o hk,hd⟩
  ·have z:∃o,s.heap.get? p=some o/\o.ExactDict:=by
    rcases hk with ⟨AV,hk⟩ | ⟨AV,hk⟩
    ·obtain ⟨_,_,_,_,o,_,_,e,ex,_⟩:=I.BL p _ hk;exact ⟨o,e,ex⟩
    ·obtain ⟨_,_,_,_,o,_,_,e,ex,_⟩:=I.BL p _ hk;exact ⟨o,e,ex⟩
   obtain ⟨o,e,ex⟩:=z;refine ⟨⟨o,e,ex.1⟩,fun a e2=>?_⟩;cases e2;exact ⟨o,e,ex.2.1⟩
  ·obtain ⟨o,_,_,_,e,ex,_⟩:=I.BL p _ hk;refine ⟨⟨o,e,ex.1⟩,fun a e2=>?_⟩;cases e2;exact ⟨o,e,ex.2.1⟩
 |_=>exact False.elim ty
def tBM (K:PySem.W.Frag)(T:String)(r:V->List V->Hp->VK->Prop)(to:TE)(t:TA):TE:=fun σ H Q=>to σ H fun x H1=>tyV K T x H1/\t σ H1 fun xs H2=>r x xs H2 Q
variable {o e:Expr}{es:List Expr}{to:TE}{t:TA}{name:Str}{apos Fv:Pos}{T id:String}{r:V->List V->Hp->VK->Prop}
theorem JD (pa:PlainAttrs T)(slot:Slot T name id)(zK:typeOf (.builtin id)=pure (.type "method_descriptor"))(hm:MtR X id r)(ho:PE X o to)(ha:PA X (e::es) t)
  (Tj:attributeBase o name X.env (eval o X.env)=eval o X.env:=by rfl)
  (uo:((backTo Fv (starEach (e::es) X.env)).all (fun x=> !x.1)&&(backToKw Fv (keywordEach [] X.env)).all (fun x=>x.1.isSome)
   && decide ((e::es).length+([]:List Keyword).length+(if ([]:List Keyword).isEmpty then 0 else 1)<30))=true:=by rfl)
  (hline:(apos.endLine==Fv.line)=true:=by rfl) (hs:starEach (e::es) X.env=(false,eval e X.env)::starEach es X.env:=by rfl) (yD:(backTo Fv (starEach es X.env)).any (·.1)=false:=by rfl):
  PE X (.Call (.Attribute o name apos) (e::es) [] Fv) (tBM X.K T r to t):=by
 kxf_if;refine wpAny_Call_method_late Tj uo hline rfl (Bx (ho pins s σ H _ I h) fun v s1 ⟨x,H1,I1,r1,ty,q1⟩=>?_);obtain ⟨h1,h2⟩:=wx I1 r1 ty;refine ⟨T,id,pa,slot,zK,h1,h2,?_⟩;have hA:=ha Fv pins s1 σ H1 _ I1 q1;rw[hs]at hA ⊢;refine Calls.callWith_builtin (by show (false||(backTo Fv (starEach es X.env)).any (·.1))=false;rw[yD] <;> rfl) (Calls.evalArgs_plain ?_);exact Bx hA fun us s2 ⟨vs,H2,I2,r2,q2⟩=>hm pins s2 σ H2 x vs v us Q I2 r1 r2 q2
end
def MtM (X:Cx)(id:String)(r:V->List V->Hp->VK->Prop):Prop:=
 ∀(pins:List (Addr×Obj)) (s:Shared) (σ:St) (H:Hp) (x:V) (xs:List V) (v:Value) (us:List Value) (Q:VK),Inv X pins σ H s->RelV x v->Vals xs us->r x xs H Q->
  wpAny (model X.prog X.w) X.A (call (.builtin id) (v::us)) (EP X pins σ Q) X.xe s
theorem Vals.one:∀{x:V} {us:List Value},Vals [x] us->∃u,us=[u]/\RelV x u
 |_,_,.cons r .nil=>⟨_,rfl,r⟩
theorem Vals.two:∀{x y:V} {us:List Value},Vals [x,y] us->∃u v,us=[u,v]/\RelV x u/\RelV y v
 |_,_,_,.cons r (.cons q .nil)=>⟨_,_,rfl,r,q⟩
section
variable {X:Cx}{pins:List (Addr×Obj)}{σ:St}{H:Hp}{s:Shared}{l b:Addr}{xs ys zs:List V}
theorem Inv.AAm {A1 its':List Value}{n:Nat}{f:Array Value->Array Value}{t':Nat}(I:Inv X pins σ H s)(hH:H l=some (.lst xs))
  (e:s.heap.get? l=some { cls:= .type "list",data:= .seq A1.toArray n }) (hf:f A1.toArray=its'.toArray) (hv:Vals ys its') (hz:ys.length<=sizeLine):
  Inv X pins σ (upd H l (.lst ys)) { s with heap:=s.heap.update l (Obj.mapSeq f),toks:=t' }:=by
 have q:=PySem.IsL.update e f;rw[hf]at q;refine I.write (x:=l) (e:=l) (by rw[hH];exact trivial) (.inl rfl) (fun b' u hb hu=>(Heap.get?_update_other s.heap (Obj.mapSeq f) (Ne.symm hb)).trans hu) ⟨_,q⟩ ?_;exact ⟨hz,its',_,hv,q⟩
theorem Inv.ADh {A1:List Value}{t':Nat}(I:Inv X pins σ H s)(hv:Vals ys A1)(hz:ys.length<=sizeLine):
  Inv X pins σ (upd H s.heap.objs.size (.lst ys)) { s with heap:=s.heap.push { cls:= .type "list",data:= .seq A1.toArray },toks:=t' }:=
 I.laid (fun _ _ q=>get?_push_of_some _ q) (Nat.le_refl _) ⟨hz,A1,0,hv,get?_push_size _ rfl⟩
theorem Inv.fresh (I:Inv X pins σ H s):H s.heap.objs.size=none:=I.BL.fresh (Nat.le_refl _)
theorem Inv.o4 (I:Inv X pins σ H s)(hH:H l=some (.lst xs)):xs.length<=sizeLine/\∃(A1:List Value) (n:Nat),Vals xs A1/\xs.length=A1.length/\s.heap.get? l=some { cls:= .type "list",data:= .seq A1.toArray n }:=by
 obtain ⟨z,A1,n,r,e⟩:=I.BL l _ hH;exact ⟨z,A1,n,r,r.length,e⟩
theorem oX {n:Nat}(h:n<=sizeLine):Builtin.List.listTooLong n=false:=by
 unfold Builtin.List.listTooLong;exact decide_eq_false (by omega)
end
section
variable {X:Cx}
def sx:V->List V->Hp->VK->Prop:=fun x vs H Q=>∃l xs y,x= .ref l/\vs=[y]/\H l=some (.lst xs)/\xs.length<sizeLine/\Q .Bo (upd H l (.lst (xs ++ [y])))
theorem D8:MtM X "list.append" sx:=by
 intro pins s σ H x vs v us Q I rx rv h;obtain ⟨l,xs,y,rfl,rfl,hH,hz,q⟩:=h;cases rx;obtain ⟨u,rfl,ru⟩:=rv.one;obtain ⟨z,A1,n,r,hl,e⟩:=I.o4 hH;refine call_meets F.slot_list_append ⟨_,e,rfl⟩ F.entry_list_append (F.args_list_append_2 _ _) (PySem.list_append l A1.toArray n u (by rw[size_toArray];omega)) ⟨e,?_⟩;refine ⟨.Bo,_,I.AAm (its':=A1 ++ [u]) hH e (by simp) (r.append (.cons ru .nil)) ?_,rfl,q⟩;rw[length_append,List.length_singleton];omega
def sw:V->List V->Hp->VK->Prop:=fun x vs H Q=>∃l b xs zs,x= .ref l/\vs=[.ref b]/\H l=some (.lst xs)/\H b=some (.lst zs)/\xs.length+zs.length<=sizeLine/\Q .Bo (upd H l (.lst (xs++zs)))
theorem PB:MtM X "list.extend" sw:=by
 intro pins s σ H x vs v us Q I rx rv h;obtain ⟨l,b,xs,zs,rfl,rfl,hH,hB,hz,q⟩:=h;cases rx;obtain ⟨u,rfl,ru⟩:=rv.one;cases ru;obtain ⟨z,A1,n,r,hl,e⟩:=I.o4 hH;obtain ⟨z2,de,n2,r2,hl2,e2⟩:=I.o4 hB;have hsz:A1.toArray.size+de.toArray.size<=sizeLine:=by rw[size_toArray,size_toArray];omega
 have AA9:¬ (!A1.toArray.isEmpty&&Builtin.List.listTooLong (A1.toArray.size+de.toArray.size))=true:=by
  rw[oX hsz,Bool.and_false];exact Bool.false_ne_true
 refine call_meets F.slot_list_extend ⟨_,e,rfl⟩ F.entry_list_extend (F.args_list_extend_2 _ _)
  (AutoSeq1.list_extend_list_list_0 l A1.toArray n b de.toArray n2 AA9 (by rw[size_toArray];omega) (by omega)) ⟨e,e2,?_⟩
 refine ⟨.Bo,_,I.AAm (its':=A1++de) hH e (by simp) (r.append r2) ?_,rfl,q⟩;rw[length_append];omega
def AAO:R2:=fun x y H Q=>∃l b xs zs,x= .ref l/\y= .ref b/\H l=some (.lst xs)/\H b=some (.lst zs)/\xs.length+zs.length<=sizeLine/\∀p,H p=none->Q (.ref p) (upd H p (.lst (xs++zs)))
theorem DP:Px X (binaryOp .Add) AAO:=by
 intro pins s σ H x y v u Q I rx ry h;obtain ⟨l,b,xs,zs,rfl,rfl,hH,hB,hz,q⟩:=h;cases rx;cases ry;obtain ⟨z,A1,n,r,hl,e⟩:=I.o4 hH;obtain ⟨z2,de,n2,r2,hl2,e2⟩:=I.o4 hB;refine PySem.P.add_list e e2 ?_ (by rw[size_toArray,size_toArray];omega);have ea:A1.toArray++de.toArray=(A1++de).toArray:=by simp
 rw[ea];exact ⟨.ref _,_,I.ADh (t':=s.toks) (r.append r2) (by rw[length_append];omega),rfl,q _ I.fresh⟩
end
section
variable {prog:Program}{w:World}{A:Around}{E:Value->Shared->Prop}{s:Shared}
set_option maxRecDepth 100000 in
end
section
variable {X:Cx}
end
theorem Vals.ints:∀{ns:List Int} {us:List Value},Vals (ns.map V.int) us->IntsAre us ns
 | [],us,h=>by
  rw[map_nil]at h;cases h;exact IntsAre.nil
 |n::ns,us,h=>by
  rw[map_cons]at h;cases h with
  |cons r t=>
   obtain ⟨k,rfl⟩:=r;exact IntsAre.cons n k (Vals.ints t)
theorem M3:∀{us:List Value} {ns:List Int},IntsAre us ns->Vals (ns.map V.int) us
 |_,_,.nil=>by rw[map_nil];exact Paired.nil
 |_,_,.cons n t h=>by rw[map_cons];exact Paired.cons (show RelV (V.int n) (Value.int n t)from ⟨t,rfl⟩) (M3 h)
theorem Vals.bls:∀{bs:List Bool} {us:List Value},Vals (bs.map V.bl) us->us=bs.map Value.bool
 | [],us,h=>by
  rw[map_nil]at h;cases h;rfl
 |b::bs,us,h=>by
  rw[map_cons]at h;cases h with
  |cons r t=>
   cases r;rw[Vals.bls t,map_cons]
theorem Vals.Zb {a:Addr}{us:List Value}(r:Vals [V.ref a] us):us=[Value.ref a]:=by
 cases r with
 |cons r t=>
  cases t;cases r;rfl
section
variable {prog:Program}{w:World}{A:Around}{E:Value->Shared->Prop}{s:Shared}{l:Addr}{A1:List Value}{ns:List Int}{Q:Value->Shared->Prop}
end
section
variable {X:Cx}
def sj (K:PySem.W.Frag):List V->Hp->VK->Prop:=fun vs H Q=>∃(a:Addr) (ns:List Int),vs=[V.ref a]/\Ao K H a (ns.map V.int)/\ns.length<64/\
 ∀(cC:List Int) (p:Addr),cC.Perm ns->cC.Pairwise (· <= ·)->H p=none->Q (.ref p) (upd H p (.lst (cC.map V.int)))
theorem sY {n:Nat}(h:n<64):n<=sizeLine:=by rw[sizeLine_eq];omega
theorem Pl:Fm X (.builtin "sorted") (sj X.K):=by
 intro pins s σ H vs us Q I r h;obtain ⟨a,ns,rfl,hs,h64,q⟩:=h;obtain ⟨A1,rv,hl,_⟩:=I.list hs;rw[Vals.Zb r];have hi:=rv.ints;refine sorted_ints hl.isList hi (by rw[hi.length];exact h64) fun out cC h1 h2 h3=>?_;obtain ⟨ep,he'⟩:=PyProof.Rows.sortedAll_at s.heap A1 out;have hlen:(cC.map V.int).length<=sizeLine:=by rw[length_map,h2.length_eq];exact sY h64
 exact ⟨.ref _,upd H (s.heap.objs.size+1) (.lst (cC.map V.int)),I.laid (t':=s.toks) (fun _ _=>PyProof.Rows.sortedAll_old) (le_succ _) ⟨hlen,out.toList,ep,M3 h1,he'⟩,rfl,q cC _ h2 h3 (I.BL.fresh (le_succ _))⟩
end
section
variable {X:Cx}
def xO (K:PySem.W.Frag):V->List V->Hp->VK->Prop:=fun x xs H Q=>∃(a:Addr) (ys:List V) (y:V) (j:Nat) (z:V),x=V.ref a/\xs=[y]/\Ao K H a ys/\G1 y=true/\ys.all G1=true/\ys[j]? =some z/\r9 z y=true/\
 (∀(m:Nat) (z':V),m<j->ys[m]? =some z'->r9 z' y=false)/\Q (.int (j:Nat)) H
theorem gm {ys:List V}(f:ys.all G1=true){j:Nat}{z:V}(h:ys[j]? =some z):G1 z=true:=all_eq_true.mp f z (mem_of_getElem? h)
theorem oj:MtR X "list.index" (xO X.K):=by
 intro pins s σ H x xs v us Q I rx rxs h;obtain ⟨a,ys,y,j,z,rfl,rfl,hs,fy,fys,hz,hzj,hno,q⟩:=h;cases rx;cases rxs with
 |cons ry rt=>
  rename_i uy ut;cases rt;isplit;obtain ⟨A1,rv,⟨⟨cls,dd,data,sl⟩,n,ho,hc,hdn,hd⟩,hlen⟩:=I.list hs;kl_no;simp only at hc hd;subst hc hd;obtain ⟨u,hu,ru⟩:=rv.get hz;obtain ⟨zO,hje⟩:=List.getElem?_eq_some_iff.mp hu;have zJ:=rv.length;have hj:j<A1.toArray.size:=by simpa using zO
  have hsl:=sizeLine_eq;refine call_meets PySem.F.slot_list_index ⟨_,ho,rfl⟩ PySem.F.entry_list_index (PySem.F.args_list_index_2 _ _)
   (SeqAt.list_indexAt a A1.toArray n dd sl uy (cH y) j hj (by omega) ?_ ?_) ⟨ho,fun u' x9=>Hh ry fy rv fys u' (by simpa using x9),?_⟩
  ·have e1:A1.toArray[j]=u:=by simpa using hje
   rw[e1,YN ru (gm fys hz)];exact hzj
  ·intro m hm hmj;have yK:m<A1.length:=by simpa using hm
   have hmy:m<ys.length:=by omega
   have hy':ys[m]? =some ys[m]:=getElem?_eq_getElem hmy;obtain ⟨u2,gW,ru2⟩:=rv.get hy';obtain ⟨_,hme⟩:=List.getElem?_eq_some_iff.mp gW;have e1:A1.toArray[m]=u2:=by simpa using hme
   rw[e1,YN ru2 (gm fys hy')];exact hno m _ hmj hy'
  ·exact ⟨.int (j:Nat),H,I.tok _,⟨_,rfl⟩,q⟩
end
section
variable {X:Cx}
end
theorem ae {prog:Program}{w:World}{A:Around}{E:Value->Shared->Prop}{s:Shared}{l:Addr}{items:Array Value}{Q:Value->Shared->Prop}(hl:s.heap.IsList l items)
  (h:∀F0:Shared,F0={ s with heap:=s.heap.push { cls:= .type "list_iterator",data:= .fields #[.ref l,.int 0 0] } }->
   (F0.heap.IsListIter s.heap.objs.size l 0/\F0.heap.IsList l items)->l≠s.heap.objs.size->Q (.ref s.heap.objs.size) F0):wpAny (model prog w) A (pyIter (.ref l)) Q E s:=by
 have C2:l<s.heap.objs.size:=by obtain ⟨_,e,_⟩:=hl;exact lt_size e
 exact wpAny_pyIter_list hl (h _ rfl ⟨⟨_,get?_push_size _ rfl,rfl,rfl⟩,hl.push _⟩ (ne_of_lt C2))
theorem P2 {prog:Program}{w:World}{A:Around}{bs:List Bool}{A1:List Value}(e:A1=bs.map Value.bool):
  TruthOf prog w A (fun i v=>A1.toArray[i]? =some v) (fun i=>bs.getD i false):=fun i v s Q E hv hq=>by
 have hv':A1[i]? =some v:=by simpa using hv
 rw[e,getElem?_map]at hv';obtain ⟨b,hb,rfl⟩:=Option.map_eq_some_iff.mp hv';have hg:bs.getD i false=b:=by rw[List.getD_eq_getElem?_getD,hb] <;> rfl
 have wT:Q (bs.getD i false) s:=hq;rw[hg]at wT;exact wpAny_truthy_bool wT
theorem any_range:∀bs:List Bool,(List.range bs.length).any (fun i=>bs.getD i false)=bs.any id
 | []=>rfl
 |b::bs=>by
  rw[length_cons,List.range_succ_eq_map,any_cons,any_map,any_cons, <- any_range bs]
  all_goals rfl
theorem all_range:∀bs:List Bool,(List.range bs.length).all (fun i=>bs.getD i false)=bs.all id
 | []=>rfl
 |b::bs=>by
  rw[length_cons,List.range_succ_eq_map,all_cons,all_map,all_cons, <- all_range bs]
  all_goals rfl
section
variable {X:Cx}
def ADB (K:PySem.W.Frag):List V->Hp->VK->Prop:=fun vs H Q=>∃(a:Addr) (bs:List Bool),vs=[V.ref a]/\Ao K H a (bs.map V.bl)/\Q (.bl (bs.any id)) H
def ADC (K:PySem.W.Frag):List V->Hp->VK->Prop:=fun vs H Q=>∃(a:Addr) (bs:List Bool),vs=[V.ref a]/\Ao K H a (bs.map V.bl)/\Q (.bl (bs.all id)) H
theorem qp (hc:X.calm=true):Fm X (.builtin "any") (ADB X.K):=by
 intro pins s σ H vs us Q I r h;obtain ⟨a,bs,rfl,hs,q⟩:=h;obtain ⟨A1,rv,hl,_⟩:=I.list hs;rw[Vals.Zb r];have hb:=rv.bls;refine call_any_walk (ae hl.isList fun F0 e2 st Ml=>?_);subst e2;refine ⟨_,_,_,_,_,_,_,rfl,Walks.list (A:=X.A.in1) (I.ok.hd hc) _ a Ml A1.toArray,st,P2 hb,fun h' tk hk=>?_⟩;refine ⟨.bl _,H,I.kept fun b o eo=>hk b o (fun PR=>?_) (get?_push_of_some _ eo),?_,q⟩
 ·rcases mem_cons.mp PR with e1 | PR
  ·exact absurd (e1 ▸ lt_size eo) (Nat.lt_irrefl _)
  ·cases PR
 ·show Value.bool _=Value.bool _;rw[<- any_range,hb,size_toArray,length_map]
theorem UH (hc:X.calm=true):Fm X (.builtin "all") (ADC X.K):=by
 intro pins s σ H vs us Q I r h;obtain ⟨a,bs,rfl,hs,q⟩:=h;obtain ⟨A1,rv,hl,_⟩:=I.list hs;rw[Vals.Zb r];have hb:=rv.bls;refine call_all_walk (ae hl.isList fun F0 e2 st Ml=>?_);subst e2;refine ⟨_,_,_,_,_,_,_,rfl,Walks.list (A:=X.A.in1) (I.ok.hd hc) _ a Ml A1.toArray,st,P2 hb,fun h' tk hk=>?_⟩;refine ⟨.bl _,H,I.kept fun b o eo=>hk b o (fun PR=>?_) (get?_push_of_some _ eo),?_,q⟩
 ·rcases mem_cons.mp PR with e1 | PR
  ·exact absurd (e1 ▸ lt_size eo) (Nat.lt_irrefl _)
  ·cases PR
 ·show Value.bool _=Value.bool _;rw[<- all_range,hb,size_toArray,length_map]
end
mutual
inductive Dp (K:PySem.W.Frag)(H:Hp):V->PyData->Prop
 |Bo:Dp K H .Bo .none
 |bl (b:Bool):Dp K H (.bl b) (.bool b)
 |int (i:Int):Dp K H (.int i) (.int i)
 |str (x:Str):Dp K H (.str x) (.str x)
 |lst {a:Addr} {xs:List V} {ds:List PyData}:Ao K H a xs->Up K H xs ds->Dp K H (.ref a) (.list ds)
 |tup {a:Addr} {xs:List V} {ds:List PyData}:Gi K H a xs->Up K H xs ds->Dp K H (.ref a) (.tuple ds)
inductive Up (K:PySem.W.Frag)(H:Hp):List V->List PyData->Prop
 |nil:Up K H [] []
 |cons {v:V} {vs:List V} {d:PyData} {ds:List PyData}:Dp K H v d->Up K H vs ds->Up K H (v::vs) (d::ds)
end
section
variable {X:Cx}{pins:List (Addr×Obj)}{σ:St}{H:Hp}{s:Shared}
mutual
theorem Dp.reads (I:Inv X pins σ H s):∀(d:PyData) (v:V) (u:Value),Dp X.K H v d->RelV v u->∃as,Reads s.heap u d as
 | .none,_,_,h,r=>by
  cases h;cases r;exact ⟨_,Reads.none⟩
 | .bool b,_,_,h,r=>by
  cases h;cases r;exact ⟨_,Reads.bool b⟩
 | .int i,_,_,h,r=>by
  cases h;obtain ⟨t,rfl⟩:=r;exact ⟨_,Reads.int i t⟩
 | .str x,_,_,h,r=>by
  cases h;obtain ⟨t,rfl⟩:=r;exact ⟨_,Reads.str x t⟩
 | .list ds,_,_,h,r=>by
  cases h with
  |lst hs ha=>
   cases r;obtain ⟨A1,rv,⟨o,n,ho,hc,_,hd⟩,_⟩:=I.list hs;obtain ⟨as,hr⟩:=Dp.readsAll I ds _ A1 ha rv;exact ⟨_,Reads.list ho hc hd hr⟩
 | .tuple ds,_,_,h,r=>by
  cases h with
  |tup hs ha=>
   cases r;obtain ⟨A1,rv,⟨o,ho,hc,n,hd⟩,_⟩:=I.tuple hs;obtain ⟨as,hr⟩:=Dp.readsAll I ds _ A1 ha rv;exact ⟨_,Reads.tuple ho hc hd hr⟩
 | .dict _,_,_,h,_=>by cases h
theorem Dp.readsAll (I:Inv X pins σ H s):∀(ds:List PyData) (vs:List V) (us:List Value),Up X.K H vs ds->Vals vs us->∃as,ReadsAll s.heap us ds as
 | [],_,_,h,r=>by
  cases h;cases r;exact ⟨_,ReadsAll.nil⟩
 |d::ds,_,_,h,r=>by
  cases h with
  |cons h1 h2=>
   cases r with
   |cons r1 r2=>
    obtain ⟨as,q1⟩:=Dp.reads I d _ _ h1 r1;obtain ⟨bs,q2⟩:=Dp.readsAll I ds _ _ h2 r2;exact ⟨_,ReadsAll.cons q1 q2⟩
end
end
section
variable {X:Cx}
def ADA (K:PySem.W.Frag):R2:=fun x y H Q=>∃d e,Dp K H x d/\Dp K H y e/\SeqAt.shaped d=true/\SeqAt.shaped e=true/\Q (.bl (PyData.eqv d e)) H
def AC7 (K:PySem.W.Frag):R2:=fun x y H Q=>∃d e,Dp K H x d/\Dp K H y e/\SeqAt.shaped d=true/\SeqAt.shaped e=true/\Q (.bl (!PyData.eqv d e)) H
theorem xU (hu:X.A.units+64<cLine):Px X (compareOp .Eq) (ADA X.K):=by
 intro pins s σ H x y v u Q I rx ry h;obtain ⟨d,e,hd,he,sd,se,q⟩:=h;obtain ⟨as,r1⟩:=Dp.reads I d x v hd rx;obtain ⟨bs,r2⟩:=Dp.reads I e y u he ry;exact SeqAt.compareEq_shaped r1 r2 sd se hu ⟨.bl _,H,I,rfl,q⟩
theorem xT (hu:X.A.units+64<cLine):Px X (compareOp .NotEq) (AC7 X.K):=by
 intro pins s σ H x y v u Q I rx ry h;obtain ⟨d,e,hd,he,sd,se,q⟩:=h;obtain ⟨as,r1⟩:=Dp.reads I d x v hd rx;obtain ⟨bs,r2⟩:=Dp.reads I e y u he ry;exact SeqAt.compareNe_shaped r1 r2 sd se hu ⟨.bl _,H,I,rfl,q⟩
end
abbrev rP (h:Heap)(c:Addr)(v:Option Value):Prop:=h.IsCell c v
def AC3 (scope sc:Scope):Scope:=
 { scope with names:=scope.names.map fun (n,k)=>if (k == .free&&sc.kind == .function&&sc.names.lookup n==some .cell)then (n,.cell)else (n,k) }
def Bi (cells:List (Str×Addr)):List (Str×NameKind)->List (Str×Addr)->List (Str×Addr)
 | [],acc=>acc
 | (n,k)::r,acc=>if k == .free then Bi cells r ((n,(cells.lookup n).getD 0)::acc)else Bi cells r acc
theorem OH (env:Env)(f:Str×NameKind->List (Str×Addr)->Sem (ForInStep (List (Str×Addr))))
  (hf:∀n k c,f (n,k) c=if k == .free then (do let a <- cellOf env n;pure (.yield ((n,a)::c)))else pure (.yield c)):
  ∀(names:List (Str×NameKind)) (acc:List (Str×Addr)),(∀y∈names,y.2= .free->∃c,env.cells.lookup y.1=some c)->forIn names acc f=pure (Bi env.cells names acc)
 | [],acc,_=>by rw[forIn_nil];rfl
 | (n,k)::r,acc,h=>by
  rw[List.forIn_cons,hf];have ih:=fun acc=>OH env f hf r acc fun y hy=>h y (mem_cons_of_mem _ hy);unfold Bi;by_cases hk:(k==NameKind.free)=true
  ·rw[if_pos hk,if_pos hk];obtain ⟨c,hc⟩:=h (n,k) mem_cons_self (by simpa using hk);have e:cellOf env n=pure c:=by unfold cellOf;rw[hc]
   rw[e];have e2:(env.cells.lookup n).getD 0=c:=by rw[hc];rfl
   rw[e2];exact ih _
  ·rw[if_neg hk,if_neg hk];exact ih _
theorem eZ {scope:Scope}{env:Env}(h:∀y∈scope.names,y.2= .free->∃c,env.cells.lookup y.1=some c):closureFor scope env=pure (Bi env.cells scope.names []):=by
 simp only[closureFor];rw[OH env _ (fun n k c=>rfl) scope.names [] h];rfl
theorem mem_lookup {α:Type}:∀{l:List (Str×α)} {n:Str} {c:α},(n,c)∈l->∃c',l.lookup n=some c'
 | (k,v)::r,n,c,h=>by
  rw[lookup_cons];cases hb:n==k with
  |true=>exact ⟨_,rfl⟩
  |false=>
   rcases mem_cons.mp h with e | h
   ·cases e;simp at hb
   ·exact mem_lookup h
theorem G2 {cells:List (Str×Addr)}:∀{names:List (Str×NameKind)} {acc:List (Str×Addr)} {n:Str} {c:Addr},(n,c)∈Bi cells names acc->(n,c)∈acc\/((n,.free)∈names/\c=(cells.lookup n).getD 0)
 | [],_,_,_,h=> .inl h
 | (m,k)::r,acc,n,c,h=>by
  unfold Bi at h;split at h
  ·rename_i hk;have hk:k= .free:=by simpa using hk
   rcases G2 h with h | ⟨h1,h2⟩
   ·rcases mem_cons.mp h with e | h
    ·cases e;exact .inr ⟨hk ▸ mem_cons_self,rfl⟩
    ·exact .inl h
   ·exact .inr ⟨mem_cons_of_mem _ h1,h2⟩
  ·rcases G2 h with h | ⟨h1,h2⟩
   ·exact .inl h
   ·exact .inr ⟨mem_cons_of_mem _ h1,h2⟩
theorem Ke {cells:List (Str×Addr)}:∀{names:List (Str×NameKind)} {acc:List (Str×Addr)} {p:Str×Addr},p∈acc->p∈Bi cells names acc
 | [],_,_,h=>h
 | (m,k)::r,acc,p,h=>by
  unfold Bi;split
  ·exact Ke (mem_cons_of_mem _ h)
  ·exact Ke h
theorem Kd {cells:List (Str×Addr)}:∀{names:List (Str×NameKind)} {acc:List (Str×Addr)} {n:Str},(n,.free)∈names->(n,(cells.lookup n).getD 0)∈Bi cells names acc
 | (m,k)::r,acc,n,h=>by
  unfold Bi;rcases mem_cons.mp h with e | h
  ·cases e;exact Ke mem_cons_self
  ·split
   ·exact Kd h
   ·exact Kd h
theorem Hs:∀{names:List (Str×NameKind)} {h:Heap} {acc:List (Str×Addr)} {x:Str} {c:Addr},(x,c)∈cellsFrom h.objs.size names acc->
  (x,c)∈acc\/((x,.cell)∈names/\h.objs.size<=c/\rP (pushCells h names) c none)
 | [],_,_,_,_,h=> .inl h
 | (n,k)::r,h,acc,x,c,hm=>by
  unfold cellsFrom at hm;unfold pushCells;split at hm
  ·rename_i hk;rw[if_pos hk];have hk:k= .cell:=by simpa using hk
   rw[<- size_push h { cls:= .type "cell",data:= .cell none }]at hm;rcases Hs hm with hm | ⟨h1,h2,h3⟩
   ·rcases mem_cons.mp hm with e | hm
    ·cases e;exact .inr ⟨hk ▸ mem_cons_self,Nat.le_refl _,_,pushCells_keeps r _ _ _ (get?_push_size _ rfl),rfl⟩
    ·exact .inl hm
   ·rw[size_push]at h2;exact .inr ⟨mem_cons_of_mem _ h1,le_of_succ_le h2,h3⟩
  ·rename_i hk;rw[if_neg hk];rcases Hs hm with hm | ⟨h1,h2,h3⟩
   ·exact .inl hm
   ·exact .inr ⟨mem_cons_of_mem _ h1,h2,h3⟩
theorem LD:∀{names:List (Str×NameKind)} {n:Nat} {acc:List (Str×Addr)} {p:Str×Addr},p∈acc->p∈cellsFrom n names acc
 | [],_,_,_,h=>h
 | (m,k)::r,n,acc,p,h=>by
  unfold cellsFrom;split
  ·exact LD (mem_cons_of_mem _ h)
  ·exact LD h
theorem Pp:∀{names:List (Str×NameKind)} {n:Nat} {acc:List (Str×Addr)} {x:Str},(x,.cell)∈names->∃c,(x,c)∈cellsFrom n names acc
 | (m,k)::r,n,acc,x,h=>by
  unfold cellsFrom;rcases mem_cons.mp h with e | h
  ·cases e;exact ⟨n,LD mem_cons_self⟩
  ·split
   ·exact Pp h
   ·exact Pp h
theorem Pn:∀{names:List (Str×NameKind)} {h:Heap} {acc:List (Str×Addr)} {x y:Str} {c:Addr},(∀p∈acc,p.2<h.objs.size)->(∀x y c,(x,c)∈acc->(y,c)∈acc->x=y)->
  (x,c)∈cellsFrom h.objs.size names acc->(y,c)∈cellsFrom h.objs.size names acc->x=y
 | [],_,_,_,_,_,_,hi,h1,h2=>hi _ _ _ h1 h2
 | (n,k)::r,h,acc,x,y,c,hl,hi,h1,h2=>by
  unfold cellsFrom at h1 h2;split at h1
  ·rename_i hk;rw[if_pos hk]at h2;rw[<- size_push h { cls:= .type "cell",data:= .cell none }]at h1 h2;refine Pn (h:=h.push _) (fun p hp=>?_) (fun x y c a b=>?_) h1 h2
   ·rw[size_push];rcases mem_cons.mp hp with rfl | hp
    ·exact Nat.lt_succ_self _
    ·exact Nat.lt_succ_of_lt (hl p hp)
   ·rcases mem_cons.mp a with e | a <;> rcases mem_cons.mp b with e' | b
    ·cases e;cases e';rfl
    ·cases e;exact absurd (hl _ b) (Nat.lt_irrefl _)
    ·cases e';exact absurd (hl _ a) (Nat.lt_irrefl _)
    ·exact hi _ _ _ a b
  ·rename_i hk;rw[if_neg hk]at h2;exact Pn hl hi h1 h2
theorem aE {M:Model}{A:Around}{E:Value->Shared->Prop}{s:Shared}{scope:Scope}{globals:Addr}{closure:List (Str×Addr)}{qual:Str}{func:Option Addr}{code:Value}{around:Env}{builtins:Addr}{Q:Env->Shared->Prop}
  (h:Q (newEnv scope s.heap.objs.size globals (cellsFrom (s.heap.objs.size+1) scope.names closure) qual func code (some around) builtins)
   { s with heap:=pushCells (s.heap.push { cls:= .type "dict",data:= .dict #[] }) scope.names }):
  wpAny M A (newFunctionEnv scope globals closure [] qual func code (some around) builtins) Q E s:=by
 simp only[newFunctionEnv,Option.isSome_some,if_true];refine wpAny_bind (wpAny_alloc ?_);refine wpAny_bind (wpAny_layCells _ (fun n k c=>rfl) scope.names closure _ _ ?_);rw[show ({ s with heap:=s.heap.push { cls:= .type "dict",data:= .dict #[] } }:Shared).heap.objs.size=s.heap.objs.size+1 from size_push ..];rw[forIn_nil];exact wpAny_bind (wpAny_pure (wpAny_pure h))
theorem KL {sc:Scope}:∀{names:List (Str×NameKind)} {x:Str} {k:NameKind},
  (names.map fun (n,k)=>if (k==NameKind.free&&sc.kind == .function&&sc.names.lookup n==some .cell)then (n,NameKind.cell)else (n,k)).lookup x=some k->
  ∃k',names.lookup x=some k'/\(k=k'\/(k'= .free/\k= .cell))
 | [],_,_,h=>by simp at h
 | (n,pD)::r,x,k,h=>by
  have ih:= @KL sc r x k;have h':List.lookup x ((if (pD==NameKind.free&&sc.kind == .function&&sc.names.lookup n==some .cell)=true then (n,NameKind.cell)else (n,pD))::(r.map _))=some k:=h;cases hx:x==n with
  |true=>
   simp only[lookup_cons,hx];by_cases hc:(pD==NameKind.free&&sc.kind == .function&&sc.names.lookup n==some .cell)=true
   ·rw[if_pos hc]at h';simp only[lookup_cons,hx]at h';cases h';simp only[Bool.and_eq_true,beq_iff_eq]at hc;exact ⟨pD,rfl,.inr ⟨hc.1.1,rfl⟩⟩
   ·rw[if_neg hc]at h';simp only[lookup_cons,hx]at h';cases h';exact ⟨_,rfl,.inl rfl⟩
  |false=>
   simp only[lookup_cons,hx];by_cases hc:(pD==NameKind.free&&sc.kind == .function&&sc.names.lookup n==some .cell)=true
   ·rw[if_pos hc]at h';simp only[lookup_cons,hx]at h';exact ih h'
   ·rw[if_neg hc]at h';simp only[lookup_cons,hx]at h';exact ih h'
structure cB (N:List Str)(sc scope:Scope)(own:List (Str×Nat)):Prop where
 kind:scope.kind= .function
 ww:∀y∈scope.names,scope.names.lookup y.1=some y.2
 ix:∀p∈own,N[p.2]? =some p.1
 free:∀y∈scope.names,y.2= .free->sc.names.lookup y.1=some .cell\/sc.names.lookup y.1=some .free
 own:∀y∈scope.names,y.2= .local\/y.2= .cell->y.1∈own.map (·.1)\/y.1∉N
def wipe (σ:St):List Nat->St
 | []=>σ
 |v::vs=>(wipe σ vs).set v none
theorem Jb (σ:St):∀vs:List Nat,(wipe σ vs).length=σ.length
 | []=>rfl
 |v::vs=>by unfold wipe;rw[List.length_set,Jb σ vs]
theorem Oa {σ:St}{i:Nat}{x:V}:∀{vs:List Nat},(wipe σ vs)[i]? =some (some x)->σ[i]? =some (some x)/\i∉vs
 | [],h=>⟨h,by simp⟩
 |v::vs,h=>by
  unfold wipe at h;by_cases hi:v=i
  ·subst hi;by_cases hv:v<(wipe σ vs).length
   ·rw[List.getElem?_set_self hv]at h;cases h
   ·rw[List.getElem?_eq_none (by simpa using hv)]at h;cases h
  ·rw[List.getElem?_set_ne hi]at h;obtain ⟨h1,h2⟩:=Oa h;exact ⟨h1,by simp only[mem_cons,not_or];exact ⟨fun e=>hi e.symm,h2⟩⟩
abbrev Cx.Yf (X:Cx)(s:Shared)(H:Hp)(scope:Scope)(EB:Env)(fp:List Addr):Cx:={ X with Vz:=s,yx:=H,env:=EB,outer:=X.stack,ex:=fp,fn:=fun x=>scope.names.lookup x==some .cell,pn:= [],xe:=fun _ _=>False }
section
variable {X:Cx}{pins:List (Addr×Obj)}{σ:St}{H:Hp}{s:Shared}
theorem bW {scope:Scope}{own:List (Str×Nat)}{fp:List Addr}(I:Inv X pins σ H s)(ok:cB X.N X.env.scope scope own)(hN:X.N.Nodup)(zP:∀b∈fp,Vb X pins H b/\b<s.heap.objs.size):
  Inv (X.Yf s H scope (compEnvC scope (cellsFrom (s.heap.objs.size+1) scope.names (Bi X.env.cells scope.names [])) s.heap.objs.size X.env) fp) [] (wipe σ (own.map (·.2))) H { s with heap:=pushCells (s.heap.push { cls:= .type "dict",data:= .dict #[] }) scope.names }:=by
 have Wb:∀y∈scope.names,y.2= .free->∃c,X.env.cells.lookup y.1=some c:=fun y hy e=>by
  rcases ok.free y hy e with k | k
  ·exact I.ok.has _ (.inl k)
  ·exact I.ok.has _ (.inr k)
 generalize au:compEnvC scope (cellsFrom (s.heap.objs.size+1) scope.names (Bi X.env.cells scope.names [])) s.heap.objs.size X.env=EB;have kp:∀b o,s.heap.get? b=some o->(pushCells (s.heap.push { cls:= .type "dict",data:= .dict #[] }) scope.names).get? b=some o:=fun b o e=>pushCells_keeps _ _ _ _ (get?_push_of_some _ e);have hL:EB.locals=s.heap.objs.size:=by rw[<- au];rfl
 have kI:EB.cells=cellsFrom (s.heap.objs.size+1) scope.names (Bi X.env.cells scope.names []):=by rw[<- au];rfl
 have hsc:EB.scope=AC3 scope X.env.scope:=by rw[<- au];rfl
 rw[<- size_push s.heap { cls:= .type "dict",data:= .dict #[] }]at kI;have cm:∀{y c},(y,c)∈Bi X.env.cells scope.names []->X.env.cells.lookup y=some c/\c<s.heap.objs.size:=fun {y c} hm=>by
  rcases G2 hm with hm | ⟨h1,rfl⟩
  ·cases hm
  ·obtain ⟨c,hc⟩:=Wb _ h1 rfl;rw[hc];obtain ⟨w,z⟩:=I.cell _ _ hc;exact ⟨rfl,z.lt⟩
 have mem:∀{y c},EB.cells.lookup y=some c->(X.env.cells.lookup y=some c/\c<s.heap.objs.size)\/(s.heap.objs.size+1<=c/\rP (pushCells (s.heap.push { cls:= .type "dict",data:= .dict #[] }) scope.names) c none):=fun {y c} e=>by
  rw[kI]at e;rcases Hs (PySem.mem_of_lookup e)with hm | ⟨_,h2,h3⟩
  ·exact .inl (cm hm)
  ·rw[size_push]at h2;exact .inr ⟨h2,h3⟩
 have look:∀{y},scope.names.lookup y=some .free->∃c,EB.cells.lookup y=some c/\X.env.cells.lookup y=some c:=fun {y} hl=>by
  have hy:(y,NameKind.free)∈scope.names:=PySem.mem_of_lookup hl;obtain ⟨c',e'⟩:=mem_lookup (LD (names:=scope.names) (n:=(s.heap.push { cls:= .type "dict",data:= .dict #[] }).objs.size) (Kd (cells:=X.env.cells) (acc:= []) hy));rw[<- kI]at e';refine ⟨c',e',?_⟩;rw[kI]at e';rcases Hs (PySem.mem_of_lookup e')with hm | ⟨h1,_,_⟩
  ·exact (cm hm).1
  ·have:=ok.ww _ h1;rw[hl]at this;cases this
 have okB:(X.Yf s H scope EB fp).Ok:=by
  refine ⟨I.ok.mod,by show EB.scope.kind=_;rw[hsc];exact ok.kind,by show EB.globals=_;rw[<- au];exact I.ok.glob,by show EB.builtins=_;rw[<- au];exact I.ok.blt,by show s.heap.objs.size<=EB.locals;rw[hL];exact Nat.le_refl _,
   fun y z c e1 e2=>?_,fun y hy=>?_,fun y c z e=>?_,I.ok.hd,I.ok.frames,.inl rfl,fun b hb=>⟨?_,fun y c e z=>?_⟩,I.bs,Nat.le_trans I.ok.vU I.sz,fun b o e hb=>?_,fun b hb z=>?_,I.stack,I.fW⟩
  ·have e1:EB.cells.lookup y=some c:=e1;have e2:EB.cells.lookup z=some c:=e2;rw[kI]at e1 e2;refine Pn (fun p hp=>?_) (fun y z c a b=>I.ok.inj y z c (cm a).1 (cm b).1) (PySem.mem_of_lookup e1) (PySem.mem_of_lookup e2);rw[size_push];exact Nat.lt_succ_of_lt (cm (y:=p.1) (c:=p.2) hp).2
  ·show ∃c,EB.cells.lookup y=some c;have key:∀k,EB.kindOf y=some k->(k= .cell\/k= .free)->∃c,EB.cells.lookup y=some c:=fun k hk hk'=>by
    unfold Env.kindOf at hk;rw[hsc]at hk;obtain ⟨k',e,r⟩:=KL hk;have:k'= .cell\/k'= .free:=by
     rcases r with rfl | ⟨rfl,_⟩
     ·exact hk'
     ·exact .inr rfl
    rcases this with rfl | rfl
    ·obtain ⟨c,hm⟩:=Pp (n:=(s.heap.push { cls:= .type "dict",data:= .dict #[] }).objs.size) (acc:=Bi X.env.cells scope.names []) (PySem.mem_of_lookup e);obtain ⟨c',e'⟩:=mem_lookup hm;exact ⟨c',by rw[kI];exact e'⟩
    ·obtain ⟨c,h1,_⟩:=look e;exact ⟨c,h1⟩
   rcases hy with hy | hy
   ·exact key _ hy (.inl rfl)
   ·exact key _ hy (.inr rfl)
  ·have z:(scope.names.lookup y==some NameKind.cell)=true:=z;have z:scope.names.lookup y=some .cell:=by simpa using z
   have e:EB.cells.lookup y=some c:=e;rw[kI]at e;rcases Hs (PySem.mem_of_lookup e)with hm | ⟨_,h2,_⟩
   ·rcases G2 hm with hm | ⟨h1,_⟩
    ·cases hm
    ·have q:=ok.ww _ h1;rw[z]at q;cases q
   ·rw[size_push]at h2;exact le_of_succ_le h2
  ·show b≠EB.locals;rw[hL];exact ne_of_lt (zP b hb).2
  ·have e:EB.cells.lookup y=some c:=e;rcases mem e with ⟨h1,_⟩ | ⟨h1,_⟩
   ·exact (zP b hb).1.2.2.2.2.1 y c h1 z
   ·have h2:s.heap.objs.size+1<=b:=by rw[<- z];exact h1
    exact absurd (Nat.lt_of_lt_of_le (zP b hb).2 (le_of_succ_le h2)) (Nat.lt_irrefl _)
  ·rcases (zP b hb).1.2.2.2.1 with z | z
   ·exact I.ok.oZ b o e z
   ·exact absurd (Nat.lt_of_lt_of_le (lt_size e) (Nat.le_trans I.ok.vU z)) (Nat.lt_irrefl _)
  ·rcases mem_cons.mp (I.cS b z)with z | z
   ·exact (zP b hb).1.2.1 z
   ·exact (zP b hb).1.2.2.1 z
 refine ⟨okB,rfl,I.bare,Un.kept kp,⟨fun _=>none,?_,fun i y av e1 e2 e3=>?_⟩,fun y c e=>?_,?_,fun y c e=>?_,fun p hp=>?_,I.BL.kept kp,by rw[Jb];exact I.len⟩
 ·show Heap.Ns _ EB.locals _;rw[hL];exact Heap.Ns.keeps (Heap.Ns.new ..) fun b o e=>pushCells_keeps _ _ _ _ e
 ·obtain ⟨e2,Ml⟩:=Oa e2;have hfr:scope.names.lookup y=some .free/\(EB.kindOf y=some .cell\/EB.kindOf y=some .free):=by
   have key:∀k,EB.scope.names.lookup y=some k->k= .local\/k= .cell\/k= .free->scope.names.lookup y=some .free/\(EB.kindOf y=some .cell\/EB.kindOf y=some .free):=fun k hk hk'=>by
    have hk0:=hk;rw[hsc]at hk;obtain ⟨k',e,r⟩:=KL hk;have no:¬ (k'= .local\/k'= .cell):=fun hh=>by
     rcases ok.own _ (PySem.mem_of_lookup e) hh with e' | e'
     ·obtain ⟨p,hp,hpy⟩:=mem_map.mp e';have e3:=ok.ix p hp;have:p.1=y:=hpy;rw[this]at e3;exact Ml (mem_map.mpr ⟨p,hp,S4 hN e3 e1⟩)
     ·exact e' (mem_of_getElem? e1)
    rcases r with rfl | ⟨rfl,rfl⟩
    ·rcases hk' with rfl | rfl | rfl
     ·exact absurd (.inl rfl) no
     ·exact absurd (.inr rfl) no
     ·exact ⟨e,.inr hk0⟩
    ·exact ⟨e,.inl hk0⟩
   have e3:yt EB.scope y:=e3;rcases e3 with e3 | e3 | e3
   ·exact key _ e3 (.inl rfl)
   ·exact key _ e3 (.inr (.inl rfl))
   ·exact key _ e3 (.inr (.inr rfl))
  obtain ⟨m,hn,hl⟩:=I.loc;have ADu:yt X.env.scope y:=(ok.free _ (PySem.mem_of_lookup hfr.1) rfl).elim (fun k=> .inr (.inl k)) (fun k=> .inr (.inr k));obtain ⟨w,r,q⟩:=hl i y av e1 e2 ADu;refine ⟨w,r,.inr ⟨hfr.2,?_⟩⟩;obtain ⟨c,h1,h2⟩:=look hfr.1;rcases q with ⟨k,_⟩ | ⟨_,c',e',z⟩
  ·have k:X.env.scope.names.lookup y=some .local:=k;rcases ok.free _ (PySem.mem_of_lookup hfr.1) rfl with k' | k' <;> rw[show X.env.scope.names.lookup y=_ from k']at k <;> cases k
  ·rw[h2]at e';cases e';exact ⟨c,h1,z.keeps kp⟩
 ·have e:EB.cells.lookup y=some c:=e;rcases mem e with ⟨h1,_⟩ | ⟨_,z⟩
  ·obtain ⟨w,z⟩:=I.cell y c h1;exact ⟨w,z.keeps kp⟩
  ·exact ⟨_,z⟩
 ·show H EB.locals=none;rw[hL];exact I.BL.fresh (Nat.le_refl _)
 ·have e:EB.cells.lookup y=some c:=e;rcases mem e with ⟨h1,_⟩ | ⟨h1,_⟩
  ·exact I.Hn y c h1
  ·exact I.BL.fresh (le_of_succ_le h1)
 ·exact absurd (show p∈([]:List (Addr×Obj)) ++ []from hp) (by simp)
theorem yr {E:Value->Shared->Prop}{D:Addr}{xs:List V}{y:V}{v:Value}{Q:Value->Shared->Prop}(I:Inv X pins σ H s)(hD:H D=some (.lst xs))(hz:xs.length<sizeLine)(r:RelV y v)
  (h:∀s',Inv X pins σ (upd H D (.lst (xs ++ [y]))) s'->Q .none s'):wpAny (model X.prog X.w) X.A (call (.builtin "list.append") [.ref D,v]) Q E s:=by
 obtain ⟨rc,A1,n,ri,e⟩:=I.BL D _ hD;have hl:=ri.length;refine append_at (hsz:=by rw[size_toArray];omega) e fun h' sb Wa=>?_;refine h { s with heap:=h' } (I.write (t':=s.toks) (by rw[hD];trivial) (.inl rfl) (fun b u hb q=>(sb.2 b hb).trans q) ⟨_,Wa⟩ ⟨by rw[length_append];exact hz,A1 ++ [v],n+1,ri.append (.cons r .nil),?_⟩);rw[Wa];simp
def PTs (X:Cx)(ifs:List Expr)(t:TT):Prop:=
 ∀(pins:List (Addr×Obj)) (s:Shared) (σ:St) (H:Hp) (Q:Bool->Hp->Prop),Inv X pins σ H s->t σ H Q->
  wpAny (model X.prog X.w) X.A (forIn ifs true fun c r=>if r=true then do let ok <- isTrue c X.env (eval c X.env);pure (ForInStep.yield ok)else pure (ForInStep.yield r)) (TP X pins σ Q) X.xe s
def zt:TT:=fun _ H Q=>Q true H
theorem Ez:PTs X [] zt:=fun _ _ _ H _ I h=>wpAny_tests_nil ⟨H,I,h⟩
theorem IX {c:Expr}{t:TT}(h:PT X c t):PTs X [c] t:=fun pins s σ H Q I hw=>wpAny_tests_one (h pins s σ H Q I hw)
end
theorem iW {α:Type}{t:Sem α}{Q Q':α->Shared->Prop}{M:Model}{A:Around}{E:Value->Shared->Prop}{s:Shared}(h:wpAny M A t Q (fun _ _=>False) s)(hQ:∀a s,Q a s->Q' a s):wpAny M A t Q' E s:=wpAny_mono h hQ fun _ _ z=>False.elim z
theorem YY {prog:Program}{w:World}{A:Around}{R:Result->Shared->Prop}{s:Shared}{elt target iter:Expr}{ifs:List Expr}{scope:Scope}{pos:Pos}{it acc:Value}{env:Env}(I:Nat->Shared->Prop)
  (turn:∀n s,I n s->wpAny (model prog w) A (pyNext it) (fun r Bq=>match r with
   |none=>R (.ok .next) Bq
   |some v=>wpAny (model prog w) A (letOwnedTupleGo target it v) (fun _ v5=>wpAny (model prog w) A (assign target env v) (fun _ F0=>
     wpAny (model prog w) A (forIn ifs true fun c r=>if r=true then do let ok <- isTrue c env (eval c env);pure (ForInStep.yield ok)else pure (ForInStep.yield r)) (fun ok ZD=>
      if ok=true then wpAny (model prog w) A (eval elt env) (fun x AAI=>
       wpAny (model prog w) A (call (.builtin "list.append") [acc,x]) (fun _ AAH=>∃m,m<n/\I m AAH) (notedBy (model prog w) A env fun e s'=>R (.error e) s') AAI) (notedBy (model prog w) A env fun e s'=>R (.error e) s') ZD
      else ∃m,m<n/\I m ZD) (notedBy (model prog w) A env fun e s'=>R (.error e) s') F0) (notedBy (model prog w) A env fun e s'=>R (.error e) s') v5) (notedBy (model prog w) A env fun e s'=>R (.error e) s') Bq) (notedBy (model prog w) A env fun e s'=>R (.error e) s') s)
  (n:Nat) (h:I n s):
  codeAny (model prog w) A (.compLoop (.ListComp elt [⟨target,iter,ifs,0⟩] scope pos) 0 it acc env) R s:=by
 refine codeAny_loop rfl I (fun n s hI=>?_) n h;show wpAny _ A ((compTurn (.ListComp elt [⟨target,iter,ifs,0⟩] scope pos) 0 it acc env).onRaise (fun x=>do noteFrame x env;theTreesLotGoes x)) _ _ s;refine wpAny_noted ?_;rw[compTurn_list];refine wpAny_bind (wpAny_standAt (wpAny_bind (wpAny_mono (turn n s hI) (fun r Bq ud=>?_) fun _ _ h'=>h')));cases r with
 |none=>exact wpAny_pure ud
 |some v=>
  refine wpAny_bind (wpAny_mono ud (fun _ v5 AAt=>?_) fun _ _ h'=>h');refine wpAny_bind (wpAny_mono AAt (fun _ F0 pQ=>wpAny_bind (wpAny_mono pQ (fun ok ZD uc=>?_) fun _ _ h'=>h')) fun _ _ h'=>h');cases ok with
  |false=>exact wpAny_pure ⟨rfl,uc⟩
  |true=>
   exact wpAny_bind (wpAny_bind (wpAny_mono uc (fun x AAI ADo=>wpAny_bind (wpAny_mono ADo (fun _ AAH ADn=>wpAny_pure (wpAny_pure ⟨rfl,ADn⟩)) fun _ _ h'=>h')) fun _ _ h'=>h'))
section
variable {X:Cx}
def tLc (wi:TI)(g:TG)(tt:TT)(te:TE)(vs:List Nat):TE:=fun σ H Q=>wi σ H fun J H1=>∀D,H1 D=none->∃W:Nat->Nat->Hp->Prop,(∃m,W 0 m (upd H1 D (.lst [])))/\∀i m H,W i m H->
 (J.stop i H/\Q (.ref D) H)\/(J.go i H/\∃Nx:Hp->Prop,(∀H',Nx H'->∃m',m'<m/\W (i+1) m' H')/\∀x H',J.rR i H x H'->g x (wipe σ vs) H' fun σ2 H2=>wipe σ2 vs=wipe σ vs/\tt σ2 H2 fun b H3=>
  if b=true then te σ2 H3 fun y H4=>∃acc,H4 D=some (.lst acc)/\acc.length<sizeLine/\Nx (upd H4 D (.lst (acc ++ [y])))else Nx H3)
theorem gO {pins:List (Addr×Obj)}{s:Shared}{σ:St}{H:Hp}{Q:VK}{elt tg iter:Expr}{ifs:List Expr}{scope:Scope}{own:List (Str×Nat)}{pos pos':Pos}{wi:TI}{g:TG}{tt:TT}{te:TE}{use:Option (Value->Sem Unit)}{Qf:Value->Shared->Prop}
  (hc:X.calm=true) (hN:X.N.Nodup) (I:Inv X pins σ H s) (hi:PI X tg iter wi) (ok:cB X.N X.env.scope scope own)
  (hg:∀(s:Shared) (H:Hp) (C:Addr) (cl:List (Str×Addr)) (fp:List Addr),PG (X.Yf s H scope (compEnvC scope cl C X.env) fp) tg g) (ht:∀(s:Shared) (H:Hp) (C:Addr) (cl:List (Str×Addr)) (fp:List Addr),PTs (X.Yf s H scope (compEnvC scope cl C X.env) fp) ifs tt)
  (he:∀(s:Shared) (H:Hp) (C:Addr) (cl:List (Str×Addr)) (fp:List Addr),PE (X.Yf s H scope (compEnvC scope cl C X.env) fp) elt te) (hs:∀x,foldedSetIterable iter X.env x=pure x)
  (h:tLc wi g tt te (own.map (·.2)) σ H Q)
  (hRR:∀D C s' m H',Inv X pins σ H' s'->Q (.ref D) H'->s'.heap.Ns C m->Vb X pins H' C->compPost (model X.prog X.w) X.A X.xe use Qf (.ref D) C (.ok .next) s'):
  wpAny (model X.prog X.w) X.A (comprehension (.ListComp elt [⟨tg,iter,ifs,0⟩] scope pos) scope X.env pos' (newList []) false (eval iter X.env) use) Qf X.xe s:=by
 have Wb:∀y∈scope.names,y.2= .free->∃c,X.env.cells.lookup y.1=some c:=fun y hy e=>by
  rcases ok.free y hy e with k | k
  ·exact I.ok.has _ (.inl k)
  ·exact I.ok.has _ (.inr k)
 refine wpAny_comprehension_free (use:=use) rfl hs (eZ Wb) ok.kind (fun y hy e=>by rw[ok.ww y hy,e])
  (Bx (hi pins s σ H _ I h) fun xv s1 hx=>Bx hx fun itv s2 h2=>?_)
 isplit;obtain ⟨it,fp,tn,J,H2,e,I2,T,yz,f2,q⟩:=h2;kl_no;subst e;refine wpAny_newObj_type (aE ?_) (by show 0<=sizeLine;decide);generalize hD:s2.heap.objs.size=D;have hDn:H2 D=none:=I2.BL.fresh (Nat.le_of_eq hD);isplit;obtain ⟨W,⟨m0,w0⟩,turn⟩:=q D hDn;kl_no;generalize hs3:({ s2 with heap:=s2.heap.push { cls:= .type "list",data:= .seq ([]:List Value).toArray } }:Shared)=s3;have I3:Inv X pins σ (upd H2 D (.lst [])) s3:=by
  rw[<- hs3];refine I2.laid (t':=s2.toks) (fun b o e=>get?_push_of_some _ e) (Nat.le_of_eq hD) ⟨zero_le _,[],0,.nil,?_⟩;rw[<- hD];exact get?_push_size _ rfl
 have h3:s3.heap=s2.heap.push { cls:= .type "list",data:= .seq ([]:List Value).toArray }:=by rw[<- hs3]
 have sz:∀b∈fp,b<s2.heap.objs.size:=fun b hb=>by
  obtain ⟨o,e,_⟩:=T.obj _ _ yz b hb;exact lt_size e
 have f3:∀b∈fp,Vb X pins (upd H2 D (.lst [])) b/\b<s3.heap.objs.size:=fun b hb=>by
  have C2:=sz b hb;refine ⟨⟨?_,(f2 b hb).2⟩,by rw[h3,size_push];exact Nat.lt_succ_of_lt C2⟩;rw[AI (by rw[<- hD];exact ne_of_lt C2)];exact (f2 b hb).1
 have st3:tn 0 s3.heap:=T.keep _ _ _ yz fun b _ o e=>by rw[h3];exact get?_push_of_some _ e
 have I4:=bW I3 ok hN f3;have pg:=hg s3 (upd H2 D (.lst [])) s3.heap.objs.size (cellsFrom (s3.heap.objs.size+1) scope.names (Bi X.env.cells scope.names [])) fp;have pt:=ht s3 (upd H2 D (.lst [])) s3.heap.objs.size (cellsFrom (s3.heap.objs.size+1) scope.names (Bi X.env.cells scope.names [])) fp;have pe:=he s3 (upd H2 D (.lst [])) s3.heap.objs.size (cellsFrom (s3.heap.objs.size+1) scope.names (Bi X.env.cells scope.names [])) fp;show codeAny _ _ (.compStart (.ListComp elt [⟨tg,iter,ifs,0⟩] scope pos) 0 (.ref it) (.ref D) (compEnvC scope (cellsFrom (s3.heap.objs.size+1) scope.names (Bi X.env.cells scope.names [])) s3.heap.objs.size X.env)) (compPost (model X.prog X.w) X.A X.xe use Qf (.ref D) s3.heap.objs.size) { s3 with heap:=pushCells (s3.heap.push { cls:= .type "dict",data:= .dict #[] }) scope.names };have nfp:∀b∈fp,(upd H2 D (.lst [])) b=none:=fun b hb=>(f3 b hb).1.1;generalize hce:compEnvC scope (cellsFrom (s3.heap.objs.size+1) scope.names (Bi X.env.cells scope.names [])) s3.heap.objs.size X.env=ce at I4 pg pt pe ⊢;have cL:ce.locals=s3.heap.objs.size:=by subst hce;rfl
 generalize zT:upd H2 D (.lst [])=H3 at I3 I4 pg pt pe w0 nfp f3;generalize hs4:({ s3 with heap:=pushCells (s3.heap.push { cls:= .type "dict",data:= .dict #[] }) scope.names }:Shared)=s4 at I4 ⊢;have st4:tn 0 s4.heap:=T.keep _ _ _ st3 fun b _ o e=>by rw[<- hs4];exact pushCells_keeps _ _ _ _ (get?_push_of_some _ e)
 have stat:∀{σ':St} {H':Hp} {s':Shared},Inv (X.Yf s3 H3 scope ce fp) [] σ' H' s'->(∀b∈fp,H' b=none)->∀b∈fp,Vb (X.Yf s3 H3 scope ce fp) [] H' b:=fun {σ' H' s'} I' hn b hb=>
  ⟨hn b hb,(I'.ok.exf b hb).1,I'.ok.qQ b hb,.inl hb,fun x c e=>(I'.ok.exf b hb).2 x c e,fun p hp=>absurd (show p∈([]:List (Addr×Obj)) ++ []from hp) (by simp)⟩
 have loop:codeAny (model X.prog X.w) X.A (.compLoop (.ListComp elt [⟨tg,iter,ifs,0⟩] scope pos) 0 (.ref it) (.ref D) ce) (compPost (model X.prog X.w) X.A X.xe use Qf (.ref D) s3.heap.objs.size) s4:=by
  refine YY (fun n s'=>∃i H',Inv (X.Yf s3 H3 scope ce fp) [] (wipe σ (own.map (·.2))) H' s'/\tn i s'.heap/\(∀b∈fp,H' b=none)/\W i n H') ?_ m0 ⟨0,H3,I4,st4,nfp,w0⟩;intro n s5 zz;isplit;obtain ⟨i,H5,I5,yy,n5,w5⟩:=zz;kl_no;rcases turn i n H5 w5 with ⟨stop,qq⟩ | ⟨go,Nx,hNx,step⟩
  ·have td:=T.done (X.Yf s3 H3 scope ce fp) rfl rfl rfl hc i [] s5 _ H5 (fun _ _=>False) I5 (stat I5 n5) yy stop;refine iW td fun r s6 ⟨hr,I6⟩=>?_;subst hr;have I7:Inv X pins σ H5 s6:=I3.ABk (ch:=fp) I6.os I6.base I6.BL I6.bare fun b hb=>⟨(f3 b hb).1.2.2.2.1,(f3 b hb).1.2.1,(f3 b hb).1.2.2.2.2.1,(f3 b hb).1.2.2.2.2.2⟩;have nC:H5 s3.heap.objs.size=none:=by
    have z:H5 ce.locals=none:=I6.free;rw[cL]at z;exact z
   obtain ⟨m,hn,_⟩:=I6.loc;have hn:s6.heap.Ns ce.locals m:=hn;rw[cL]at hn;exact hRR D s3.heap.objs.size s6 m H5 I7 qq hn (I3.ux (Nat.le_refl _) nC)
  ·have ti:=T.item (X.Yf s3 H3 scope ce fp) rfl rfl rfl hc i [] s5 _ H5 (fun _ _=>False) I5 (stat I5 n5) yy go;refine iW ti fun r s6 ⟨u,hr,h6⟩=>?_;subst hr;refine iW h6 fun _ s7 ⟨x,H7,I7,r7,y7,st7,n7⟩=>?_;have I7':=I7.pinned (stat I7 n7) (T.obj _ _ st7);refine iW (pg _ s7 _ H7 x u _ I7' r7 (step x H7 y7)) fun _ s8 ⟨σ8,H8,I8,hw8,q8⟩=>?_;refine iW (pt _ s8 σ8 H8 _ I8 q8) fun b s9 ⟨H9,I9,q9⟩=>?_;have fin:∀{s':Shared} {H':Hp},Inv (X.Yf s3 H3 scope ce fp) ([]++SL fp s7.heap) σ8 H' s'->Nx H'->∃m,m<n/\∃i H',Inv (X.Yf s3 H3 scope ce fp) [] (wipe σ (own.map (·.2))) H' s'/\tn i s'.heap/\(∀b∈fp,H' b=none)/\W i m H':=fun {s' H'} I' nx=>by
    obtain ⟨m',hm,w'⟩:=hNx H' nx;have AAP:∀b∈fp, ∀o,s7.heap.get? b=some o->s'.heap.get? b=some o/\H' b=none:=fun b hb o e=>
     let z:=I'.pin (b,o) (mem_append_right _ (mem_append_right _ (Md hb e)))
     ⟨z.1,z.2.1⟩
    have hl:(wipe σ (own.map (·.2))).length=σ8.length:=by rw[<- hw8,Jb]
    refine ⟨m',hm,i+1,H',(I'.M4 (pins:= [])).weak hl (fun j v e=>?_),T.keep _ _ _ st7 fun b hb o e=>(AAP b hb o e).1,fun b hb=>?_,w'⟩
    ·rw[<- hw8]at e;exact (Oa e).1
    ·obtain ⟨o,e,_⟩:=T.obj _ _ st7 b hb;exact (AAP b hb o e).2
   cases b with
   |false=>
    simp only[Bool.false_eq_true,if_false]at q9 ⊢;exact fin I9 q9
   |true=>
    simp only[if_true]at q9 ⊢;refine iW (pe _ s9 σ8 H9 _ I9 q9) fun z s10 ⟨yv,H10,I10,r10,acc,AEu,ADp,nx⟩=>?_;exact yr (X:=X.Yf s3 H3 scope ce fp) I10 AEu ADp r10 fun s11 I11=>fin I11 nx
 exact codeAny_compStart_list loop (T.self X.A 0 _ _ _ st4 loop)
theorem GD {elt tg iter:Expr}{ifs:List Expr}{scope:Scope}{own:List (Str×Nat)}{pos:Pos}{wi:TI}{g:TG}{tt:TT}{te:TE}(hc:X.calm=true)(hN:X.N.Nodup)(hi:PI X tg iter wi)(ok:cB X.N X.env.scope scope own)
  (hg:∀(s:Shared) (H:Hp) (C:Addr) (cl:List (Str×Addr)) (fp:List Addr),PG (X.Yf s H scope (compEnvC scope cl C X.env) fp) tg g) (ht:∀(s:Shared) (H:Hp) (C:Addr) (cl:List (Str×Addr)) (fp:List Addr),PTs (X.Yf s H scope (compEnvC scope cl C X.env) fp) ifs tt)
  (he:∀(s:Shared) (H:Hp) (C:Addr) (cl:List (Str×Addr)) (fp:List Addr),PE (X.Yf s H scope (compEnvC scope cl C X.env) fp) elt te) (hs:∀x,foldedSetIterable iter X.env x=pure x:=by intro _;rfl):
  PE X (.ListComp elt [⟨tg,iter,ifs,0⟩] scope pos) (tLc wi g tt te (own.map (·.2))):=by
 kxf_if;rw[eval_ListComp];refine gO hc hN I hi ok hg ht he hs h fun D C s' m H' I' q hn f=>⟨m,hn,fun h'' sb=>?_⟩;obtain ⟨f0,f1,f2,f3,f4,f5⟩:=f;exact ⟨.ref D,H',I'.turned (t':=s'.toks) (fun b o hb e=>(sb.2 b hb).trans e) f0 f1 f3 f4 f5,rfl,q⟩
theorem Zm {i:Nat}{y:Str}{py:Pos}{elt tg iter:Expr}{ifs:List Expr}{scope:Scope}{own:List (Str×Nat)}{pos AAJ:Pos}{wi:TI}{g:TG}{tt:TT}{te:TE}(hc:X.calm=true)(hN:X.N.Nodup)(hy:X.N[i]? =some y)(hyl:X.env.scope.names.lookup y=some .local)
  (hsw:swapsWith (.ListComp elt [⟨tg,iter,ifs,0⟩] scope pos) (some (.Name y py)) AAJ.line X.env=pure true) (hi:PI X tg iter wi) (ok:cB X.N X.env.scope scope own)
  (hg:∀(s:Shared) (H:Hp) (C:Addr) (cl:List (Str×Addr)) (fp:List Addr),PG (X.Yf s H scope (compEnvC scope cl C X.env) fp) tg g) (ht:∀(s:Shared) (H:Hp) (C:Addr) (cl:List (Str×Addr)) (fp:List Addr),PTs (X.Yf s H scope (compEnvC scope cl C X.env) fp) ifs tt)
  (he:∀(s:Shared) (H:Hp) (C:Addr) (cl:List (Str×Addr)) (fp:List Addr),PE (X.Yf s H scope (compEnvC scope cl C X.env) fp) elt te) (hs:∀x,foldedSetIterable iter X.env x=pure x:=by intro _;rfl):
  PS X (.Assign [.Name y py] (.ListComp elt [⟨tg,iter,ifs,0⟩] scope pos) AAJ) (AAF (tLc wi g tt te (own.map (·.2))) (gl i)):=by
 intro pins s σ H D I h;rw[exec_Assign_Name_used _ _ _ _ hsw];refine wpAny_bind (wpAny_standAt (wpAny_bind ?_));show wpAny _ X.A (do let _ <- comprehension (.ListComp elt [⟨tg,iter,ifs,0⟩] scope pos) scope X.env (firstIterPos [⟨tg,iter,ifs,0⟩] pos) (newList []) false (eval iter X.env) (some (assign (.Name y py) X.env))) _ _ s;have h:tLc wi g tt te (own.map (·.2)) σ H (fun x H1=>gl i x σ H1 D.nx):=h;refine wpAny_bind (Bx (gO (Qf:=fun _ s'=>SP X pins D .next s') hc hN I hi ok hg ht he hs h fun L C s' m H' I' q hn f=>?_) fun _ s' hq=>wpAny_pure (wpAny_pure hq));show wpAny _ _ (assign (.Name y py) X.env (.ref L)) _ _ _;refine wpAny_assign_Name (Vk (v:=V.ref L) I' hN hy (.inl hyl) rfl (fun s2 I2 ⟨a,sb,ha⟩=>?_) (.inr hyl));obtain ⟨f0,f1,f2,f3,f4,f5⟩:=f;have haC:C≠a:=by
  rcases ha with z | z
  ·rw[z];exact f1
  ·exact fun e=>f4 y a z e.symm
 refine ⟨m,hn.sameBut sb haC,fun h3 sb3=>?_⟩;exact ⟨_,H',I2.turned (t':=s2.toks) (fun b o hb e=>(sb3.2 b hb).trans e) f0 f1 f3 f4 f5,q⟩
theorem fV {elt:Expr}{gs:List Comprehension}{scope:Scope}{pos py:Pos}{y:Str}{l:Nat}{env:Env}(hk:env.scope.kind= .function)(hy:env.scope.names.lookup y=some .local)(hl:(py.line==pos.line)=true)
  (ha:(scope.names.any fun (n,k)=>n==y&&(k == .local||k == .cell))=false):swapsWith (.ListComp elt gs scope pos) (some (.Name y py)) l env=pure true:=by
 have ky:env.kindOf y=some .local:=hy;have hb:env.blockKind= .function:=by unfold Env.blockKind;rw[hk];rfl
 unfold swapsWith;simp only[hb,ky,ha,Expr.pos,hl];rfl
end
theorem pA {lo:Int}{n:Nat}{g:TG}{tt:TT}{te:TE}{vs:List Nat}{σ:St}{H1:Hp}{D:Addr}{Qd:Hp->Prop}(Pv:Nat->Hp->Prop)(h0:Pv 0 (upd H1 D (.lst [])))
  (hs:∀i H,i<n->Pv i H->g (.int (lo+i)) (wipe σ vs) H fun σ2 H2=>wipe σ2 vs=wipe σ vs/\tt σ2 H2 fun b H3=>
   if b=true then te σ2 H3 fun y H4=>∃acc,H4 D=some (.lst acc)/\acc.length<sizeLine/\Pv (i+1) (upd H4 D (.lst (acc ++ [y])))else Pv (i+1) H3) (hd:∀H,Pv n H->Qd H):
  ∃W:Nat->Nat->Hp->Prop,(∃m,W 0 m (upd H1 D (.lst [])))/\∀i m H,W i m H->
   ((sI lo n).stop i H/\Qd H)\/((sI lo n).go i H/\∃Nx:Hp->Prop,(∀H',Nx H'->∃m',m'<m/\W (i+1) m' H')/\∀x H',(sI lo n).rR i H x H'->g x (wipe σ vs) H' fun σ2 H2=>wipe σ2 vs=wipe σ vs/\tt σ2 H2 fun b H3=>
    if b=true then te σ2 H3 fun y H4=>∃acc,H4 D=some (.lst acc)/\acc.length<sizeLine/\Nx (upd H4 D (.lst (acc ++ [y])))else Nx H3):=by
 refine ⟨fun i m H=>m=n - i/\i<=n/\Pv i H,⟨n,by simp,zero_le _,h0⟩,?_⟩;rintro i m H ⟨rfl,hi,p⟩;by_cases C2:i<n
 ·refine .inr ⟨C2,Pv (i+1),fun H' p'=>⟨n - (i+1),by omega,rfl,C2,p'⟩,fun x H' y=>?_⟩;obtain ⟨e,y⟩:=y;subst e y;exact hs i _ C2 p
 ·have e:i=n:=by omega
  subst e;exact .inl ⟨Nat.le_refl _,hd H p⟩
theorem DI {K:PySem.W.Frag}{a:Addr}{xs:List V}{g:TG}{tt:TT}{te:TE}{vs:List Nat}{σ:St}{H1:Hp}{D:Addr}{Qd:Hp->Prop}(Pv:Nat->Hp->Prop)(h0:Pv 0 (upd H1 D (.lst [])))(hl:∀i H,i<=xs.length->Pv i H->Ao K H a xs)
  (hs:∀i x H,xs[i]? =some x->Pv i H->g x (wipe σ vs) H fun σ2 H2=>wipe σ2 vs=wipe σ vs/\tt σ2 H2 fun b H3=>
   if b=true then te σ2 H3 fun y H4=>∃acc,H4 D=some (.lst acc)/\acc.length<sizeLine/\Pv (i+1) (upd H4 D (.lst (acc ++ [y])))else Pv (i+1) H3) (hd:∀H,Pv xs.length H->Qd H):
  ∃W:Nat->Nat->Hp->Prop,(∃m,W 0 m (upd H1 D (.lst [])))/\∀i m H,W i m H->
   ((wt K a).stop i H/\Qd H)\/((wt K a).go i H/\∃Nx:Hp->Prop,(∀H',Nx H'->∃m',m'<m/\W (i+1) m' H')/\∀x H',(wt K a).rR i H x H'->g x (wipe σ vs) H' fun σ2 H2=>wipe σ2 vs=wipe σ vs/\tt σ2 H2 fun b H3=>
    if b=true then te σ2 H3 fun y H4=>∃acc,H4 D=some (.lst acc)/\acc.length<sizeLine/\Nx (upd H4 D (.lst (acc ++ [y])))else Nx H3):=by
 refine ⟨fun i m H=>m=xs.length - i/\i<=xs.length/\Pv i H,⟨xs.length,by simp,zero_le _,h0⟩,?_⟩;rintro i m H ⟨rfl,hi,p⟩;have q:=hl i H hi p;by_cases C2:i<xs.length
 ·refine .inr ⟨⟨xs,xs[i],q,by simp[C2]⟩,Pv (i+1),fun H' p'=>⟨xs.length - (i+1),by omega,rfl,C2,p'⟩,fun x H' y=>?_⟩;obtain ⟨e,y⟩:=y;subst e;exact hs i x _ (y xs q) p
 ·have e:i=xs.length:=by omega
  subst e;exact .inl ⟨⟨xs,q,Nat.le_refl _⟩,hd H p⟩
def ABm (N:List Str)(sc scope:Scope)(own:List (Str×Nat)):Bool:=
 (match scope.kind with | .function=>true | _=>false)&&(scope.names.all fun y=>decide (scope.names.lookup y.1=some y.2))&&(own.all fun p=>decide (N[p.2]? =some p.1)) &&
  (scope.names.all fun y=>match y.2 with
   | .free=>(match sc.names.lookup y.1 with | some .cell=>true | some .free=>true | _=>false)
   | .local=>decide (y.1∈own.map (·.1))||decide (y.1∉N)
   | .cell=>decide (y.1∈own.map (·.1))||decide (y.1∉N)
   |_=>true)
theorem Bn {N:List Str}{sc scope:Scope}{own:List (Str×Nat)}(h:ABm N sc scope own=true):cB N sc scope own:=by
 unfold ABm at h;simp only[Bool.and_eq_true,all_eq_true,decide_eq_true_eq]at h;obtain ⟨⟨⟨h1,h2⟩,h3⟩,h4⟩:=h;refine ⟨?_,h2,h3,fun y hy e=>?_,fun y hy e=>?_⟩
 ·split at h1
  ·assumption
  ·cases h1
 ·have q:=h4 y hy;simp only[e]at q;split at q <;> first | exact .inl (by assumption) | exact .inr (by assumption) | cases q
 ·have q:=h4 y hy;rcases e with e | e <;> (simp only[e,Bool.or_eq_true,decide_eq_true_eq]at q;exact q)
section
variable {prog:Program}{w:World}{A:Around}{R:Result->Shared->Prop}{s:Shared}{elt t0 i0 t1 i1:Expr}{AH1 AH0:List Expr}{scope:Scope}{pos:Pos}{it acc:Value}{env:Env}
end
section
variable {X:Cx}
end
section
variable {κ:Type}[DecidableEq κ]
def C3 (AV:List (κ×V))(k:κ):Option V:=(AV.find? fun kv=>decide (kv.1=k)).map (·.2)
def putK (AV:List (κ×V))(k:κ)(v:V):List (κ×V):=
 if (AV.any fun kv=>decide (kv.1=k))=true then AV.map (fun kv=>if kv.1=k then (kv.1,v)else kv)else AV ++ [(k,v)]
theorem Y3 {k:κ}:C3 ([]:List (κ×V)) k=none:=rfl
theorem BV {p:κ×V}{r:List (κ×V)}{k:κ}(e:p.1=k):C3 (p::r) k=some p.2:=by simp[C3,find?_cons,e]
theorem BW {p:κ×V}{r:List (κ×V)}{k:κ}(e:¬ p.1=k):C3 (p::r) k=C3 r k:=by simp[C3,find?_cons,e]
theorem E6 (k:κ):∀AV:List (κ×V),(AV.any fun kv=>decide (kv.1=k))=(C3 AV k).isSome
 | []=>rfl
 |p::r=>by
  rw[any_cons];by_cases e:p.1=k
  ·simp only[BV e,decide_eq_true e,Bool.true_or,Option.isSome_some]
  ·rw[BW e,decide_eq_false e,Bool.false_or];exact E6 k r
theorem Y4 (k j:κ)(y:V):∀AV:List (κ×V),C3 (AV.map fun kv=>if kv.1=k then (kv.1,y)else kv) j=(C3 AV j).map fun x=>if j=k then y else x
 | []=>rfl
 |p::r=>by
  have ih:=Y4 k j y r;rw[map_cons];by_cases h:p.1=k
  ·rw[if_pos h];by_cases e:p.1=j
   ·rw[BV (p:=(p.1,y)) e,BV e,Option.map_some,if_pos (e.symm.trans h)]
   ·rw[BW (p:=(p.1,y)) e,BW e,ih]
  ·rw[if_neg h];by_cases e:p.1=j
   ·rw[BV (p:=p) e,BV e,Option.map_some,if_neg (fun z=>h (e.trans z))]
   ·rw[BW (p:=p) e,BW e,ih]
theorem Vf (k j:κ)(y:V):∀AV:List (κ×V),C3 AV k=none->C3 (AV ++ [(k,y)]) j=if j=k then some y else C3 AV j
 | [],_=>by
  by_cases e:k=j
  ·rw[if_pos e.symm];exact BV (p:=(k,y)) e
  ·rw[if_neg (fun z=>e z.symm)];exact BW (p:=(k,y)) e
 |p::r,hn=>by
  rw[cons_append];have hk:¬ p.1=k:=fun z=>by rw[BV z]at hn;cases hn
  rw[BW hk]at hn;have ih:=Vf k j y r hn;by_cases e:p.1=j
  ·rw[BV e,BV e,if_neg (fun z=>hk (e.trans z))]
  ·rw[BW e,BW e,ih]
theorem Y1 (AV:List (κ×V))(k j:κ)(y:V):C3 (putK AV k y) j=if j=k then some y else C3 AV j:=by
 unfold putK;by_cases a:(AV.any fun kv=>decide (kv.1=k))=true
 ·rw[if_pos a,Y4];rw[E6]at a;by_cases e:j=k
  ·obtain ⟨x,hx⟩:=Option.isSome_iff_exists.mp a;rw[if_pos e,e,hx,Option.map_some,if_pos rfl]
  ·rw[if_neg e];cases C3 AV j with
   |none=>rfl
   |some x=>rw[Option.map_some,if_neg e]
 ·rw[if_neg a];refine Vf k j y AV ?_;rw[E6]at a;cases q:C3 AV k with
  |none=>rfl
  |some x=>rw[q]at a;exact (a rfl).elim
theorem FB (AV:List (κ×V))(k:κ)(v:V):(putK AV k v).length<=AV.length+1:=by
 unfold putK;split
 ·rw[length_map];omega
 ·rw[length_append,length_cons,length_nil];omega
theorem nj {AV:List (κ×V)}{k:κ}(v:V)(h:C3 AV k=none):putK AV k v=AV ++ [(k,v)]:=by
 unfold putK;rw[E6,h];exact if_neg (by decide)
theorem JZ.PL {o:Option V}{u:Option Value}(r:JZ o u):o.isSome=u.isSome:=by
 cases o with
 |none=>cases u with
  |none=>rfl
  |some _=>exact (show False from r).elim
 |some _=>cases u with
  |none=>exact (show False from r).elim
  |some _=>rfl
theorem JZ.getD {o:Option V}{u:Option Value}{d:V}{d':Value}(r:JZ o u)(rd:RelV d d'):RelV (o.getD d) (u.getD d'):=by
 cases o with
 |none=>cases u with
  |none=>exact rd
  |some _=>exact (show False from r).elim
 |some _=>cases u with
  |none=>exact (show False from r).elim
  |some _=>exact r
theorem KV.val {AV:List (κ×V)}{vs:List (κ×Value)}(r:KV AV vs)(k:κ):JZ (C3 AV k) (valueAt vs k):=by
 unfold KV at r;induction r with
 |nil=>exact True.intro
 | @cons p q ps qs h t ih=>
  obtain ⟨h1,h2⟩:=h;by_cases e:p.1=k
  ·have e':q.1=k:=h1.symm.trans e;have b:valueAt (q::qs) k=some q.2:=by simp[valueAt,find?_cons,e']
   rw[BV e,b];exact h2
  ·have e':¬ q.1=k:=fun z=>e (h1.trans z);have b:valueAt (q::qs) k=valueAt qs k:=by simp[valueAt,find?_cons,e']
   rw[BW e,b];exact ih
theorem KV.any {AV:List (κ×V)}{vs:List (κ×Value)}(r:KV AV vs)(k:κ):(AV.any fun kv=>decide (kv.1=k))=vs.any fun kv=>decide (kv.1=k):=by
 unfold KV at r;induction r with
 |nil=>rfl
 |cons h t ih=>rw[any_cons,any_cons,ih,h.1]
theorem KV.xL {AV:List (κ×V)}{vs:List (κ×Value)}(r:KV AV vs)(k:κ){y:V}{u:Value}(ry:RelV y u):
  KV (AV.map fun kv=>if kv.1=k then (kv.1,y)else kv) (vs.map fun kv=>if kv.1=k then (kv.1,u)else kv):=by
 unfold KV at r ⊢;induction r with
 |nil=>exact .nil
 | @cons p q ps qs h t ih=>
  rw[map_cons,map_cons];refine .cons ?_ ih;obtain ⟨h1,h2⟩:=h;by_cases e:p.1=k
  ·rw[if_pos e,if_pos (h1.symm.trans e)];exact ⟨h1,ry⟩
  ·rw[if_neg e,if_neg (fun z=>e (h1.trans z))];exact ⟨h1,h2⟩
theorem KV.put {AV:List (κ×V)}{vs:List (κ×Value)}(r:KV AV vs)(k:κ){y:V}{u:Value}(ry:RelV y u):KV (putK AV k y) (stored vs k u):=by
 unfold putK stored;rw[r.any k];by_cases e:(vs.any fun kv=>decide (kv.1=k))=true
 ·rw[if_pos e,if_pos e];exact r.xL k ry
 ·rw[if_neg e,if_neg e];exact Paired.snoc r ⟨rfl,ry⟩
theorem KV.length {AV:List (κ×V)}{vs:List (κ×Value)}(r:KV AV vs):AV.length=vs.length:=Paired.length r
end
theorem WV {P:Program}{w:World}{k:Key}{u:Value}(r:RelV (kV k) u):(Ah P w).is k u=true:=by
 cases k with
 |inl i=>obtain ⟨t,e⟩:=(show ∃t,u=Value.int i t from r);subst e;exact KI P w i t
 |inr x=>obtain ⟨t,e⟩:=(show ∃t,u=Value.str x t from r);subst e;exact aG P w x t
theorem WX {P:Program}{w:World}:∀{ks:List Key} {us:List Value},Vals (ks.map kV) us->ItemsAre (Ah P w) ks us
 | [],_,r=>by rw[map_nil]at r;cases r;exact .nil
 |k::ks,_,r=>by
  rw[map_cons]at r;cases r with
  |cons h t=>exact .cons (WV h) (WX t)
abbrev KT (H:Hp):List (List Key×V)->List (List Key×Addr×Value)->Prop:=Paired fun p q=>p.1=q.1/\H q.2.1=some (.tup (p.1.map kV))/\RelV p.2 q.2.2
theorem KT.val {H:Hp}{AV:List (List Key×V)}{xs:List (List Key×Addr×Value)}(r:KT H AV xs)(k:List Key):JZ (C3 AV k) ((atKey xs k).map (·.2)):=by
 induction r with
 |nil=>exact True.intro
 | @cons p q ps qs h t ih=>
  obtain ⟨h1,_,h2⟩:=h;by_cases e:p.1=k
  ·have e':q.1=k:=h1.symm.trans e;have b:atKey (q::qs) k=some q.2:=by simp[atKey,find?_cons,e']
   rw[BV e,b];exact h2
  ·have e':¬ q.1=k:=fun z=>e (h1.trans z);have b:atKey (q::qs) k=atKey qs k:=by simp[atKey,find?_cons,e']
   rw[BW e,b];exact ih
theorem KT.xL {H:Hp}{AV:List (List Key×V)}{xs:List (List Key×Addr×Value)}(r:KT H AV xs)(k:List Key){y:V}{u:Value}(ry:RelV y u):
  KT H (AV.map fun kv=>if kv.1=k then (kv.1,y)else kv) (xs.map (putAt k u)):=by
 induction r with
 |nil=>exact .nil
 | @cons p q ps qs h t ih=>
  rw[map_cons,map_cons];refine .cons ?_ ih;obtain ⟨h1,h2,h3⟩:=h;unfold putAt;by_cases e:p.1=k
  ·rw[if_pos e,if_pos (h1.symm.trans e)];exact ⟨h1,h2,ry⟩
  ·rw[if_neg e,if_neg (fun z=>e (h1.trans z))];exact ⟨h1,h2,h3⟩
theorem KT.put {H:Hp}{AV:List (List Key×V)}{xs:List (List Key×Addr×Value)}(r:KT H AV xs)(k:List Key){b:Addr}{y:V}{u:Value}(hb:H b=some (.tup (k.map kV)))(ry:RelV y u):
  KT H (putK AV k y) (storedH xs k b u):=by
 have e:(AV.any fun kv=>decide (kv.1=k))=(atKey xs k).isSome:=by
  rw[E6,(r.val k).PL,Option.isSome_map]
 unfold putK storedH;rw[e];by_cases q:(atKey xs k).isSome=true
 ·rw[if_pos q,if_pos q];exact r.xL k ry
 ·rw[if_neg q,if_neg q];exact Paired.snoc r ⟨rfl,hb,ry⟩
theorem KT.keeps {H H':Hp}{AV:List (List Key×V)}{xs:List (List Key×Addr×Value)}(r:KT H AV xs)(ht:∀b ys,H b=some (.tup ys)->H' b=some (.tup ys)):KT H' AV xs:=
 Paired.TD r fun _ _ z=>⟨z.1,ht _ _ z.2.1,z.2.2⟩
section
variable {P:Program}{w:World}{H:Hp}{h:Heap}{a:Addr}
theorem v8 {u:HO}(ok:Kn P w H h)(e:Rd H a u):C1 P w H h a u:=e.ok ok
theorem Wo {AV:List (Key×V)}(ok:Kn P w H h)(e:Rd H a (.dK AV)):AV.length<=sizeLine/\(a==sysModules)=false/\∃vs,KV AV vs/\h.DictOf (Ah P w) a vs:=
 show C1 P w H h a (.dK AV)from v8 ok e
theorem ABf {AV:List (Key×V)}(ok:Kn P w H h)(e:H a=some (.dK AV)):AV.length<=sizeLine/\(a==sysModules)=false/\∃vs,KV AV vs/\h.DictOf (Ah P w) a vs:=Wo ok (.inl e)
theorem TV {ks:List Key}(ok:Kn P w H h)(e:H a=some (.tup (ks.map kV))):(tupleKind (Ah P w)).is h ks a:=by
 obtain ⟨_,A1,r,o,h1,h2,n,h3⟩:=(show C1 P w H h a (.tup (ks.map kV))from ok a _ e);exact ⟨o,A1.toArray,n,h1,h2,h3,by simpa using WX r⟩
theorem Wn {AV:List (List Key×V)}(ok:Kn P w H h)(e:Rd H a (.dT AV)):AV.length<=sizeLine/\(a==sysModules)=false/\
  ∃xs,KT H AV xs/\h.DictOfH (tupleKind (Ah P w)) a xs:=by
 obtain ⟨z,y,xs,r,o,es,ep,h1,h2,h3,h4,h5⟩:=(show C1 P w H h a (.dT AV)from v8 ok e);refine ⟨z,y,xs,r,o,es,ep,h1,h2,h3,h4,fun x hx=>?_,h5⟩;have all:∀{l:List (List Key×V)} {m:List (List Key×Addr×Value)},KT H l m->∀x∈m,(tupleKind (Ah P w)).is h x.1 x.2.1:=by
  intro l m q;induction q with
  |nil=>intro x hx;exact nomatch hx
  | @cons p q ps qs hq t ih=>
   intro x hx;rcases mem_cons.mp hx with e | hx
   ·subst e;exact TV ok (by rw[<- hq.1];exact hq.2.1)
   ·exact ih x hx
 exact all r x hx
theorem ABe {AV:List (List Key×V)}(ok:Kn P w H h)(e:H a=some (.dT AV)):AV.length<=sizeLine/\(a==sysModules)=false/\
  ∃xs,KT H AV xs/\h.DictOfH (tupleKind (Ah P w)) a xs:=Wn ok (.inl e)
end
def IA (H:Hp)(a:Addr)(y:V)(r:Option V):Prop:=
 (∃AV k,Rd H a (.dK AV)/\y=kV k/\r=C3 AV k)\/∃AV k b,Rd H a (.dT AV)/\y= .ref b/\H b=some (.tup (k.map kV))/\r=C3 AV k
def RA (H:Hp)(a:Addr)(y v:V)(H':Hp):Prop:=
 (∃AV k,H a=some (.dK AV)/\y=kV k/\AV.length<sizeLine/\H'=upd H a (.dK (putK AV k v)))\/
 ∃AV k b,H a=some (.dT AV)/\y= .ref b/\H b=some (.tup (k.map kV))/\AV.length<sizeLine/\H'=upd H a (.dT (putK AV k v))
theorem IA.t {H:Hp}{a b:Addr}{AV:List (List Key×V)}{k:List Key}(e:H a=some (.dT AV))(eb:H b=some (.tup (k.map kV))):IA H a (.ref b) (C3 AV k):= .inr ⟨AV,k,b,.inl e,rfl,eb,rfl⟩
theorem RA.t {H:Hp}{a b:Addr}{AV:List (List Key×V)}{k:List Key}{v:V}(e:H a=some (.dT AV))(eb:H b=some (.tup (k.map kV)))(hl:AV.length<sizeLine):
  RA H a (.ref b) v (upd H a (.dT (putK AV k v))):= .inr ⟨AV,k,b,e,rfl,eb,hl,rfl⟩
section
variable {X:Cx}{pins:List (Addr×Obj)}{σ:St}{H:Hp}{s:Shared}{a:Addr}{y v:V}{u r:Value}{o:Option V}{A:Around}{E:Value->Shared->Prop}
theorem Inv.big (I:Inv X pins σ H s):sysModules<s.heap.objs.size:=by
 have h:mainGlobals<s.heap.objs.size:=(I.mod.glob.keeps I.bk).lt;exact Nat.lt_trans (by decide) h
theorem ku {Q:Value->Shared->Prop}(hu:A.units+1<cLine)(I:Inv X pins σ H s)(g:IA H a y (some v))(ry:RelV y u)(h:∀w' s',Inv X pins σ H s'->RelV v w'->Q w' s'):
  wpAny (model X.prog X.w) A (getItem (.ref a) u) Q E s:=by
 rcases g with ⟨AV,k,e,ey,l⟩ | ⟨AV,k,b,e,ey,eb,l⟩
 ·subst ey;obtain ⟨z,hd,vs,rel,dd⟩:=Wo I.BL e;obtain ⟨w',hw,nO⟩:=JZ.some_of (v:=v) (o:=valueAt vs k) (by rw[l];exact rel.val k);exact wpAny_getItem_of (WV ry) dd.mapOf hw (h w' _ (I.tok _) nO)
 ·subst ey;cases (show u=Value.ref b from ry);obtain ⟨z,hd,xs,rel,dd⟩:=Wn I.BL e;obtain ⟨w',hw,nO⟩:=JZ.some_of (v:=v) (o:=(atKey xs k).map (·.2)) (by rw[l];exact rel.val k);obtain ⟨p,hp,FE⟩:=Option.map_eq_some_iff.mp hw;refine wpAny_getItem_heap (tupleKind_room_in1 hu) (TV I.BL eb) dd hp ?_;rw[FE];exact h w' _ (I.tok _) nO
theorem AE4 {Q:Value->Shared->Prop}(hu:A.units+1<cLine)(I:Inv X pins σ H s)(g:IA H a y o)(ry:RelV y u)(h:∀s',Inv X pins σ H s'->Q (.bool o.isSome) s'):
  wpAny (model X.prog X.w) A (compareOp .In u (.ref a)) Q E s:=by
 rcases g with ⟨AV,k,e,ey,l⟩ | ⟨AV,k,b,e,ey,eb,l⟩
 ·subst ey;obtain ⟨z,hd,vs,rel,dd⟩:=Wo I.BL e;refine wpAny_in_of (WV ry) hd dd.mapOf ?_;rw[<- (rel.val k).PL, <- l];exact h _ (I.tok _)
 ·subst ey;cases (show u=Value.ref b from ry);obtain ⟨z,hd,xs,rel,dd⟩:=Wn I.BL e;refine wpAny_in_heap (tupleKind_room_in1 hu) (TV I.BL eb) hd dd ?_;have q:=(rel.val k).PL;rw[Option.isSome_map]at q;rw[<- q, <- l];exact h _ (I.tok _)
theorem gx {h':Heap}{t':Nat}{ob:HO}(I:Inv X pins σ H s)(mu:vy (H a))(hs:Heap.SameBut a s.heap h')(he:∃q,h'.get? a=some q)(new:C1 X.prog X.w (upd H a ob) h' a ob):
  Inv X pins σ (upd H a ob) { s with heap:=h',toks:=t' }:=
 I.write (x:=a) (e:=a) mu (.inl rfl) (fun b q hb z=>(hs.2 b hb).trans z) he new
theorem yh {P:Program}{w:World}{H':Hp}{h':Heap}{AV:List (Key×V)}{vs:List (Key×Value)}(z:AV.length<=sizeLine)(hd:(a==sysModules)=false)(rel:KV AV vs)(dd:h'.DictOf (Ah P w) a vs):
  C1 P w H' h' a (.dK AV):=⟨z,hd,vs,rel,dd⟩
theorem kh {H':Hp}{Q:Unit->Shared->Prop}(hu:A.units+1<cLine)(I:Inv X pins σ H s)(g:RA H a y v H')(ry:RelV y u)(rv:RelV v r)(h:∀s',Inv X pins σ H' s'->Q () s'):
  wpAny (model X.prog X.w) A (setItem (.ref a) u r) Q E s:=by
 rcases g with ⟨AV,k,e,ey,l,eH⟩ | ⟨AV,k,b,e,ey,eb,l,eH⟩
 ·subst ey eH;obtain ⟨z,hd,vs,rel,dd⟩:=ABf I.BL e;have hz:vs.length<=sizeLine:=by rw[<- rel.length];exact z
  have hl:(putK AV k v).length<=sizeLine:=by have:=FB AV k v;omega
  refine wpAny_setItem_pairs (hsz:=hz) (WV ry) dd fun h' dd' hs=>h _ ?_;have he:∃q,h'.get? a=some q:=let ⟨q,_,_,hq,_⟩:=dd';⟨q,hq⟩;exact gx I (by rw[e];exact True.intro) hs he (yh hl hd (rel.put k rv) dd')
 ·subst ey eH;cases (show u=Value.ref b from ry);obtain ⟨z,hd,xs,rel,dd⟩:=ABe I.BL e;have hz:xs.length<=sizeLine:=by rw[<- Paired.length rel];exact z
  have hl:(putK AV k v).length<=sizeLine:=by have:=FB AV k v;omega
  refine wpAny_setItem_heap (hsz:=hz) (tupleKind_room_in1 hu) (TV I.BL eb) dd fun h' dd' hs=>h _ ?_;obtain ⟨q,es,ep,hq,h2,h3,h4,_,h5⟩:=dd';refine gx I (by rw[e];exact True.intro) hs ⟨q,hq⟩ ⟨hl,hd,_,(rel.put k eb rv).keeps fun c ys ec=>?_,q,es,ep,hq,h2,h3,h4,h5⟩;rw[AI (A7 ec e (fun z=>nomatch z))];exact ec
end
section
variable {X:Cx}{pins:List (Addr×Obj)}{σ:St}{H:Hp}{s:Shared}{a:Addr}{AV:List (Key×V)}{k:Key}{u:Value}{A:Around}{E:Value->Shared->Prop}
end
def ABq (i:Expr):Prop:=∀ov iv,subscripted i false ov iv=operate [ov,iv] (getItem ov iv)
theorem sV {prog:Program}{w:World}{A:Around}{E:Value->Shared->Prop}{s:Shared}{env:Env}{value slice:Expr}{pos:Pos}{T id:String}{Q:Value->Shared->Prop}
  (hl:typeLookup (.type T) "__getitem__"=pure (some (.builtin id))) (hs:ABq slice)
  (h:wpAny (model prog w) A (eval value env) (fun o Bq=>wpAny (model prog w) A (eval slice env) (fun i F0=>F0.TypeIs o T/\wpAny (model prog w) A (getItem o i) Q E F0) E Bq) E s):
  wpAny (model prog w) A (eval (.Subscript value slice pos) env) Q E s:=by
 refine Subscript_ (wpAny_mono h (fun o Bq ud=>wpAny_mono ud (fun i F0 pQ=>?_) fun _ _ x=>x) fun _ _ x=>x);obtain ⟨hT,pQ⟩:=pQ;unfold subscriptTail;refine wpAny_bind ?_;rw[getitemInPython_of_ne hT.not_modules];refine wpAny_bind (wpAny_specialOf hT hl ?_);have fin:wpAny (model prog w) A (subscripted slice false o i) (fun r ZD=>wpAny (model prog w) A (letTemporaryGo value o r >>= fun _=>pure r) Q E ZD) E F0:=by
  rw[hs o i];exact wpAny_operating (wpAny_mono pQ (fun r ZD uc=>wpAny_bind (wpAny_letTemporaryGo (wpAny_pure uc))) fun _ _ x=>x)
 first
  |exact wpAny_pure (wpAny_bind fin)
  |exact wpAny_bind (wpAny_pure (wpAny_bind fin))
  |exact wpAny_bind fin
theorem bK {X:Cx}{pins:List (Addr×Obj)}{σ:St}{H:Hp}{s:Shared}{a:Addr}{y:V}{o:Option V}(I:Inv X pins σ H s)(g:IA H a y o):s.TypeIs (.ref a) "dict":=by
 rcases g with ⟨AV,k,e,_,_⟩ | ⟨AV,k,b,e,_,_,_⟩
 ·obtain ⟨_,_,vs,_,dd⟩:=Wo I.BL e;exact dd.typeIs
 ·obtain ⟨_,_,xs,_,dd⟩:=Wn I.BL e;exact dd.typeIs
def AAD (td ty:TE):TE:=fun σ H Q=>td σ H fun x H1=>ty σ H1 fun y H2=>∃a v,x= .ref a/\IA H2 a y (some v)/\Q v H2
def ACv (ty td:TE):TE:=fun σ H Q=>ty σ H fun y H1=>td σ H1 fun x H2=>∃a o,x= .ref a/\IA H2 a y o/\Q (.bl o.isSome) H2
def v6 (td ty tv:TE):TS:=fun D σ H=>tv σ H fun v H1=>td σ H1 fun x H2=>ty σ H2 fun y H3=>∃a H4,x= .ref a/\RA H3 a y v H4/\D.nx σ H4
section
variable {X:Cx}{o i e value:Expr}{pos pos' zq:Pos}{td ty tv:TE}
theorem tI (hu:X.A.units+1<cLine)(ho:PE X o td)(hi:PE X i ty)(hs:ABq i):PE X (.Subscript o i pos) (AAD td ty):=by
 kxf_if;refine sV PySem.F.slot_dict_getitem.lookup hs (Bx (ho pins s σ H _ I h) fun u s1 ⟨x,H1,I1,rx,q1⟩=>Bx (hi pins s1 σ H1 _ I1 q1) fun iv s2 ⟨y,H2,I2,ry,a,v,ex,g,q2⟩=>?_);subst ex;obtain rfl:u=Value.ref a:=rx;exact ⟨bK I2 g,ku hu I2 g ry fun w' s3 I3 nO=>⟨v,H2,I3,nO,q2⟩⟩
theorem ck (hu:X.A.units+1<cLine)(hi:PE X i ty)(ho:PE X o td):PC X .In i o (ACv ty td):=by
 kxf_if;refine Bx (hi pins s σ H _ I h) fun iv s1 ⟨y,H1,I1,ry,q1⟩=>Bx (ho pins s1 σ H1 _ I1 q1) fun u s2 ⟨x,H2,I2,rx,a,ov,ex,g,q2⟩=>?_;subst ex;obtain rfl:u=Value.ref a:=rx;exact AE4 hu I2 g ry fun s3 I3=>⟨.bl ov.isSome,H2,I3,rfl,q2⟩
theorem Gq (hu:X.A.units+1<cLine)(ho:PE X o td)(hi:PE X i ty)(hv:PE X value tv)(hs:swapsWith value (some (.Subscript o i pos')) pos.line X.env=pure false):
  PS X (.Assign [.Subscript o i pos'] value pos) (v6 td ty tv):=by
 intro pins s σ H D I h;refine wpAny_Assign_Subscript (Bx (hv pins s σ H _ I h) fun r s1 ⟨v,H1,I1,rv,q1⟩=>Bx (ho pins s1 σ H1 _ I1 q1) fun u s2 ⟨x,H2,I2,rx,q2⟩=>Bx (hi pins s2 σ H2 _ I2 q2) fun iv s3 ⟨y,H3,I3,ry,a,H4,ex,g,q3⟩=>?_) hs;subst ex;obtain rfl:u=Value.ref a:=rx;exact kh hu I3 g ry rv fun s4 I4=>⟨σ,H4,I4,q3⟩
end
theorem qZ {P:Program}{w:World}{H:Hp}(h:Heap)(hb:sysModules<h.objs.size):C1 P w H (h.push { cls:= .type "dict",data:= .dict #[] }) h.objs.size (.dT []):=
 ⟨zero_le _,beq_eq_false_iff_ne.mpr (Ne.symm (ne_of_lt hb)),[],.nil,_, #[],0,get?_push_size _ rfl,⟨rfl,rfl,rfl⟩,rfl,rfl,List.nodup_nil⟩
def xC:TE:=fun _ H Q=>∀p,H p=none->Q (.ref p) (upd H p (.dT []))
section
variable {X:Cx}{pos:Pos}
theorem Zq:PE X (.Dict [] [] pos) xC:=fun pins s σ H Q I h=>
 wpAny_Dict_empty ⟨.ref s.heap.objs.size,_,I.laid (a:=s.heap.objs.size) (o:= .dT []) (t':=s.toks) (fun _ _ q=>get?_push_of_some _ q) (Nat.le_refl _) (qZ s.heap I.big),rfl,h _ (I.BL.fresh (Nat.le_refl _))⟩
end
structure M1 (X:Cx)(o:Expr)(m:Str)(apos:Pos)(e:Expr)(Fv:Pos):Prop where
 base:attributeBase o m X.env (eval o X.env)=eval o X.env
 few:((backTo Fv (starEach [e] X.env)).all (fun x=> !x.1)&&(backToKw Fv (keywordEach [] X.env)).all (fun x=>x.1.isSome)
  && decide (([e]:List Expr).length+([]:List Keyword).length+(if ([]:List Keyword).isEmpty then 0 else 1)<30))=true
 line:(apos.endLine==Fv.line)=true
 mY:backTo Fv (starEach [e] X.env)=[(false,eval e X.env)]
structure M2 (X:Cx)(o:Expr)(m:Str)(apos:Pos)(e f:Expr)(Fv:Pos):Prop where
 base:attributeBase o m X.env (eval o X.env)=eval o X.env
 few:((backTo Fv (starEach [e,f] X.env)).all (fun x=> !x.1)&&(backToKw Fv (keywordEach [] X.env)).all (fun x=>x.1.isSome)
  && decide (([e,f]:List Expr).length+([]:List Keyword).length+(if ([]:List Keyword).isEmpty then 0 else 1)<30))=true
 line:(apos.endLine==Fv.line)=true
 mY:backTo Fv (starEach [e,f] X.env)=[(false,eval e X.env),(false,eval f X.env)]
def IsD (H:Hp)(a:Addr):Prop:=(∃AV,Rd H a (.dK AV))\/∃AV,Rd H a (.dT AV)
theorem xu {X:Cx}{pins:List (Addr×Obj)}{σ:St}{H:Hp}{s:Shared}{a:Addr}(I:Inv X pins σ H s)(d:IsD H a):
  s.TypeIs (.ref a) "dict"/\(∀b,Value.ref a= .ref b->∃ob,s.heap.get? b=some ob/\ob.dict=none)/\(a==sysModules)=false:=by
 rcases d with ⟨AV,e⟩ | ⟨AV,e⟩
 ·obtain ⟨_,hd,vs,_,dd⟩:=Wo I.BL e;refine ⟨dd.typeIs,fun b q=>?_,hd⟩;cases q;obtain ⟨ob,_,_,h1,h2,_⟩:=dd;exact ⟨ob,h1,h2.2.1⟩
 ·obtain ⟨_,hd,xs,_,dd⟩:=Wn I.BL e;refine ⟨dd.typeIs,fun b q=>?_,hd⟩;cases q;obtain ⟨ob,_,_,h1,h2,_⟩:=dd;exact ⟨ob,h1,h2.2.1⟩
section
variable {X:Cx}{pins:List (Addr×Obj)}{σ:St}{H:Hp}{s:Shared}{a:Addr}{y d:V}{u r:Value}{o:Option V}{A:Around}{E:Value->Shared->Prop}
theorem yn {Q:Value->Shared->Prop}(hu:A.units+1<cLine)(I:Inv X pins σ H s)(g:IA H a y o)(ry:RelV y u)(rd:RelV d r)(h:∀w' s',Inv X pins σ H s'->RelV (o.getD d) w'->Q w' s'):
  wpAny (model X.prog X.w) A (call (.builtin "dict.get") [.ref a,u,r]) Q E s:=by
 rcases g with ⟨AV,k,e,ey,l⟩ | ⟨AV,k,b,e,ey,eb,l⟩
 ·subst ey;obtain ⟨z,hd,vs,rel,dd⟩:=Wo I.BL e;refine call_meetsIn slot_dict_get dd.typeIs entry_dict_get (PySem.F.args_dict_get_3 _ _ _) (meets_dict_get_default (Ah X.prog X.w) a (WV ry) hd r) ⟨_,dd.mapOf,h _ _ (I.tok _) ?_⟩;rw[l];exact (rel.val k).getD rd
 ·subst ey;cases (show u=Value.ref b from ry);obtain ⟨z,hd,xs,rel,dd⟩:=Wn I.BL e;refine call_meetsIn slot_dict_get dd.typeIs entry_dict_get (PySem.F.args_dict_get_3 _ _ _) (meetsH_dict_get_default (tupleKind (Ah X.prog X.w)) a b hd r) ⟨tupleKind_room_in1 hu,k,xs,TV I.BL eb,dd,h _ _ (I.tok _) ?_⟩;rw[l];exact (rel.val k).getD rd
end
def xD (td ty tx:TE):TE:=fun σ H Q=>td σ H fun x H1=>∃a,x= .ref a/\IsD H1 a/\ty σ H1 fun y H2=>tx σ H2 fun z H3=>∃o,IA H3 a y o/\Q (o.getD z) H3
section
variable {X:Cx}{o e f:Expr}{apos Fv:Pos}{td ty tx:TE}
theorem EK (hu:X.A.units+1<cLine)(ho:PE X o td)(he:PE X e ty)(hf:PE X f tx)(m:M2 X o "get" apos e f Fv):PE X (.Call (.Attribute o "get" apos) [e,f] [] Fv) (xD td ty tx):=by
 kxf_if;refine wpAny_Call_method m.base m.few m.line PySem.F.plainAttrs_dict slot_dict_get type_dict_get (Bx (ho pins s σ H _ I h) fun u s1 ⟨x,H1,I1,rx,a,ex,d,q1⟩=>?_);subst ex;obtain rfl:u=Value.ref a:=rx;obtain ⟨t1,t2,_⟩:=xu I1 d;refine ⟨t1,t2,?_⟩;rw[m.mY];refine Calls.callWith_builtin rfl (Calls.evalArgs_plain (Calls.spliced_cons (Bx (he pins s1 σ H1 _ I1 q1) fun iv s2 ⟨y,H2,I2,ry,q2⟩=>
  Calls.spliced_cons (Bx (hf pins s2 σ H2 _ I2 q2) fun fv s3 ⟨z,H3,I3,rz,ov,g,q3⟩=>Calls.spliced_nil ?_))))
 exact yn hu I3 g ry rz fun w' s4 I4 nO=>⟨_,H3,I4,nO,q3⟩
end
section
variable {X:Cx}{pins:List (Addr×Obj)}{σ:St}{H:Hp}{s:Shared}{a:Addr}{AV:List (Key×V)}{A:Around}{E:Value->Shared->Prop}
end
section
variable {X:Cx}{pins:List (Addr×Obj)}{σ:St}{H:Hp}{s:Shared}{a:Addr}{y:V}{u:Value}{A:Around}{E:Value->Shared->Prop}
end
section
variable {prog:Program}{w:World}{A:Around}{E:Value->Shared->Prop}
end
section
variable {X:Cx}
end
section
variable {X:Cx}{pins:List (Addr×Obj)}{σ:St}{H:Hp}{s:Shared}{h':Heap}
theorem Inv.lock {d:Addr}{u:HO}(I:Inv X pins σ H s)(h:H d=some u)(mu:vy (some u)):∃od,Inv X pins σ (upd H d (.EA od u)) s:=by
 have x:=I.BL d u h;have ex:∃od,s.heap.get? d=some od:=by
  cases u with
  |lst xs=>obtain ⟨_,_,_,_,e⟩:=x;exact ⟨_,e⟩
  |dK AV=>obtain ⟨_,_,_,_,o,_,_,e,_⟩:=x;exact ⟨o,e⟩
  |dT AV=>obtain ⟨_,_,_,_,o,_,_,e,_⟩:=x;exact ⟨o,e⟩
  |set S n=>obtain ⟨o,_,_,_,e,_⟩:=x;exact ⟨o,e⟩
  |ins C dx fs=>obtain ⟨_,_,_,e,_⟩:=x;exact ⟨_,e⟩
  |ext φ=>obtain ⟨_,⟨_,e⟩,_⟩:=x;exact ⟨_,e⟩
  |_=>exact False.elim mu
 obtain ⟨od,e⟩:=ex;have new:C1 X.prog X.w (upd H d (.EA od u)) s.heap d (.EA od u):=by
  refine ⟨e,x.ZF (fun b v _ q=>q) (fun b q=>?_) fun b xs q=>?_⟩
  ·rw[AI (fun z=>by rw[z,h]at q;cases q;exact mu)];exact q
  ·rw[AI (fun z=>by rw[z,h]at q;cases q;exact mu)];exact q
 exact ⟨od,I.write (x:=d) (e:=d) (t':=s.toks) (h':=s.heap) (by rw[h];exact mu) (.inl rfl) (fun b v _ q=>q) ⟨od,e⟩ new⟩
theorem Inv.aB {d:Addr}{u:HO}(I:Inv X pins σ H s)(h:H d=some u)(mu:vy (some u)):∀o' u',X.yx d≠some (.EA o' u'):=fun o' u' e=>by
 have q:=I.base.Tv d o' u' e;rw[h]at q;cases q;exact mu
theorem Inv.unlock {d:Addr}{od:Obj}{u:HO}(I:Inv X pins σ H s)(h:H d=some (.EA od u))(hn:∀o' u',X.yx d≠some (.EA o' u')):Inv X pins σ (upd H d u) s:=by
 have zB:∀b o,H b=some o->(∀o' u',o≠ .EA o' u')->b≠d:=fun b o e Ml z=>by
  rw[z,h]at e;cases e;exact Ml _ _ rfl
 have neN:∀b,H b=none->b≠d:=fun b e z=>by rw[z,h]at e;cases e
 refine ⟨I.ok,I.os,I.bare,⟨I.base.keep,I.base.slot,fun b o e n hx=>?_,I.base.there,fun b xs e=>?_,fun b o x e=>?_,fun b ps e=>?_⟩,I.loc,I.cell,?_,fun x c e=>?_,fun p hp=>?_,fun b o e=>?_,I.len⟩
 ·rw[AI (neN b (I.base.free b o e n hx))];exact I.base.free b o e n hx
 ·have q:=I.base.CW b xs e;rw[AI (zB b _ q (fun _ _ z=>nomatch z))];exact q
 ·have q:=I.base.Tv b o x e;rw[AI (fun z=>by rw[z]at e;exact hn _ _ e)];exact q
 ·obtain ⟨m,q⟩:=I.base.XE b ps e;exact ⟨m,by rw[AI (zB b _ q (fun _ _ z=>nomatch z))];exact q⟩
 ·rw[AI (neN _ I.free)];exact I.free
 ·rw[AI (neN c (I.Hn x c e))];exact I.Hn x c e
 ·obtain ⟨e,n,r⟩:=I.pin p hp;exact ⟨e,by rw[AI (neN _ n)];exact n,r⟩
 ·by_cases hb:b=d
  ·rw[hb,AB]at e;cases e;rw[hb];obtain ⟨_,x⟩:=I.BL d _ h;exact x.ZF (fun c v _ q=>q) (fun c q=>by rw[AI (zB c _ q (fun _ _ z=>nomatch z))];exact q) fun c xs q=>by rw[AI (zB c _ q (fun _ _ z=>nomatch z))];exact q
  ·rw[AI hb]at e;exact (I.BL b o e).ZF (fun c v _ q=>q) (fun c q=>by rw[AI (zB c _ q (fun _ _ z=>nomatch z))];exact q) fun c xs q=>by rw[AI (zB c _ q (fun _ _ z=>nomatch z))];exact q
end
def zz (t:TS):TS:=fun D σ H=>∃d u,H d=some u/\vy (some u)/\∀od,t ⟨fun σ' H'=>H' d=some (.EA od u)/\D.nx σ' (upd H' d u),fun v H'=>H' d=some (.EA od u)/\D.rt v (upd H' d u),fun σ' H'=>H' d=some (.EA od u)/\D.bk σ' (upd H' d u),fun σ' H'=>H' d=some (.EA od u)/\D.ct σ' (upd H' d u)⟩ σ (upd H d (.EA od u))
def xB (t:TE):TE:=fun σ H Q=>∃d u,H d=some u/\vy (some u)/\∀od,t σ (upd H d (.EA od u)) fun v H'=>H' d=some (.EA od u)/\Q v (upd H' d u)
section
variable {X:Cx}
theorem sy {st:Stmt}{t:TS}(h:PS X st t):PS X st (zz t):=by
 intro pins s σ H D I hw;obtain ⟨d,u,hd,mu,hw⟩:=hw;obtain ⟨od,I1⟩:=I.lock hd mu;refine Bx (h pins s σ _ _ I1 (hw od)) fun f s1 q=>?_;cases f with
 |next=>obtain ⟨σ',H',I2,e,q⟩:=q;exact ⟨σ',_,I2.unlock e (I.aB hd mu),q⟩
 |brk=>obtain ⟨σ',H',I2,e,q⟩:=q;exact ⟨σ',_,I2.unlock e (I.aB hd mu),q⟩
 |cont=>obtain ⟨σ',H',I2,e,q⟩:=q;exact ⟨σ',_,I2.unlock e (I.aB hd mu),q⟩
 |ret v=>obtain ⟨x,σ',H',I2,r,e,q⟩:=q;exact ⟨x,σ',_,I2.unlock e (I.aB hd mu),r,q⟩
theorem tG {e:Expr}{t:TE}(h:PE X e t):PE X e (xB t):=by
 intro pins s σ H Q I hw;obtain ⟨d,u,hd,mu,hw⟩:=hw;obtain ⟨od,I1⟩:=I.lock hd mu;refine Bx (h pins s σ _ _ I1 (hw od)) fun v s1 ⟨x,H1,I2,r,e2,q⟩=>?_;exact ⟨x,_,I2.unlock e2 (I.aB hd mu),r,q⟩
theorem Xf {tg:Expr}{pins:List (Addr×Obj)}{σ:St}{H:Hp}{s:Shared}{R:It->Hp->Prop}{J:It}{tn:Nat->Heap->Prop}{tk:Nat}(I:Inv X pins σ H s)(o:Obj)
  (T:Turn X.prog X.w X.K tg J [s.heap.objs.size] s.heap.objs.size tn) (st:tn 0 (s.heap.push o)) (q:R J H):PIE X pins σ tg R (.ref s.heap.objs.size) { s with heap:=s.heap.push o,toks:=tk }:=by
 refine ⟨s.heap.objs.size,[s.heap.objs.size],tn,J,H,rfl,I.kept fun b ob e=>get?_push_of_some _ e,T,st,fun b hb=>?_,q⟩;have e:b=s.heap.objs.size:=by simpa using hb
 subst e;exact I.ux (Nat.le_refl _) (I.BL.fresh (Nat.le_refl _))
end
section
variable {X:Cx}{tg:Expr}
end
section
variable {X:Cx}{tg:Expr}
end
def wq (x:Str):It:=⟨fun i _=>i<x.cps.size,fun i H v H'=>H'=H/\∃c,x.cps[i]? =some c/\v= .str ⟨#[c]⟩,fun i _=>x.cps.size<=i⟩
theorem Y8 {P:Program}{w:World}{K:PySem.W.Frag}{tg:Expr}(it:Addr)(x:Str)(t:Tok)(ty:String)(zK:ty="str_ascii_iterator"\/ty="str_iterator"):
  Turn P w K tg (wq x) [it] it (fun i h=>h.IsStrIter it ty x t i) where
 mem:=by simp
 obj:=fun i h st b hb=>by
  have e:b=it:=by simpa using hb
  subst e;obtain ⟨o,e,c,d⟩:=st;exact ⟨o,e,fun v z=>by rw[d]at z;cases z⟩
 keep:=fun i h h' st k=>let ⟨o,ho,r⟩:=st;⟨o,k it (by simp) o ho,r⟩
 item:=by
  intro X hP hw hK hc i pins s σ H E I hf st hg;subst hP hw hK;obtain ⟨f0,f1,f2,f3,f4,f5⟩:=hf it (by simp);have W:Walks X.prog X.w X.A it [it] [it] x.cps.size (SignAt x) (fun i h=>h.IsStrIter it ty x t i):=by
   rcases zK with e | e
   ·rw[e];exact Walks.strAscii (I.ok.hd hc) it x t
   ·rw[e];exact Walks.strWide (I.ok.hd hc) it x t
  have hno: ["enumerate","zip","dict_itemiterator","dict_reverseitemiterator","odict_iterator","itertools.zip_longest","itertools.pairwise"].contains ty=false:=by
   rcases zK with e | e
   ·rw[e];decide
   ·rw[e];decide
  refine W.item i s _ _ hg st fun v h' tk hv Ja kk=>?_;obtain ⟨c,u,hcx,rfl⟩:=hv;have I1:Inv X pins σ H { s with heap:=h',toks:=tk }:=I.turned (fun b o hb e=>kk b o (by simpa using hb) e) f0 f1 f3 f4 f5;obtain ⟨oi,e,cc,dd⟩:=id Ja;exact ⟨_,rfl,a8 (s:={ s with heap:=h',toks:=tk }) e cc dd hno ⟨.str ⟨#[c]⟩,H,I1,⟨u,rfl⟩,⟨rfl,c,hcx,rfl⟩,Ja,fun b hb=>(hf b hb).1⟩⟩
 done:=by
  intro X hP hw hK hc i pins s σ H E I hf st hg;subst hP hw hK;obtain ⟨f0,f1,f2,f3,f4,f5⟩:=hf it (by simp);have hx:x.cps[i]? =none:=Array.getElem?_eq_none hg;rcases zK with e | e
  ·rw[e]at st;exact wpAny_pyNext_ascii_end (I.ok.hd hc) st hx fun h' eb=>⟨rfl,I.turned (t':=s.toks) (fun b o hb e=>eb b o hb e) f0 f1 f3 f4 f5⟩
  ·rw[e]at st;exact wpAny_pyNext_wide_end (I.ok.hd hc) st hx fun h' eb=>⟨rfl,I.turned (t':=s.toks) (fun b o hb e=>eb b o hb e) f0 f1 f3 f4 f5⟩
 self:=fun A i s Q E st h=>by
  rcases zK with e | e
  ·rw[e]at st;exact wpAny_pyIter_striter_ascii st h
  ·rw[e]at st;exact wpAny_pyIter_striter_wide st h
def ADm (te:TE):TI:=fun σ H R=>te σ H fun v H1=>∃x,v= .str x/\R (wq x) H1
theorem cj {X:Cx}{tg e:Expr}{te:TE}(he:PE X e te):PI X tg e (ADm te):=by
 intro pins s σ H R I h;refine Bx (he pins s σ H _ I h) fun v s1 ⟨y,H1,I1,r1,x,ex,q⟩=>?_;subst ex;obtain ⟨t,rfl⟩:=r1;cases ha:x.cps.all (· < 128)
 ·exact wpAny_pyIter_wide ha (Xf (tk:=s1.toks) I1 _ (Y8 _ x t "str_iterator" (.inr rfl)) ⟨_,get?_push_size _ rfl,rfl,rfl⟩ q)
 ·exact wpAny_pyIter_ascii ha (Xf (tk:=s1.toks) I1 _ (Y8 _ x t "str_ascii_iterator" (.inl rfl)) ⟨_,get?_push_size _ rfl,rfl,rfl⟩ q)
section
variable {prog:Program}{w:World}{A:Around}{E:Value->Shared->Prop}{s:Shared}
theorem PK {d:Addr}{o:Obj}{es:Array DictEntry}{ep:Nat}{Q:Value->Shared->Prop}(hd:(d==sysModules)=false)(ho:s.heap.get? d=some o)(hc:o.ExactDict)(Qu:o.data= .dict es ep)
  (hQ:Q (.ref s.heap.objs.size) { s with heap:=s.heap.push { cls:= .type "dict_keyiterator",data:= .fields #[.ref d,.int 0 0,.int es.size 0,.int ep 0] } }):
  wpAny (model prog w) A (pyIter (.ref d)) Q E s:=by
 have hT:s.TypeIs (.ref d) "dict":=⟨o,ho,hc.1⟩;refine wpAny_pyIter_slot hT F.slot_dict_iter (wpAny_call_entry F.slot_dict_iter hT F.entry_dict_iter ?_ (F.args_dict_iter_1 _));unfold Builtin.«dict.__iter__»;refine wpAny_bind ?_;unfold Builtin.Dict.dictSlotNone;refine wpAny_bind (wpAny_notOrdered_dict hT ?_);show wpAny _ _ (pure (Value.ref d)) _ _ s;refine wpAny_pure ?_;show wpAny _ _ (Builtin.Dict.showsAll d >>= _) _ _ s;unfold Builtin.Dict.showsAll;rw[if_neg (by rw[hd];exact Bool.false_ne_true)];refine wpAny_bind (wpAny_pure ?_);refine wpAny_bind (wpAny_dictEntries ho Qu ?_);refine wpAny_bind (wpAny_dictEpoch ho Qu ?_);refine wpAny_bind (wpAny_newObj_type (wpAny_pure ⟨_,rfl,"dict_keyiterator",_,⟨_,get?_push_size _ rfl,rfl⟩,F.slot_dict_keyiterator_next.lookup,?_⟩));simpa [rawInt]using hQ
theorem Lp {it d:Addr}{i n ep:Nat}{od:Obj}{es:Array DictEntry}{en:DictEntry}{Q:Option Value->Shared->Prop}(hit:s.heap.IsKeyIter it d i n ep)(gY:s.heap.get? d=some od)(wX:od.data= .dict es ep)
  (hsz:es.size=n) (hx:es[i]? =some en) (hQ:∀h',h'.IsKeyIter it d (i+1) n ep->Heap.SameBut it s.heap h'->Q (some en.key) { s with heap:=h' }):wpAny (model prog w) A (pyNext (.ref it)) Q E s:=by
 obtain ⟨o,ho,hc,hd⟩:=id hit;unfold pyNext;refine wpAny_bind (wpAny_attempt (wpAny_callSpecial?_slot (name:=Str.ofString "__next__") hit.typeIs F.slot_dict_keyiterator_next
  (wpAny_call_entry F.slot_dict_keyiterator_next hit.typeIs F.entry_dict_keyiterator_next ?_ (F.args_dict_keyiterator_next_1 _))))
 refine wpAny_bind (wpAny_pure ?_);refine wpAny_bind ?_;refine wpAny_bind ?_
 first | refine wpAny_bind (wpAny_typeNameOfWhole_keyiter hit.typeIs (wpAny_pure ?_)) | refine wpAny_bind (wpAny_typeNameOf_keyiter hit.typeIs (wpAny_pure ?_))
 refine wpAny_bind (wpAny_fieldsOf ho hd ?_);have yG:Builtin.Dict_items.ownsTuple "dict_keyiterator"=false:=by decide
 simp only[yG,Bool.false_eq_true,if_false];show wpAny _ _ (if (Value.ref d==Value.none)=true then _ else _) _ _ s;rw[if_neg (show ¬ ((Value.ref d==Value.none)=true)from Bool.false_ne_true)];refine wpAny_bind (wpAny_pure ?_);refine wpAny_bind (wpAny_dictEntries gY wX ?_);rw[if_neg (by rw[hsz];simp)];refine wpAny_bind (wpAny_pure ?_);refine wpAny_bind (wpAny_dictEpoch gY wX ?_);rw[if_neg (by simp)];refine wpAny_pure ?_;obtain ⟨AEE,hen⟩:=Array.getElem?_eq_some_iff.mp hx;simp only[show ¬ ((i:Int)<0)from by omega,if_false,Int.toNat_natCast,Array.getElem?_eq_getElem AEE];refine wpAny_bind ?_
 first | refine wpAny_bind (wpAny_typeNameOfWhole_keyiter hit.typeIs (wpAny_pure ?_)) | refine wpAny_bind (wpAny_typeNameOf_keyiter hit.typeIs (wpAny_pure ?_))
 refine wpAny_bind (wpAny_isOneOf_keyiter hit.typeIs ?_);show wpAny _ _ (setField (.ref it) 1 (rawInt ((i:Int)+1)) >>= _) _ _ s;refine wpAny_bind (wpAny_setField ho hd (by simp) ?_);have kC:(s.heap.update it (Obj.mapFields (·.setIfInBounds 1 (rawInt ((i:Int)+1))))).IsKeyIter it d (i+1) n ep:=
  ⟨_,get?_update_self _ ho (Obj.isFreed_of_fields (Obj.data_mapFields hd _)),(Obj.cls_mapFields ..).trans hc,by rw[Obj.data_mapFields hd];simp[rawInt]⟩
 refine wpAny_bind (wpAny_holding ?_);refine wpAny_bind (wpAny_isOneOf_keyiter (s:={ s with heap:=s.heap.update it (Obj.mapFields (·.setIfInBounds 1 (rawInt ((i:Int)+1)))) }) kC.typeIs ?_);show wpAny _ _ (pure es[i].key) _ _ _;rw[hen];exact wpAny_pure (wpAny_pure ⟨_,rfl,wpAny_pure (hQ _ kC (Heap.SameBut.update ..))⟩)
theorem Ia {it d:Addr}{i n ep:Nat}{od:Obj}{es:Array DictEntry}{Q:Option Value->Shared->Prop}(hh:A.handled=none)(hit:s.heap.IsKeyIter it d i n ep)(gY:s.heap.get? d=some od)(wX:od.data= .dict es ep)
  (hsz:es.size=n) (hge:n<=i) (hQ:∀h',Heap.ExtBut it s.heap h'->Q none { s with heap:=h' }):wpAny (model prog w) A (pyNext (.ref it)) Q E s:=by
 isplit;obtain ⟨o,ho,hc,hd⟩:=id hit;kl_no;unfold pyNext;refine wpAny_bind (wpAny_attempt (wpAny_callSpecial?_slot (name:=Str.ofString "__next__") hit.typeIs F.slot_dict_keyiterator_next
  (wpAny_call_entry F.slot_dict_keyiterator_next hit.typeIs F.entry_dict_keyiterator_next ?_ (F.args_dict_keyiterator_next_1 _))))
 refine wpAny_bind (wpAny_pure ?_);refine wpAny_bind ?_;refine wpAny_bind ?_
 first | refine wpAny_bind (wpAny_typeNameOfWhole_keyiter hit.typeIs (wpAny_pure ?_)) | refine wpAny_bind (wpAny_typeNameOf_keyiter hit.typeIs (wpAny_pure ?_))
 refine wpAny_bind (wpAny_fieldsOf ho hd ?_);have yG:Builtin.Dict_items.ownsTuple "dict_keyiterator"=false:=by decide
 simp only[yG,Bool.false_eq_true,if_false];show wpAny _ _ (if (Value.ref d==Value.none)=true then _ else _) _ _ s;rw[if_neg (show ¬ ((Value.ref d==Value.none)=true)from Bool.false_ne_true)];refine wpAny_bind (wpAny_pure ?_);refine wpAny_bind (wpAny_dictEntries gY wX ?_);rw[if_neg (by rw[hsz];simp)];refine wpAny_bind (wpAny_pure ?_);refine wpAny_bind (wpAny_dictEpoch gY wX ?_);rw[if_neg (by simp)];refine wpAny_pure ?_;have AEQ:es.size<=i:=by rw[hsz];exact hge
 simp only[show ¬ ((i:Int)<0)from by omega,if_false,Int.toNat_natCast,Array.getElem?_eq_none AEQ];refine wpAny_bind ?_
 first | refine wpAny_bind (wpAny_typeNameOfWhole_keyiter hit.typeIs (wpAny_pure ?_)) | refine wpAny_bind (wpAny_typeNameOf_keyiter hit.typeIs (wpAny_pure ?_))
 show wpAny _ _ (setField (.ref it) 0 .none >>= _) _ _ s;refine wpAny_bind (wpAny_setField ho hd (by simp) ?_);show wpAny _ _ (newExc (.type "StopIteration") [] >>= _) _ _ _;refine wpAny_bind ?_;simp only[newExc,newTuple];refine wpAny_bind (wpAny_newObj_type ?_ (by size_fits));refine wpAny_bind (m:=firstArgMember _ _) (wpAny_of_eq (a:=Value.none) (by first | rfl | (simp only[firstArgMember];rfl)) ?_);refine wpAny_newObj_type ?_ (by size_fits);simp only[raiseNew];refine wpAny_bind (wpAny_handled ?_);rw[show A.in1.handled=none from hh];refine wpAny_bind (wpAny_pure (wpAny_throw ?_));refine wpAny_bind (wpAny_isInstance (T:="StopIteration") (b:=true) ⟨_,get?_push_size _ rfl,rfl⟩ isSubtype_stop ?_);exact wpAny_pure (hQ _ (((Heap.SameBut.update ..).extBut.push _).push _))
end
theorem xj {κ:Type}{AV:List (κ×V)}{vs:List (κ×Value)}(h:KV AV vs):∀{i:Nat} {k:κ} {v:V},AV[i]? =some (k,v)->∃u,vs[i]? =some (k,u)/\RelV v u:=by
 unfold KV at h;induction h with
 |nil=>intro i k v e;simp at e
 | @cons a b l₁ l₂ r t ih=>
  intro i k v e;cases i with
  |zero=>
   simp only[List.getElem?_cons_zero,Option.some.injEq]at e;subst e;refine ⟨b.2,?_,r.2⟩;simp only[List.getElem?_cons_zero];exact congrArg some (Prod.ext r.1.symm rfl)
  |succ j=>
   simp only[getElem?_cons_succ]at e ⊢;exact ih e
theorem cn {α β:Type}{G:α->β->Prop}{l₁:List α}{l₂:List β}(h:Paired G l₁ l₂):∀{i:Nat} {a:α},l₁[i]? =some a->∃b,l₂[i]? =some b/\G a b:=by
 induction h with
 |nil=>intro i a e;simp at e
 | @cons a b l₁ l₂ r t ih=>
  intro i a' e;cases i with
  |zero=>
   simp only[List.getElem?_cons_zero,Option.some.injEq]at e;subst e;exact ⟨b,rfl,r⟩
  |succ j=>
   simp only[getElem?_cons_succ]at e ⊢;exact ih e
theorem nU {k:Key}{u:Value}(h:QL k u=true):RelV (kV k) u:=by
 rcases Bm h with ⟨i,t,rfl,rfl⟩ | ⟨x,t,rfl,rfl⟩
 ·exact ⟨t,rfl⟩
 ·exact ⟨t,rfl⟩
section
variable {X:Cx}{pins:List (Addr×Obj)}{σ:St}{H:Hp}{s:Shared}{d:Addr}{o:Obj}
theorem Inv.kN {AV:List (Key×V)}(I:Inv X pins σ H s)(h:H d=some (.EA o (.dK AV))):
  (d==sysModules)=false/\s.heap.get? d=some o/\o.ExactDict/\∃(es:Array DictEntry) (ep:Nat) (vs:List (Key×Value)),o.data= .dict es ep/\es.size=AV.length/\KV AV vs/\s.heap.DictAt (Ah X.prog X.w) d vs ep:=by
 obtain ⟨hd,z,hs,vs,kv,o',es,ep,ho,hx,VI,r⟩:=I.BL d _ h;rw[hd]at ho;cases ho;refine ⟨hs,hd,hx,es,ep,vs,VI,?_,kv,o,es,hd,hx,VI,r⟩;have l1:=r.2.1.length;have l2:AV.length=vs.length:=Paired.length kv;rw[length_toList]at l1;omega
theorem Inv.yY {AV:List (List Key×V)}(I:Inv X pins σ H s)(h:H d=some (.EA o (.dT AV))):
  (d==sysModules)=false/\s.heap.get? d=some o/\o.ExactDict/\∃(es:Array DictEntry) (ep:Nat),o.data= .dict es ep/\es.size=AV.length/\
   ∀(i:Nat) (k:List Key) (v:V),AV[i]? =some (k,v)->∃(en:DictEntry) (q:Addr),es[i]? =some en/\en.key= .ref q/\H q=some (.tup (k.map kV)):=by
 obtain ⟨hd,z,hs,xs,pr,o',es,ep,ho,hx,VI,he,_⟩:=I.BL d _ h;rw[hd]at ho;cases ho;refine ⟨hs,hd,hx,es,ep,VI,?_,fun i k v e=>?_⟩
 ·have l1:es.size=xs.length:=size_of_entries he;have l2:AV.length=xs.length:=Paired.length pr;omega
 ·obtain ⟨b,hb,e1,e2,_⟩:=cn pr e;have q:=entry_at he i;rw[hb]at q;exact ⟨_,b.2.1,q,rfl,e2⟩
end
def Itk (d:Addr)(o:Obj)(AV:List (Key×V)):It:=
 ⟨fun i H=>H d=some (.EA o (.dK AV))/\i<AV.length,fun i H x H'=>H'=H/\∃k v,AV[i]? =some (k,v)/\x=kV k,fun i H=>H d=some (.EA o (.dK AV))/\AV.length<=i⟩
def rK (d:Addr)(o:Obj)(AV:List (List Key×V)):It:=
 ⟨fun i H=>H d=some (.EA o (.dT AV))/\i<AV.length,fun i H x H'=>H'=H/\∃(k:List Key) (v:V) (q:Addr),AV[i]? =some (k,v)/\x= .ref q/\H q=some (.tup (k.map kV)),fun i H=>H d=some (.EA o (.dT AV))/\AV.length<=i⟩
theorem RJ {o:Obj}{es rq:Array DictEntry}{ep Qx:Nat}(h:o.data= .dict es ep)(h':o.data= .dict rq Qx):rq=es/\Qx=ep:=by
 rw[h]at h';cases h';exact ⟨rfl,rfl⟩
section
variable {P:Program}{w:World}{K:PySem.W.Frag}{tg:Expr}{d:Addr}{o:Obj}{es:Array DictEntry}{ep:Nat}
theorem iV {AV:List (Key×V)}(it:Addr)(gY:o.data= .dict es ep):Turn P w K tg (Itk d o AV) [it] it (fun i h=>h.IsKeyIter it d i AV.length ep) where
 mem:=by simp
 obj:=fun i h st b hb=>by
  have e:b=it:=by simpa using hb
  subst e;isplit;obtain ⟨oi,e,c,dd⟩:=st;kl_no;exact ⟨oi,e,fun v z=>by rw[dd]at z;cases z⟩
 keep:=fun i h h' st k=>st.at fun oi e=>k it (by simp) oi e
 item:=by
  intro X hP hw hK hc i pins s σ H E I hf st hg;subst hP hw hK;obtain ⟨hd,hi⟩:=hg;isplit;obtain ⟨f0,f1,f2,f3,f4,f5⟩:=hf it (by simp);kl_no;isplit;obtain ⟨hs,rh,hx,rq,Qx,vs,VI,hsz,kv,hm⟩:=I.kN hd;kl_no;obtain ⟨rfl,rfl⟩:=RJ gY VI;obtain ⟨⟨k,v⟩,hkv⟩:∃p,AV[i]? =some p:=⟨AV[i],getElem?_eq_getElem hi⟩;obtain ⟨u,hu,ru⟩:=xj kv hkv;have hl:AV.length=vs.length:=Paired.length kv;rw[hl]at st;refine wpAny_pyNext_dict_item st hm hu fun key h' Ti Ja sb=>?_;have I1:Inv X pins σ H { s with heap:=h' }:=I.turned (t':=s.toks) (fun b ob hb e=>(sb.2 b hb).trans e) f0 f1 f3 f4 f5;isplit;obtain ⟨oi,e,c,dd⟩:=id Ja;kl_no;refine ⟨key,rfl,a8 (s:={ s with heap:=h' }) e c dd (by decide) ⟨kV k,H,I1,nU (show QL k key=true from Ti),⟨rfl,k,v,hkv,rfl⟩,?_,fun b hb=>(hf b hb).1⟩⟩;show h'.IsKeyIter it d (i+1) AV.length _;rw[hl];exact Ja
 done:=by
  intro X hP hw hK hc i pins s σ H E I hf st hg;subst hP hw hK;obtain ⟨hd,hi⟩:=hg;isplit;obtain ⟨f0,f1,f2,f3,f4,f5⟩:=hf it (by simp);kl_no;isplit;obtain ⟨hs,rh,hx,rq,Qx,vs,VI,hsz,kv,hm⟩:=I.kN hd;kl_no;obtain ⟨rfl,rfl⟩:=RJ gY VI;exact Ia (I.ok.hd hc) st rh VI hsz hi fun h' eb=>⟨rfl,I.turned (t':=s.toks) (fun b ob hb e=>eb b ob hb e) f0 f1 f3 f4 f5⟩
 self:=fun A i s Q E st h=>wpAny_pyIter_keyiter st h
theorem cP {AV:List (List Key×V)}(it:Addr)(gY:o.data= .dict es ep):Turn P w K tg (rK d o AV) [it] it (fun i h=>h.IsKeyIter it d i AV.length ep) where
 mem:=by simp
 obj:=fun i h st b hb=>by
  have e:b=it:=by simpa using hb
  subst e;isplit;obtain ⟨oi,e,c,dd⟩:=st;kl_no;exact ⟨oi,e,fun v z=>by rw[dd]at z;cases z⟩
 keep:=fun i h h' st k=>st.at fun oi e=>k it (by simp) oi e
 item:=by
  intro X hP hw hK hc i pins s σ H E I hf st hg;subst hP hw hK;obtain ⟨hd,hi⟩:=hg;isplit;obtain ⟨f0,f1,f2,f3,f4,f5⟩:=hf it (by simp);kl_no;isplit;obtain ⟨hs,rh,hx,rq,Qx,VI,hsz,ent⟩:=I.yY hd;kl_no;obtain ⟨rfl,rfl⟩:=RJ gY VI;obtain ⟨⟨k,v⟩,hkv⟩:∃p,AV[i]? =some p:=⟨AV[i],getElem?_eq_getElem hi⟩;isplit;obtain ⟨en,q,hen,Ti,hq⟩:=ent i k v hkv;kl_no;refine Lp st rh VI hsz hen fun h' Ja sb=>?_;have I1:Inv X pins σ H { s with heap:=h' }:=I.turned (t':=s.toks) (fun b ob hb e=>(sb.2 b hb).trans e) f0 f1 f3 f4 f5;isplit;obtain ⟨oi,e,c,dd⟩:=id Ja;kl_no;exact ⟨en.key,rfl,a8 (s:={ s with heap:=h' }) e c dd (by decide) ⟨.ref q,H,I1,Ti,⟨rfl,k,v,q,hkv,rfl,hq⟩,Ja,fun b hb=>(hf b hb).1⟩⟩
 done:=by
  intro X hP hw hK hc i pins s σ H E I hf st hg;subst hP hw hK;obtain ⟨hd,hi⟩:=hg;isplit;obtain ⟨f0,f1,f2,f3,f4,f5⟩:=hf it (by simp);kl_no;isplit;obtain ⟨hs,rh,hx,rq,Qx,VI,hsz,ent⟩:=I.yY hd;kl_no;obtain ⟨rfl,rfl⟩:=RJ gY VI;exact Ia (I.ok.hd hc) st rh VI hsz hi fun h' eb=>⟨rfl,I.turned (t':=s.toks) (fun b ob hb e=>eb b ob hb e) f0 f1 f3 f4 f5⟩
 self:=fun A i s Q E st h=>by
  refine wpAny_pyIter_slot st.typeIs F.slot_dict_keyiterator_iter (wpAny_call_entry F.slot_dict_keyiterator_iter st.typeIs F.entry_dict_keyiterator_iter ?_ (F.args_dict_keyiterator_iter_1 _));show wpAny _ _ (ret (.ref it)) _ _ s;exact wpAny_pure ⟨_,rfl,"dict_keyiterator",_,st.typeIs,F.slot_dict_keyiterator_next.lookup,h⟩
def AAs (td:TE):TI:=fun σ H R=>td σ H fun x H1=>∃d o,x= .ref d/\((∃AV,H1 d=some (.EA o (.dK AV))/\R (Itk d o AV) H1)\/∃AV,H1 d=some (.EA o (.dT AV))/\R (rK d o AV) H1)
end
section
variable {X:Cx}{tg e:Expr}{td:TE}{apos Fv:Pos}
theorem tF (he:PE X e td):PI X tg e (AAs td):=by
 intro pins s σ H R I h;refine Bx (he pins s σ H _ I h) fun u s1 ⟨x,H1,I1,rx,d,o,ex,q⟩=>?_;subst ex;obtain rfl:u=Value.ref d:=rx;rcases q with ⟨AV,hd,q⟩ | ⟨AV,hd,q⟩
 ·obtain ⟨hs,rh,hx,es,ep,vs,VI,hsz,kv,hm⟩:=I1.kN hd;refine PK hs rh hx VI (Xf (tk:=s1.toks) I1 _ (iV _ VI) ⟨_,get?_push_size _ rfl,rfl,?_⟩ q);rw[hsz] <;> rfl
 ·obtain ⟨hs,rh,hx,es,ep,VI,hsz,ent⟩:=I1.yY hd;refine PK hs rh hx VI (Xf (tk:=s1.toks) I1 _ (cP _ VI) ⟨_,get?_push_size _ rfl,rfl,?_⟩ q);rw[hsz] <;> rfl
end
end L2
section
namespace AFJ
open PySem PyProof.Rows
end AFJ
end
section
namespace TL
open PySem PySem.Builtin PySem.Builtin.Str PySem.StrLaws
abbrev tl (x:Str):List Nat:=x.cps.toList
theorem PF (x:Str):x.length=(tl x).length:=by simp[tl,Str.length]
theorem Ms {x y:Str}(h:tl x=tl y):x=y:=Str.ext' (Array.toList_inj.mp h)
theorem Oc (x y:Str):tl (x++y)=tl x++tl y:=by
 show (x++y).cps.toList=_;rw[Str.cps_append,Array.toList_append]
theorem AAf (x:Str):(⟨(tl x).toArray⟩:Str)=x:=Ms rfl
theorem TB:∀{l m:List Str},l.map tl=m.map tl->l=m
 | [],[],_=>rfl
 | [],_::_,h=>by simp at h
 |_::_,[],h=>by simp at h
 |x::l,y::m,h=>by
  rw[map_cons,map_cons]at h;injection h with h1 h2
  rw[Ms h1,TB h2]
theorem ZA (s:String):tl (Str.ofString s)=s.toList.map Char.toNat:=PyProof.Rows.signs_ofString s
def pre (S l:List Nat):Bool:=l.take S.length==S
def Qc (S:List Nat):Nat->List Nat->List Nat->List (List Nat)
 |_,acc,[]=> [acc]
 |0,acc,c::r=>if pre S (c::r)=true then acc::Qc S (S.length - 1) [] r else Qc S 0 (acc ++ [c]) r
 |k+1,acc,_::r=>Qc S k acc r
theorem RC (S:List Nat)(k:Nat)(acc:List Nat):Qc S k acc []=[acc]:=by cases k <;> rfl
theorem fX {S acc r:List Nat}{c:Nat}(h:pre S (c::r)=true):Qc S 0 acc (c::r)=acc::Qc S (S.length - 1) [] r:=by
 show (if pre S (c::r)=true then acc::Qc S (S.length - 1) [] r else Qc S 0 (acc ++ [c]) r)=_;rw[if_pos h]
theorem ZJ {S acc r:List Nat}{c:Nat}(h:pre S (c::r)=false):Qc S 0 acc (c::r)=Qc S 0 (acc ++ [c]) r:=by
 show (if pre S (c::r)=true then acc::Qc S (S.length - 1) [] r else Qc S 0 (acc ++ [c]) r)=_;rw[if_neg (by rw[h];exact Bool.false_ne_true)]
theorem ZI (S:List Nat):∀(k:Nat) (acc l:List Nat),Qc S k acc l=Qc S 0 acc (l.drop k)
 |0,_,_=>by rw[drop_zero]
 |k+1,acc,[]=>by rw[List.drop_nil,RC,RC]
 |k+1,acc,c::r=>by
  show Qc S k acc r=Qc S 0 acc (r.drop k);exact ZI S k acc r
theorem tE {S:List Nat}(hS:S≠ []):pre S []=false:=by
 cases S with
 |nil=>exact absurd rfl hS
 |cons s S=>rfl
theorem Zn {s c:Nat}(S r:List Nat)(h:c≠s):pre (s::S) (c::r)=false:=by
 cases hp:pre (s::S) (c::r)with
 |false=>rfl
 |true=>
  have e:(c::r).take (s::S).length=s::S:=eq_of_beq hp;rw[length_cons,List.take_succ_cons]at e;injection e with e1 e2
  exact absurd e1 h
theorem OC {L:List Nat}{a:Nat}(h:a<L.length):∃c,L.drop a=c::L.drop (a+1):=⟨L[a],drop_eq_getElem_cons h⟩
theorem XG (S L:List Nat):∀(m a:Nat) (acc:List Nat),a+m<=L.length->(∀k,a<=k->k<a+m->pre S (L.drop k)=false)->
  Qc S 0 acc (L.drop a)=Qc S 0 (acc++(L.drop a).take m) (L.drop (a+m))
 |0,a,acc,_,_=>by rw[List.take_zero,append_nil,Nat.add_zero]
 |m+1,a,acc,h,hn=>by
  have C2:a<L.length:=by omega
  obtain ⟨c,e⟩:=OC C2;have h0:=hn a (Nat.le_refl _) (by omega);have ih:=XG S L m (a+1) (acc ++ [c]) (by omega) (fun k h1 h2=>hn k (by omega) (by omega));have e2:a+1+m=a+(m+1):=by omega
  rw[e2]at ih;rw[e]at h0;rw[e,ZJ h0,ih,List.take_succ_cons,append_assoc] <;> rfl
theorem qb (L:List Nat)(a b:Nat):(L.drop a).drop b=L.drop (a+b):=by
 first
  |rw[drop_drop]
  |rw[drop_drop,Nat.add_comm]
theorem xI {S L:List Nat}(hS:S≠ []){c:Nat}{acc:List Nat}(h:pre S (L.drop c)=true):Qc S 0 acc (L.drop c)=acc::Qc S 0 [] (L.drop (c+S.length)):=by
 rw[<- qb];cases e:L.drop c with
 |nil=>rw[e,tE hS]at h;cases h
 |cons d r=>
  rw[e]at h;rw[fX h,ZI];cases S with
  |nil=>exact absurd rfl hS
  |cons s S=>rfl
theorem rB {x y:Str}(hy:tl y≠ [])(i:Nat):At x y x.length i↔pre (tl y) ((tl x).drop i)=true:=by
 have hx:=PF x;have hl:=PF y;constructor
 ·intro h;have h2:=h.2;rw[subAt_eq,hl]at h2;exact h2
 ·intro h;have e:((tl x).drop i).take (tl y).length=tl y:=eq_of_beq h;have e1:=congrArg length e;rw[length_take,length_drop]at e1;have e2:0<(tl y).length:=List.length_pos_iff.mpr hy;refine ⟨by omega,?_⟩;rw[subAt_eq,hl];exact h
theorem wE {x y:Str}(hy:tl y≠ []){i:Nat}(h:¬ At x y x.length i):pre (tl y) ((tl x).drop i)=false:=by
 cases hp:pre (tl y) ((tl x).drop i)with
 |false=>rfl
 |true=>exact absurd ((rB hy i).mpr hp) h
theorem ADi {y:Str}(hy:tl y≠ []):1<=y.length:=by
 have e2:0<(tl y).length:=List.length_pos_iff.mpr hy;rw[PF y];exact e2
theorem Vh (x:Str)(i j:Nat):tl (strSub x i j)=((tl x).drop i).take (j - i):=strSub_toList x i j
theorem Ux (x:Str)(i:Nat):tl (strSub x i x.length)=(tl x).drop i:=by
 rw[Vh,PF x];exact take_of_length_le (by rw[length_drop] <;> omega)
theorem WC {x y:Str}(hy:tl y≠ []):∀(ABi:List Nat) (a f:Nat),a<=(tl x).length->ChainG x y x.length a ABi f->(∀k,f<=k->¬ At x y x.length k)->
  (partsFrom x y.length a ABi).map tl=Qc (tl y) 0 [] ((tl x).drop a)
 | [],a,f,ha,h,hn=>by
  have e:f=a:=h;subst e;show [tl (strSub x f x.length)]=_;have run:=XG (tl y) (tl x) ((tl x).length - f) f [] (by omega) (fun k h1 _=>wE hy (hn k h1));have e2:f+((tl x).length - f)=(tl x).length:=by omega
  rw[e2,drop_length,RC,nil_append,take_of_length_le (by rw[length_drop] <;> omega)]at run;rw[run,Ux]
 |c::r,a,f,ha,h,hn=>by
  obtain ⟨h1,h2,h3,h4⟩:=h;have hc:c+y.length<=x.length:=h2.1;have hx:=PF x;have hl:=PF y;have ih:=WC hy r (c+y.length) f (by omega) h4 hn;show tl (strSub x a c)::(partsFrom x y.length (c+y.length) r).map tl=_;have run:=XG (tl y) (tl x) (c - a) a [] (by omega) (fun k k1 k2=>wE hy (h3 k k1 (by omega)));have e2:a+(c - a)=c:=by omega
  rw[e2,nil_append,xI hy ((rB hy c).mp h2)]at run;rw[run,ih,Vh,hl]
theorem jA (x y:Str)(hy:tl y≠ [])(hk:¬ Builtin.Str.strKind x<Builtin.Str.strKind y):(Txt.split x y).map tl=Qc (tl y) 0 [] (tl x):=by
 obtain ⟨f,g,hn⟩:=occ_tight x y (ADi hy);have key:=WC hy _ 0 f (zero_le _) g hn;rw[drop_zero]at key;have WM:occurrences x y 0 x.length (x.length+1)=[]-> [x].map tl=Qc (tl y) 0 [] (tl x):=fun ho=>by
  rw[ho]at key;rw[<- key];show [tl x]=[tl (strSub x 0 x.length)];rw[sub_whole]
 unfold Txt.split;by_cases h1:(decide (x.length<y.length)||decide (Builtin.Str.strKind x<Builtin.Str.strKind y))=true
 ·rw[if_pos h1];have C2:x.length<y.length:=by
   simp only[Bool.or_eq_true,decide_eq_true_eq]at h1;rcases h1 with h | h
   ·exact h
   ·exact absurd h hk
  refine WM ?_;cases ho:occurrences x y 0 x.length (x.length+1)with
  |nil=>rfl
  |cons c r=>
   rw[ho]at g;have hc:c+y.length<=x.length:=g.2.1.1;omega
 ·rw[if_neg h1];by_cases h2:(occurrences x y 0 x.length (x.length+1)).isEmpty=true
  ·rw[if_pos h2];exact WM (List.isEmpty_iff.mp h2)
  ·rw[if_neg h2,partsBetween_eq];exact key
theorem uN {x y:Str}(h:y.cps.all (· < 256)=true):¬ Builtin.Str.strKind x<Builtin.Str.strKind y:=by
 have e:Builtin.Str.strKind y=1:=by unfold PySem.Builtin.Str.strKind;rw[if_pos h]
 rw[e];unfold PySem.Builtin.Str.strKind;split
 ·omega
 ·split <;> omega
def WW (S:List Nat):List (List Nat)->List Nat
 | []=> []
 | [p]=>p
 |p::q::r=>p++(S++WW S (q::r))
theorem fU (y:Str):∀parts:List Str,tl (Str.join y parts)=WW (tl y) (parts.map tl)
 | []=>rfl
 | [_]=>rfl
 |x::z::r=>by
  show tl (x++y++Str.join y (z::r))=tl x++(tl y++WW (tl y) ((z::r).map tl));rw[Oc,Oc,fU y (z::r),append_assoc]
theorem join_eq (y:Str)(parts:List Str):Txt.join y parts=Str.join y parts:=glued_eq_join y parts
def AAU (n:Nat):List Nat:=(Nat.toDigits 10 n).map Char.toNat
theorem wy (n:Nat):tl (Str.ofString (toString ((n:Nat):Int)))=AAU n:=PySem.W.KIN.signs_num n
end TL
end
namespace L2
open PySem PySem.Spec PyProof.Rows
theorem Ve:∀l:List (Str×Tok),Vals ((l.map (·.1)).map V.str) (strValues l)
 | []=> .nil
 |p::r=> .cons ⟨p.2,rfl⟩ (Ve r)
theorem IH:∀{ys:List Str} {us:List Value},Vals (ys.map V.str) us->StrsAre us ys
 | [],_,.nil=> .nil
 |y::ys,_,.cons r t=>by
  obtain ⟨k,rfl⟩:=r;exact .cons y k (IH t)
def R4 (ys:List Str):Hp->VK->Prop:=fun H Q=>∀p,H p=none->Q (.ref p) (upd H p (.lst (ys.map V.str)))
section
variable {X:Cx}{pins:List (Addr×Obj)}{σ:St}{H:Hp}{s:Shared}{Q:VK}
theorem PH {l:List (Str×Tok)}{ys:List Str}{k:Nat}(I:Inv X pins σ H s)(e:l.map (·.1)=ys)(hz:ys.length<=sizeLine)(h:R4 ys H Q):
  EP X pins σ Q (.ref s.heap.objs.size) { s with toks:=k,heap:=s.heap.push { cls:= .type "list",data:= .seq (strValues l).toArray } }:=by
 have hp:=I.BL.fresh (Nat.le_refl _);refine ⟨.ref s.heap.objs.size,upd H s.heap.objs.size (.lst (ys.map V.str)),I.laid (fun b u q=>get?_push_of_some _ q) (Nat.le_refl _) ⟨by rw[length_map];exact hz,strValues l,_,?_,get?_push_size _ rfl⟩,rfl,h _ hp⟩;rw[<- e];exact Ve l
end
section
variable {X:Cx}
theorem oh:MtR X "str.split" (fun x xs H Q=>∃a b,x= .str a/\xs=[.str b]/\(b.length==0)=false/\a.length+2<=sizeLine/\R4 (Txt.split a b) H Q):=by
 intro pins s σ H x xs v us Q I rx rs h;obtain ⟨a,b,rfl,rfl,hb,hz,h⟩:=h;obtain ⟨t,rfl⟩:=rx;cases rs with
 |cons r1 rs=>
  cases rs;obtain ⟨u,rfl⟩:=r1;have hl:(Txt.split a b).length<=sizeLine:=Nat.le_trans (split_le a b) hz;have hn:(Builtin.Str.partsBetween a (Builtin.Str.occurrences a b 0 a.length (a.length+1)) b.length).length<=sizeLine:=by
   have e1:=StrLaws.occ_length_le a b 0 a.length (a.length+1);rw[length_partsBetween];omega
  cases h1:(decide (a.length<b.length)||decide (Builtin.Str.strKind a<Builtin.Str.strKind b))
  ·cases hf:(Builtin.Str.occurrences a b 0 a.length (a.length+1)).isEmpty
   ·refine call_meets F.slot_str_split (typeIs_str _ _ _) F.entry_str_split (F.args_str_split_2 _ _) (meets_str_split_sep a b t u h1 hb hf (by omega) hn) ?_;show EP X pins σ Q (.ref s.heap.objs.size) { s with toks:=_,heap:=s.heap.push { cls:= .type "list",data:= .seq (strsFrom s.toks (Builtin.Str.partsBetween a (Builtin.Str.occurrences a b 0 a.length (a.length+1)) b.length)).toArray } };rw[strsFrom_eq];exact PH (ys:=Txt.split a b) I ((numbered_texts _ _).trans ((if_neg (ne_true_of_eq_false h1)).trans (if_neg (ne_true_of_eq_false hf))).symm) hl h
   ·refine call_meets F.slot_str_split (typeIs_str _ _ _) F.entry_str_split (F.args_str_split_2 _ _) (meets_str_split_not_found a b t u h1 hb hf) ?_;exact PH (l:= [(a,t)]) (ys:=Txt.split a b) (k:=s.toks) I ((if_neg (ne_true_of_eq_false h1)).trans (if_pos hf)).symm hl h
  ·refine call_meets F.slot_str_split (typeIs_str _ _ _) F.entry_str_split (F.args_str_split_2 _ _) (meets_str_split_cannot_occur a b t u h1) ?_;exact PH (l:= [(a,t)]) (ys:=Txt.split a b) (k:=s.toks) I (if_pos h1).symm hl h
theorem uC:MtR X "str.join" (fun x xs H Q=>∃a p, ∃ys:List Str,x= .str a/\xs=[.ref p]/\(Ao X.K H p (ys.map V.str)\/Gi X.K H p (ys.map V.str))/\
  (ys.map (·.length)).sum+ys.length*a.length<=16777216/\Q (.str (Txt.join a ys)) H):=by
 intro pins s σ H x xs v us Q I rx rs h;obtain ⟨a,p,ys,rfl,rfl,hp,hz,h⟩:=h;obtain ⟨t,rfl⟩:=rx;cases rs with
 |cons r1 rs=>
  cases rs;cases r1;rcases hp with hp | hp
  ·obtain ⟨A1,r,⟨o,n,ho,hc,_,hd⟩,_⟩:=I.list hp;exact join_list (items:=A1.toArray) ⟨o,ho,hc,n,hd⟩ (by rw[toList_toArray];exact IH r) hz fun t' k=>⟨.str _,H,I.tok k,⟨t',rfl⟩,h⟩
  ·obtain ⟨A1,r,ht,_⟩:=I.tuple hp;exact join_tuple (items:=A1.toArray) ht (by rw[toList_toArray];exact IH r) hz fun t' k=>⟨.str _,H,I.tok k,⟨t',rfl⟩,h⟩
end
section
variable {X:Cx}{o e:Expr}{to te:TE}
def tM1 (r:V->List V->Hp->VK->Prop)(to te:TE):TE:=fun σ H Q=>to σ H fun x H1=>(∃a,x= .str a)/\te σ H1 fun y H2=>r x [y] H2 Q
theorem wC {id:String}{name:Str}{apos pos:Pos}{r:V->List V->Hp->VK->Prop}(slot:Slot "str" name id)(ty:typeOf (.builtin id)=pure (.type "method_descriptor"))(rule:MtR X id r)(ho:PE X o to)(he:PE X e te)
  (hs:starEach [e] X.env=[(false,eval e X.env)]:=by rfl) (Tj:attributeBase o name X.env (eval o X.env)=eval o X.env:=by rfl) (hline:(apos.endLine==pos.line)=true:=by rfl):
  PE X (.Call (.Attribute o name apos) [e] [] pos) (tM1 r to te):=by
 kxf_if;refine PySem.Call_method1 Tj hs hline (Bx (ho pins s σ H _ I h) fun v s1 ⟨x,H1,I1,r1,q1⟩=>?_);obtain ⟨⟨a,rfl⟩,q1⟩:=q1;obtain ⟨t,rfl⟩:=_root_.id r1;refine ⟨"str",_,F.plainAttrs_str,slot,ty,typeIs_str _ _ _,(fun _ e=>nomatch e),Calls.callWith_builtin rfl (Calls.evalArgs_plain (Calls.spliced_cons ?_))⟩;exact Bx (he pins s1 σ H1 _ I1 q1) fun u s2 ⟨y,H2,I2,r2,q2⟩=>Calls.spliced_nil (rule pins s2 σ H2 _ [y] _ [u] Q I2 r1 (.cons r2 .nil) q2)
theorem SN {apos pos:Pos}(ho:PE X o to)(he:PE X e te)(hs:starEach [e] X.env=[(false,eval e X.env)]:=by rfl)(Tj:attributeBase o "split" X.env (eval o X.env)=eval o X.env:=by rfl)(hline:(apos.endLine==pos.line)=true:=by rfl):
  PE X (.Call (.Attribute o "split" apos) [e] [] pos) (tM1 (fun x xs H Q=>∃a b,x= .str a/\xs=[.str b]/\(b.length==0)=false/\a.length+2<=sizeLine/\R4 (Txt.split a b) H Q) to te):=
 wC F.slot_str_split F.type_str_split oh ho he hs Tj hline
theorem tH {apos pos:Pos}(ho:PE X o to)(he:PE X e te)(hs:starEach [e] X.env=[(false,eval e X.env)]:=by rfl)(Tj:attributeBase o "join" X.env (eval o X.env)=eval o X.env:=by rfl)(hline:(apos.endLine==pos.line)=true:=by rfl):
  PE X (.Call (.Attribute o "join" apos) [e] [] pos) (tM1 (fun x xs H Q=>∃a p, ∃ys:List Str,x= .str a/\xs=[.ref p]/\(Ao X.K H p (ys.map V.str)\/Gi X.K H p (ys.map V.str))/\
   (ys.map (·.length)).sum+ys.length*a.length<=16777216/\Q (.str (Txt.join a ys)) H) to te):=
 wC F.slot_str_join F.type_str_join uC ho he hs Tj hline
end
section
variable {X:Cx}
theorem SZ:Px X (compareOp .In) (fun x y H Q=>∃(c:Nat) (z:Str),x= .str ⟨#[c]⟩/\y= .str z/\Q (.bl (decide (c∈z.cps.toList))) H):=by
 intro pins s σ H x y v u Q I rx ry h;obtain ⟨c,z,rfl,rfl,q⟩:=h;obtain ⟨t,rfl⟩:=rx;obtain ⟨t',rfl⟩:=ry;exact in_str (BE I q (PySem.StrLaws.found_one z c).symm)
end
theorem IsPart.raw {v:Value}{o:Option Int}(p:IsPart v o):∃l:Option (Int×Tok),v=partValue l/\l.map (·.1)=o:=by
 cases p with
 |none=>exact ⟨none,rfl,rfl⟩
 |int i t=>exact ⟨some (i,t),rfl,rfl⟩
def bR (n d:Nat):Option Int->Int
 |none=>(d:Int)
 |some i=>max 0 (min (if i<0 then i+(n:Int)else i) (n:Int))
theorem bQ (n d:Nat)(o:Option Int):bR n d o=((HT.Fh n d o:Nat):Int):=by
 cases o with
 |none=>rfl
 |some v=>
  show max (0:Int) (min (if v<0 then v+(n:Int)else v) (n:Int))=(((if v<0 then (v+(n:Int)).toNat else min v.toNat n):Nat):Int);by_cases hv:v<0
  ·simp only[if_pos hv];omega
  ·simp only[if_neg hv];omega
theorem jE (a b:Option Int)(n:Nat):Builtin.Str.strSliceIndices a b 1 n=sliceRange (bR n 0 a) (bR n n b) 1:=by
 have h1:((1:Int) > 0)=True:=by simp
 cases a <;> cases b <;> first
  |rfl
  | (simp only[Builtin.Str.strSliceIndices,bR,h1,if_true];rfl)
  |simp[Builtin.Str.strSliceIndices,bR]
theorem ACz (a b:Option Int)(n:Nat):Builtin.Str.strSliceIndices a b 1 n=(List.range (HT.Fh n n b - HT.Fh n 0 a)).map (fun k=>HT.Fh n 0 a+k):=by
 rw[jE,bQ,bQ];generalize HT.Fh n 0 a=p;generalize HT.Fh n n b=q;simp only[sliceRange,show ((1:Int) > 0)=True from by simp,if_true];by_cases C2:(p:Int)<q
 ·have e3:(((q:Int) - p+1 - 1) / 1).toNat=q - p:=by first | omega | (simp;done) | (simp;omega)
  simp only[C2,if_true,e3];refine map_congr_left fun k _=>?_;omega
 ·have:q - p=0:=by omega
  simp[C2,this]
def qo (z:Str)(lo hi:Option Int):Str:=
 ⟨((z.cps.toList.drop (HT.Fh z.length 0 lo)).take (HT.Fh z.length z.length hi - HT.Fh z.length 0 lo)).toArray⟩
theorem Lb (z:Str)(lo hi:Option Int):PySem.StrLaws.sliceText z lo hi=qo z lo hi:=by
 have h1:HT.Fh z.length 0 lo<=z.length:=HT.nN _ _ (zero_le _) _;have h2:HT.Fh z.length z.length hi<=z.length:=HT.nN _ _ (Nat.le_refl _) _;have hp:HT.Fh z.length 0 lo<=max (HT.Fh z.length 0 lo) (HT.Fh z.length z.length hi):=Nat.le_max_left _ _;have hq:max (HT.Fh z.length 0 lo) (HT.Fh z.length z.length hi)<=z.length:=Nat.max_le.mpr ⟨h1,h2⟩;have hd:max (HT.Fh z.length 0 lo) (HT.Fh z.length z.length hi) - HT.Fh z.length 0 lo=HT.Fh z.length z.length hi - HT.Fh z.length 0 lo:=by omega
 have e:Builtin.Str.strSliceIndices lo hi 1 z.length=
   Builtin.Str.strSliceIndices (some ((HT.Fh z.length 0 lo:Nat):Int)) (some ((max (HT.Fh z.length 0 lo) (HT.Fh z.length z.length hi):Nat):Int)) 1 z.length:=by
  rw[PySem.StrLaws.strSliceIndices_plain hp hq,hd,ACz]
 have e2:PySem.StrLaws.sliceText z lo hi=
   PySem.StrLaws.sliceText z (some ((HT.Fh z.length 0 lo:Nat):Int)) (some ((max (HT.Fh z.length 0 lo) (HT.Fh z.length z.length hi):Nat):Int)):=by
  unfold PySem.StrLaws.sliceText;rw[e]
 rw[e2,PySem.StrLaws.sliceText_nat z hp hq,hd];rfl
theorem bO (z:Str)(lo hi:Option Int):(qo z lo hi).length<=z.length:=by
 show (((z.cps.toList.drop (HT.Fh z.length 0 lo)).take (HT.Fh z.length z.length hi - HT.Fh z.length 0 lo)).toArray).size<=z.cps.size;rw[size_toArray,length_take,length_drop,length_toList];omega
def AC5:V->Option Int->Option Int->Hp->VK->Prop:=fun x lo hi H Q=>∃z,x= .str z/\z.length<=sizeLine/\Q (.str (qo z lo hi)) H
theorem xJ {X:Cx}:SlR X AC5:=by
 intro pins s σ H x v vl vu lo hi sl Q I rx hs pl pu h;obtain ⟨z,rfl,hz,q⟩:=h;obtain ⟨t,rfl⟩:=rx;obtain ⟨os,hos,aq,hds⟩:=hs;obtain ⟨l,rfl,rfl⟩:=IsPart.raw pl;obtain ⟨u,rfl,rfl⟩:=IsPart.raw pu;refine ⟨"str",_,F.slot_str_getitem.lookup,typeIs_str _ _ _,?_⟩;refine wpAny_getItem_str_slice (l:=l) (u:=u) (st:=none) ⟨os,hos,aq,hds⟩ rfl ?_;have hl:(PySem.StrLaws.sliceText z (l.map (·.1)) (u.map (·.1))).length<=sizeLine:=by
  rw[Lb];exact Nat.le_trans (bO z _ _) hz
 rw[<- Lb]at q;unfold PySem.StrLaws.sliceText at q hl;show Made.post (if ((1:Int)==1&&(Builtin.Str.strSliceIndices (l.map (·.1)) (u.map (·.1)) 1 z.length).length==z.length)=true then Made.val (.str z t)
  else Made.str ⟨((Builtin.Str.strSliceIndices (l.map (·.1)) (u.map (·.1)) 1 z.length).filterMap (z.cps[·]?)).toArray⟩) (EP X pins σ Q) s
 by_cases c:((1:Int)==1&&(Builtin.Str.strSliceIndices (l.map (·.1)) (u.map (·.1)) 1 z.length).length==z.length)=true
 ·rw[if_pos c]at q ⊢;exact ⟨.str z,H,I,⟨t,rfl⟩,q⟩
 ·rw[if_neg c]at q hl ⊢;exact ⟨hl,.str _,H,I.tok _,⟨_,rfl⟩,q⟩
end L2
namespace Att
open PySem PySem.W PySem.Calls PyProof.Rows
section
variable {prog:Program}{w:World}{A:Around}{E:Value->Shared->Prop}{s:Shared}{K:Frag}
end
end Att
namespace L2
open PySem PySem.Spec PyProof.Rows
def inClass (s:Stmt)(j:Nat):Stmt:=match s with
 | .ClassDef _ _ _ body _ _ _ _ _ _ _=>body.getD j (.Pass ⟨0,0,0,0⟩)
 |_=> .Pass ⟨0,0,0,0⟩
def Fu (s:Stmt):Arguments:=match s with
 | .FunctionDef _ a _ _ _ _ _ _ _ _=>a
 |_=>{ posonlyargs:= [],args:= [],vararg:=none,kwonlyargs:= [],kw_defaults:= [],kwarg:=none,defaults:= [] }
def E4 (s:Stmt):List Stmt:=match s with
 | .FunctionDef _ _ b _ _ _ _ _ _ _=>b
 |_=> []
def AO (s:Stmt):Scope:=match s with
 | .FunctionDef _ _ _ _ _ _ sc _ _ _=>sc
 |_=>{ kind:= .function,names:= [],isGenerator:=false,isCoroutine:=false }
abbrev As:lZ:=fun _ _ _ _ _ _=>False
abbrev E0:XK:=fun _ _ _=>False
theorem AU {X:Cx}:Iv As X E0:=fun _ _ _ _ _ _ _ h=>h.elim
structure CB (K:PySem.W.Frag)(x qual:Str)(st:Stmt)(f:Addr)(fd:FuncData):Prop where
 ex:∃(oc:Value) (od:Option Addr) (kV doc pm:Value) (an:Option Addr) (BM ct:Value) (SR:Array (Option Value)),
  fd=fnOf x qual (Fu st) (E4 st) (AO st) .none kV doc pm an BM ct/\K.lookup f=some ⟨oc,od,.func fd,SR⟩/\codeIn K BM qual=true
 kp:keepIn K (.ref f)=true
section
variable {P:Program}{w:World}{K:PySem.W.Frag}{mg:Str->Option Value}{base:Heap}
theorem CB.ok {x qual:Str}{st:Stmt}{f:Addr}{fd:FuncData}{N ps:List Str}{k:Nat}{sp:Sp}(F:CB K x qual st f fd)(S:AT N ps (AO st))(len:∀vs H Q E,sp vs H Q E->vs.length=ps.length)
  (qA:∀(BM:Value) (A:Around) (outer:List Env) (s:Shared) (H:Hp) (vs:List V) (Q:VK) (E:XK),Aq k (A.deeper (envOfC qual (AO st) s.heap.objs.size f BM))->sp vs H Q E->
   ∃t,lX (lB As P w K mg base N qual (AO st) f BM A outer s H E).nox (E4 st) t/\t { nx:=fun _ H'=>Q .Bo H',rt:=Q } (start N vs) H):AR P w K mg base As (k+1) f fd ps sp:=by
 obtain ⟨oc,od,kV,doc,pm,an,BM,ct,SR,rfl,lk,aw⟩:=F.ex;refine ABX lk aw S len fun A outer s H vs Q E hr YB=>?_;obtain ⟨t,h,q⟩:=qA BM A outer s H vs Q E hr YB;exact ⟨t,h.nox,q⟩
theorem CB.binds {x qual:Str}{st:Stmt}{f:Addr}{fd:FuncData}{ps:List Str}(F:CB K x qual st f fd)
  (h:∀(kV doc pm:Value) (an:Option Addr) (BM ct:Value) (us:List Value),us.length=ps.length->bindArgs (fnOf x qual (Fu st) (E4 st) (AO st) .none kV doc pm an BM ct) ⟨us,[]⟩=pure (ps.zip us)):Binds K fd ps []:=by
 obtain ⟨oc,od,kV,doc,pm,an,BM,ct,SR,rfl,lk,aw⟩:=F.ex;exact .all (h kV doc pm an BM ct)
theorem qI {x qual:Str}{st:Stmt}{f:Addr}{oc:Value}{od an:Option Addr}{SR:Array (Option Value)}{kV doc pm BM ct:Value}(l:K.lookup f=some ⟨oc,od,.func (fnOf x qual (Fu st) (E4 st) (AO st) .none kV doc pm an BM ct),SR⟩)
  (c:codeIn K BM qual=true) (k:keepIn K (.ref f)=true):CB K x qual st f (fnOf x qual (Fu st) (E4 st) (AO st) .none kV doc pm an BM ct):=⟨⟨oc,od,kV,doc,pm,an,BM,ct,SR,rfl,l,c⟩,k⟩
theorem N7 {A:Around}{k:Nat}(hr:Aq k A):A.units+1<cLine:=Nat.lt_of_le_of_lt (Nat.add_le_add_left (by decide:1<=64) _) hr.units
end
section
variable {X:Cx}
theorem pv (i:Nat){x:Str}{pos:Pos}(hN:X.N[i]? =some x:=by rfl)(hv:yt X.env.scope x:=by first | exact Or.inl rfl | exact Or.inr (Or.inl rfl) | exact Or.inr (Or.inr rfl))(hd:(x==("__debug__":Str))=false:=by decide)
  (aw:(x==("__classdict__":Str))=false:=by decide):PE X (.Name x pos) (ZC i):=nv hN hv hd aw
end
theorem B1 {A B:Prop}(h:B):if false=true then A else B:=by
 rw[if_neg Bool.false_ne_true];exact h
theorem CJ {A B:Prop}(h:A):if true=true then A else B:=by
 rw[if_pos rfl];exact h
theorem BG {c A B:Prop}[Decidable c](h1:c->A)(h2:¬ c->B):if c then A else B:=by
 by_cases h:c
 ·rw[if_pos h];exact h1 h
 ·rw[if_neg h];exact h2 h
def AW (H H':Hp):Prop:=∀b o,H b=some o->H' b=some o
theorem AW.refl (H:Hp):AW H H:=fun _ _ h=>h
theorem AW.trans {H H1 H2:Hp}(a:AW H H1)(b:AW H1 H2):AW H H2:=fun c o h=>b c o (a c o h)
theorem AW.free {H H':Hp}(e:AW H H'){l:Addr}(h:H' l=Option.none):H l=Option.none:=by
 cases q:H l with
 |none=>rfl
 |some o=>
  rw[e l o q]at h;cases h
theorem AW.seq {K:PySem.W.Frag}{H H':Hp}{a:Addr}{xs:List V}(e:AW H H')(h:Ao K H a xs):Ao K H' a xs:=by
 rcases h with (h | ⟨o,h⟩) | h
 ·exact .inl (.inl (e _ _ h))
 ·exact .inl (.inr ⟨o,e _ _ h⟩)
 ·exact .inr h
section
variable {κ:Type}[DecidableEq κ]
theorem Y2 {AV:List (κ×V)}{k:κ}(h:C3 AV k=none):¬ k∈AV.map (·.1):=by
 intro m;obtain ⟨p,hp,e⟩:=mem_map.mp m;have q:(AV.any fun kv=>decide (kv.1=k))=true:=any_eq_true.mpr ⟨p,hp,decide_eq_true e⟩;rw[E6,h]at q;exact absurd q (by simp)
theorem fS {AV:List (κ×V)}{k:κ}{v:V}(h:C3 AV k=some v):k∈AV.map (·.1):=by
 have q:(AV.any fun kv=>decide (kv.1=k))=true:=by
  rw[E6,h]
  all_goals rfl
 obtain ⟨p,hp,e⟩:=any_eq_true.mp q;exact mem_map.mpr ⟨p,hp,of_decide_eq_true e⟩
theorem gI:∀{l:List κ} {k:κ},l.Nodup->¬ k∈l->(l ++ [k]).Nodup
 | [],k,_,_=>by simp
 |a::r,k,h,hk=>by
  obtain ⟨h1,h2⟩:=nodup_cons.mp h;show (a::(r ++ [k])).Nodup;refine nodup_cons.mpr ⟨fun m=>?_,gI h2 fun m=>hk (mem_cons.mpr (Or.inr m))⟩;rcases mem_append.mp m with q | q
  ·exact h1 q
  ·exact hk (mem_cons.mpr (Or.inl (List.mem_singleton.mp q).symm))
theorem uA {AV:List (κ×V)}{k:κ}(v:V)(hn:(AV.map (·.1)).Nodup)(h:C3 AV k=none):((putK AV k v).map (·.1)).Nodup:=by
 rw[nj v h,map_append];exact gI hn (Y2 h)
end
theorem at_of {xs:List V}{z:Int}{j:Nat}{v:V}(e:z=(j:Int))(h:xs[j]? =some v):rG xs z=some v:=by
 rw[e];exact Iq h
theorem gJ {α:Type}{l:List α}(hN:l.Nodup){i j:Nat}{x:α}(a:l[i]? =some x)(b:l[j]? =some x):i=j:=by
 obtain ⟨h1,e1⟩:=List.getElem?_eq_some_iff.mp a;obtain ⟨h2,e2⟩:=List.getElem?_eq_some_iff.mp b;exact (List.getElem_inj hN).mp (e1.trans e2.symm)
theorem AW.made {H H1:Hp}{x dx C:Addr}(nx:H x=Option.none)(nd:H dx=Option.none)(k:∀b o,(upd (upd H dx (.own x)) x (.ins C dx [])) b=some o->b≠x->H1 b=some o):AW H H1:=fun b o e=>
 k b o (by rw[AI (AH e nx),AI (AH e nd)];exact e) (AH e nx)
end L2
section
set_option maxRecDepth 100000
set_option maxHeartbeats 2000000
namespace L2
open PySem PySem.Spec PyProof.Rows
open PySem.W (WData Codec OpenSpec Well WellAll ReadsW ReadsAllW)
mutual
inductive Dw (K:PySem.W.Frag)(H:Hp):V->WData->Prop
 |Bo:Dw K H .Bo .none
 |bl (b:Bool):Dw K H (.bl b) (.bool b)
 |int (i:Int):Dw K H (.int i) (.int i)
 |str (x:Str):Dw K H (.str x) (.str x)
 |Ye (b:Array UInt8):Dw K H (.Ye b) (.bytes b.toList)
 |lst {a:Addr} {xs:List V} {ds:List WData}:Ao K H a xs->JT K H xs ds->Dw K H (.ref a) (.list ds)
 |tup {a:Addr} {xs:List V} {ds:List WData}:Gi K H a xs->JT K H xs ds->Dw K H (.ref a) (.tuple ds)
inductive JT (K:PySem.W.Frag)(H:Hp):List V->List WData->Prop
 |nil:JT K H [] []
 |cons {v:V} {vs:List V} {d:WData} {ds:List WData}:Dw K H v d->JT K H vs ds->JT K H (v::vs) (d::ds)
end
theorem gq {K:PySem.W.Frag}{H:Hp}:∀ns:List Int,JT K H (ns.map V.int) (ns.map WData.int)
 | []=> .nil
 |n::r=> .cons (.int n) (gq r)
theorem gU {K:PySem.W.Frag}{H:Hp}:∀(ns:List Int) (xs:List V),JT K H xs (ns.map WData.int)->xs=ns.map V.int
 | [],xs,h=>by
  cases h;rfl
 |n::r,xs,h=>by
  cases h with
  |cons h1 h2=>
   cases h1;rw[gU r _ h2] <;> rfl
section
variable {P:Program}{w:World}{K:PySem.W.Frag}{H:Hp}{h:Heap}{R:PySem.W.WRecords}{cl:Str->Option Addr}
theorem xH {a:Addr}{xs:List V}(BL:Kn P w H h)(KX:K.In h)(q:Ao K H a xs):∃(A1:List Value) (o:Obj) (n:Nat),Vals xs A1/\h.get? a=some o/\o.cls= .type "list"/\o.data= .seq A1.toArray n:=by
 rcases q with q | ⟨o,A1,n,e,hc,_,hd,_,hv⟩
 ·obtain ⟨_,A1,n,hv,e⟩:=(show C1 P w H h a (.lst xs)from q.ok BL);exact ⟨A1,_,n,hv,e,rfl,rfl⟩
 ·exact ⟨A1.toList,o,n,hv,KX _ _ e,hc,by simp[hd]⟩
theorem xG {a:Addr}{xs:List V}(BL:Kn P w H h)(KX:K.In h)(q:Gi K H a xs):∃(A1:List Value) (o:Obj) (n:Nat),Vals xs A1/\h.get? a=some o/\o.cls= .type "tuple"/\o.data= .seq A1.toArray n:=by
 rcases q with q | ⟨o,A1,n,e,hc,hd,_,hv⟩
 ·obtain ⟨_,A1,hv,o,e,hc,n,hd⟩:=(show C1 P w H h a (.tup xs)from q.ok BL);exact ⟨A1,o,n,hv,e,hc,hd⟩
 ·exact ⟨A1.toList,o,n,hv,KX _ _ e,hc,by simp[hd]⟩
mutual
theorem Dw.reads (BL:Kn P w H h)(KX:K.In h):∀(d:WData) (v:V) (u:Value),Dw K H v d->RelV v u->∃as,ReadsW R cl h u d as
 | .none,_,_,x,r=>by
  cases x;cases r;exact ⟨_,ReadsW.none⟩
 | .bool b,_,_,x,r=>by
  cases x;cases r;exact ⟨_,ReadsW.bool b⟩
 | .int i,_,_,x,r=>by
  cases x;obtain ⟨t,rfl⟩:=r;exact ⟨_,ReadsW.int i t⟩
 | .str s,_,_,x,r=>by
  cases x;obtain ⟨t,rfl⟩:=r;exact ⟨_,ReadsW.str s t⟩
 | .bytes b,_,_,x,r=>by
  cases x;obtain ⟨t,rfl⟩:=r;exact ⟨_,ReadsW.bytes _ t⟩
 | .list ds,_,_,x,r=>by
  cases x with
  |lst hs ha=>
   cases r;obtain ⟨A1,o,n,rv,ho,hc,hd⟩:=xH BL KX hs;obtain ⟨as,hr⟩:=Dw.readsAll BL KX ds _ A1 ha rv;exact ⟨_,ReadsW.list ho hc hd hr⟩
 | .tuple ds,_,_,x,r=>by
  cases x with
  |tup hs ha=>
   cases r;obtain ⟨A1,o,n,rv,ho,hc,hd⟩:=xG BL KX hs;obtain ⟨as,hr⟩:=Dw.readsAll BL KX ds _ A1 ha rv;exact ⟨_,ReadsW.tuple ho hc hd hr⟩
 | .float _,_,_,x,_=>by cases x
 | .dict _,_,_,x,_=>by cases x
 | .bytearray _,_,_,x,_=>by cases x
 | .set _,_,_,x,_=>by cases x
 | .frozenset _,_,_,x,_=>by cases x
 | .obj _ _,_,_,x,_=>by cases x
theorem Dw.readsAll (BL:Kn P w H h)(KX:K.In h):∀(ds:List WData) (vs:List V) (us:List Value),JT K H vs ds->Vals vs us->∃as,ReadsAllW R cl h us ds as
 | [],_,_,x,r=>by
  cases x;cases r;exact ⟨_,ReadsAllW.nil⟩
 |d::ds,_,_,x,r=>by
  cases x with
  |cons h1 h2=>
   cases r with
   |cons r1 r2=>
    obtain ⟨as,q1⟩:=Dw.reads BL KX d _ _ h1 r1;obtain ⟨bs,q2⟩:=Dw.readsAll BL KX ds _ _ h2 r2;exact ⟨_,ReadsAllW.cons q1 q2⟩
end
mutual
def fu:WData->Bool
 | .none=>true
 | .bool _=>true
 | .int _=>true
 | .str _=>true
 | .bytes _=>true
 | .list xs=>Qi xs
 | .tuple xs=>Qi xs
 |_=>false
def Qi:List WData->Bool
 | []=>true
 |x::r=>fu x&&Qi r
end
theorem Zo {α:Type}{f:α->WData}(h:∀a,fu (f a)=true):∀l:List α,Qi (l.map f)=true
 | []=>rfl
 |x::r=>by
  show (fu (f x)&&Qi (r.map f))=true;rw[h x,Zo h r] <;> rfl
theorem KC:∀(c:Codec) (a:c.denote),fu (c.enc a)=true
 | .unit,_=>rfl
 | .bool,_=>rfl
 | .int _ _,_=>rfl
 | .nat _ _,_=>rfl
 | .u8,_=>rfl
 | .bytes _ _,_=>rfl
 | .text _ _ _ _,_=>rfl
 | .list _ _ c,a=>Zo (fun x=>KC c x) a
 | .pair c d,a=>by
  show (fu (c.enc a.1)&&(fu (d.enc a.2)&&true))=true;rw[KC c a.1,KC d a.2] <;> rfl
 | .triple c d e,a=>by
  show (fu (c.enc a.1)&&(fu (d.enc a.2.1)&&(fu (e.enc a.2.2)&&true)))=true;rw[KC c a.1,KC d a.2.1,KC e a.2.2] <;> rfl
 | .option c,none=>rfl
 | .option c,some x=>KC c x
theorem V9:∀(cs:List Codec) (a:Codec.denoteAll cs),Qi (Codec.encAll cs a)=true
 | [],_=>rfl
 |c::cs,a=>by
  show (fu (c.enc a.1)&&Qi (Codec.encAll cs a.2))=true;rw[KC c a.1,V9 cs a.2] <;> rfl
theorem L8:∀{xs:List WData} {d:WData},d∈xs->d.weight<=WData.weightAll xs
 | [],d,h=>absurd h (by simp)
 |x::r,d,h=>by
  show d.weight<=x.weight+1+WData.weightAll r;rcases mem_cons.mp h with e | m
  ·rw[e];omega
  ·have z:=L8 m;omega
def toV:Value->V
 | .none=> .Bo
 | .bool b=> .bl b
 | .int i _=> .int i
 | .str x _=> .str x
 | .bytes b _=> .Ye b
 | .ref a=> .ref a
 |_=> .Bo
def lY (A:List Addr):Value->Prop
 | .none=>True
 | .bool _=>True
 | .int _ _=>True
 | .str _ _=>True
 | .bytes _ _=>True
 | .ref a=>a∈A
 |_=>False
theorem lY.mono {A B:List Addr}(h:∀a∈A,a∈B):∀{u:Value},lY A u->lY B u:=fun {u} x=>by
 cases u with
 |ref a=>exact h a x
 |none=>trivial
 |bool b=>trivial
 |int i t=>trivial
 |str s t=>trivial
 |bytes b t=>trivial
 |_=>exact False.elim x
theorem nQ {A:List Addr}{u:Value}(x:lY A u):RelV (toV u) u:=by
 cases u with
 |ref a=>rfl
 |none=>rfl
 |bool b=>rfl
 |int i t=>exact ⟨t,rfl⟩
 |str s t=>exact ⟨t,rfl⟩
 |bytes b t=>exact ⟨t,rfl⟩
 |_=>exact False.elim x
theorem HU {A:List Addr}:∀{vs:List Value},(∀u∈vs,lY A u)->Vals (vs.map toV) vs
 | [],_=> .nil
 |u::r,h=> .cons (nQ (h u (mem_cons_self ..))) (HU fun x hx=>h x (mem_cons_of_mem _ hx))
def JU (h:Heap)(A:List Addr)(a:Addr):Prop:=∃vs:List Value,vs.length<=sizeLine/\(∀u∈vs,lY A u)/\
 (h.get? a=some { cls:= .type "list",data:= .seq vs.toArray }\/h.get? a=some { cls:= .type "tuple",data:= .seq vs.toArray })
theorem JU.mono {h:Heap}{A B:List Addr}{a:Addr}(k:∀a∈A,a∈B)(x:JU h A a):JU h B a:=by
 obtain ⟨vs,h1,h2,h3⟩:=x;exact ⟨vs,h1,fun u hu=>(h2 u hu).mono k,h3⟩
theorem Gj {P:Params}{h:Heap}:∀{vs:List Value} {ds:List WData},WellAll P h vs ds->vs.length=ds.length
 |_,_,.nil=>rfl
 |_,_,.cons _ b=>by
  show _+1=_+1;rw[Gj b]
theorem Vc {P:Params}{h:Heap}{v:Value}{ds:List WData}(x:Well P h v (.list ds)):∃(a:Addr) (vs:List Value),v= .ref a/\h.get? a=some { cls:= .type "list",data:= .seq vs.toArray }/\WellAll P h vs ds:=by
 cases x with
 |list ho Gh=>exact ⟨_,_,rfl,ho,Gh⟩
theorem RM {P:Params}{h:Heap}{v:Value}{ds:List WData}(x:Well P h v (.tuple ds)):∃(a:Addr) (vs:List Value),v= .ref a/\h.get? a=some { cls:= .type "tuple",data:= .seq vs.toArray }/\WellAll P h vs ds:=by
 cases x with
 |tuple ho Gh=>exact ⟨_,_,rfl,ho,Gh⟩
theorem Vd {P:Params}{h:Heap}{us:List Value}{d:WData}{ds:List WData}(x:WellAll P h us (d::ds)):∃(v:Value) (vs:List Value),us=v::vs/\Well P h v d/\WellAll P h vs ds:=by
 cases x with
 |cons a b=>exact ⟨_,_,rfl,a,b⟩
theorem gN {n:Nat}(h:n<=1048576):n<=sizeLine:=Nat.le_trans h (by decide)
end
section
variable {P:Params}{h:Heap}
mutual
theorem rH:∀(d:WData) (v:Value),Well P h v d->fu d=true->d.weight<=1048576->∃A:List Addr,lY A v/\∀a∈A,JU h A a
 | .none,_,x,_,_=>by
  cases x;exact ⟨[],trivial,fun a m=>absurd m (by simp)⟩
 | .bool b,_,x,_,_=>by
  cases x;exact ⟨[],trivial,fun a m=>absurd m (by simp)⟩
 | .int i,_,x,_,_=>by
  cases x;exact ⟨[],trivial,fun a m=>absurd m (by simp)⟩
 | .str s,_,x,_,_=>by
  cases x;exact ⟨[],trivial,fun a m=>absurd m (by simp)⟩
 | .bytes b,_,x,_,_=>by
  cases x;exact ⟨[],trivial,fun a m=>absurd m (by simp)⟩
 | .list ds,_,x,p,z=>by
  obtain ⟨a,vs,rfl,ho,Gh⟩:=Vc x;have z2:WData.weightAll ds<=1048576:=z;obtain ⟨A,h1,h2⟩:=OO ds _ Gh p fun d hd=>Nat.le_trans (L8 hd) z2;have k:∀b∈A,b∈a::A:=fun b hb=>mem_cons_of_mem _ hb;refine ⟨a::A,mem_cons_self ..,fun b hb=>?_⟩;rcases mem_cons.mp hb with e | m
  ·rw[e];exact ⟨vs,gN (by rw[Gj Gh];exact Nat.le_trans (PySem.W.length_le_weightAllW ds) z2),fun u hu=>(h1 u hu).mono k,.inl ho⟩
  ·exact (h2 b m).mono k
 | .tuple ds,_,x,p,z=>by
  obtain ⟨a,vs,rfl,ho,Gh⟩:=RM x;have z2:WData.weightAll ds<=1048576:=z;obtain ⟨A,h1,h2⟩:=OO ds _ Gh p fun d hd=>Nat.le_trans (L8 hd) z2;have k:∀b∈A,b∈a::A:=fun b hb=>mem_cons_of_mem _ hb;refine ⟨a::A,mem_cons_self ..,fun b hb=>?_⟩;rcases mem_cons.mp hb with e | m
  ·rw[e];exact ⟨vs,gN (by rw[Gj Gh];exact Nat.le_trans (PySem.W.length_le_weightAllW ds) z2),fun u hu=>(h1 u hu).mono k,.inr ho⟩
  ·exact (h2 b m).mono k
 | .float _,_,_,p,_=>Bool.noConfusion (show false=true from p)
 | .dict _,_,_,p,_=>Bool.noConfusion (show false=true from p)
 | .bytearray _,_,_,p,_=>Bool.noConfusion (show false=true from p)
 | .set _,_,_,p,_=>Bool.noConfusion (show false=true from p)
 | .frozenset _,_,_,p,_=>Bool.noConfusion (show false=true from p)
 | .obj _ _,_,_,p,_=>Bool.noConfusion (show false=true from p)
theorem OO:∀(ds:List WData) (vs:List Value),WellAll P h vs ds->Qi ds=true->(∀d∈ds,d.weight<=1048576)->∃A:List Addr,(∀u∈vs,lY A u)/\∀a∈A,JU h A a
 | [],_,x,_,_=>by
  cases x;exact ⟨[],fun u m=>absurd m (by simp),fun a m=>absurd m (by simp)⟩
 |d::ds,_,x,p,z=>by
  obtain ⟨v,vs,rfl,x1,x2⟩:=Vd x;have q:fu d=true/\Qi ds=true:=Bool.and_eq_true_iff.mp p;obtain ⟨A,a1,a2⟩:=rH d v x1 q.1 (z d (mem_cons_self ..));obtain ⟨B,b1,b2⟩:=OO ds vs x2 q.2 fun e he=>z e (mem_cons_of_mem _ he);have kA:∀b∈A,b∈A++B:=fun b hb=>mem_append.mpr (.inl hb);have kB:∀b∈B,b∈A++B:=fun b hb=>mem_append.mpr (.inr hb);refine ⟨A++B,fun u hu=>?_,fun b hb=>?_⟩
  ·rcases mem_cons.mp hu with e | m
   ·rw[e];exact a1.mono kA
   ·exact (b1 u m).mono kB
  ·rcases mem_append.mp hb with m | m
   ·exact (a2 b m).mono kA
   ·exact (b2 b m).mono kB
end
end
def ul (o:Obj):Option HO:=match o.data with
 | .seq vs _=>if (o.cls==Value.type "list")=true then some (.EA o (.lst (vs.toList.map toV)))else some (.EA o (.tup (vs.toList.map toV)))
 |_=>none
def Ir (K:PySem.W.Frag)(h:Heap)(A:List Addr):Hp:=fun b=>if b∈A then (if (K.lookup b).isNone=true then (h.get? b).bind ul else none)else none
def bu (H:Hp):Prop:=∀b,H b=none\/∃o u,H b=some (.EA o u)
theorem al (vs:List Value):ul { cls:= .type "list",data:= .seq vs.toArray }=some (.EA { cls:= .type "list",data:= .seq vs.toArray } (.lst (vs.map toV))):=by
 show (if (Value.type "list"==Value.type "list")=true then some (HO.EA { cls:= .type "list",data:= .seq vs.toArray } (.lst (vs.toArray.toList.map toV)))else some (HO.EA { cls:= .type "list",data:= .seq vs.toArray } (.tup (vs.toArray.toList.map toV))))=_;rw[if_pos (beq_self_eq_true _)]
theorem ak (vs:List Value):ul { cls:= .type "tuple",data:= .seq vs.toArray }=some (.EA { cls:= .type "tuple",data:= .seq vs.toArray } (.tup (vs.map toV))):=by
 show (if (Value.type "tuple"==Value.type "list")=true then some (HO.EA { cls:= .type "tuple",data:= .seq vs.toArray } (.lst (vs.toArray.toList.map toV)))else some (HO.EA { cls:= .type "tuple",data:= .seq vs.toArray } (.tup (vs.toArray.toList.map toV))))=_;rw[if_neg (by decide)]
section
variable {P:Program}{w:World}{K:PySem.W.Frag}{h:Heap}{A:List Addr}
theorem RL {b:Addr}{o:Obj}(hb:b∈A)(hk:K.lookup b=none)(e:h.get? b=some o):Ir K h A b=ul o:=by
 unfold Ir;rw[if_pos hb,hk,if_pos (show (none:Option Obj).isNone=true from rfl),e] <;> rfl
theorem tV {b:Addr}{u:HO}(q:Ir K h A b=some u):b∈A/\K.lookup b=none:=by
 unfold Ir at q;by_cases hb:b∈A
 ·rw[if_pos hb]at q;cases hk:K.lookup b with
  |none=>exact ⟨hb,rfl⟩
  |some o=>
   rw[hk,if_neg (by simp)]at q;cases q
 ·rw[if_neg hb]at q;cases q
theorem RK (ar:∀a∈A,JU h A a){b:Addr}{u:HO}(q:Ir K h A b=some u):K.lookup b=none/\∃vs:List Value,vs.length<=sizeLine/\(∀u∈vs,lY A u)/\
  ((h.get? b=some { cls:= .type "list",data:= .seq vs.toArray }/\u= .EA { cls:= .type "list",data:= .seq vs.toArray } (.lst (vs.map toV)))\/
   (h.get? b=some { cls:= .type "tuple",data:= .seq vs.toArray }/\u= .EA { cls:= .type "tuple",data:= .seq vs.toArray } (.tup (vs.map toV)))):=by
 obtain ⟨hb,hk⟩:=tV q;obtain ⟨vs,h1,h2,h3⟩:=ar b hb;refine ⟨hk,vs,h1,h2,?_⟩;rcases h3 with e | e
 ·rw[RL hb hk e,al]at q;exact .inl ⟨e,(Option.some.inj q).symm⟩
 ·rw[RL hb hk e,ak]at q;exact .inr ⟨e,(Option.some.inj q).symm⟩
theorem lT (ar:∀a∈A,JU h A a):bu (Ir K h A):=fun b=>by
 cases q:Ir K h A b with
 |none=>exact .inl rfl
 |some u=>
  obtain ⟨_,vs,_,_,⟨_,e⟩ | ⟨_,e⟩⟩:=RK ar q
  ·exact .inr ⟨_,_,by rw[e]⟩
  ·exact .inr ⟨_,_,by rw[e]⟩
theorem vk (ar:∀a∈A,JU h A a):Kn P w (Ir K h A) h:=fun b u q=>by
 obtain ⟨_,vs,h1,h2,⟨e,rfl⟩ | ⟨e,rfl⟩⟩:=RK ar q
 ·exact ⟨e,by rw[length_map];exact h1,vs,_,HU h2,e⟩
 ·exact ⟨e,by rw[length_map];exact h1,vs,HU h2,_,e,rfl,_,rfl⟩
theorem RD {c c':Value}{vs us:List Value}(e:(some { cls:=c,data:= .seq vs.toArray }:Option Obj)=some { cls:=c',data:= .seq us.toArray }):c=c'/\vs=us:=by
 have e1:=Option.some.inj e;have e2:c=c':=congrArg Obj.cls e1;have e3:Data.seq vs.toArray=Data.seq us.toArray:=congrArg Obj.data e1;injection e3 with e4
 refine ⟨e2,?_⟩;have e5:=congrArg toList e4;simpa using e5
theorem AE8 (KX:K.In h)(ar:∀a∈A,JU h A a){a:Addr}{vs:List Value}(ha:a∈A)(e:h.get? a=some { cls:= .type "list",data:= .seq vs.toArray }):(∀u∈vs,lY A u)/\Ao K (Ir K h A) a (vs.map toV):=by
 obtain ⟨us,h1,h2,h3⟩:=ar a ha;have hu:us=vs:=by
  rcases h3 with q | q
  ·rw[e]at q;exact (RD q).2.symm
  ·rw[e]at q;exact absurd (Value.type.inj (RD q).1) (by decide)
 subst hu;refine ⟨h2,?_⟩;cases hk:K.lookup a with
 |none=>exact .inl (.inr ⟨_,by rw[RL ha hk e,al]⟩)
 |some o=>
  have e2:=KX a o hk;rw[e]at e2;obtain rfl:=Option.some.inj e2;exact .inr ⟨_,us.toArray,_,hk,rfl,rfl,rfl,by rw[size_toArray];exact h1,by simpa using HU h2⟩
theorem AE7 (KX:K.In h)(ar:∀a∈A,JU h A a){a:Addr}{vs:List Value}(ha:a∈A)(e:h.get? a=some { cls:= .type "tuple",data:= .seq vs.toArray }):(∀u∈vs,lY A u)/\Gi K (Ir K h A) a (vs.map toV):=by
 obtain ⟨us,h1,h2,h3⟩:=ar a ha;have hu:us=vs:=by
  rcases h3 with q | q
  ·rw[e]at q;exact absurd (Value.type.inj (RD q).1) (by decide)
  ·rw[e]at q;exact (RD q).2.symm
 subst hu;refine ⟨h2,?_⟩;cases hk:K.lookup a with
 |none=>exact .inl (.inr ⟨_,by rw[RL ha hk e,ak]⟩)
 |some o=>
  have e2:=KX a o hk;rw[e]at e2;obtain rfl:=Option.some.inj e2;exact .inr ⟨_,us.toArray,_,hk,rfl,rfl,by rw[size_toArray];exact h1,by simpa using HU h2⟩
mutual
theorem yg {Pm:Params}(KX:K.In h)(ar:∀a∈A,JU h A a):∀(d:WData) (v:Value),Well Pm h v d->fu d=true->lY A v->Dw K (Ir K h A) (toV v) d
 | .none,_,x,_,_=>by
  cases x;exact .Bo
 | .bool b,_,x,_,_=>by
  cases x;exact .bl b
 | .int i,_,x,_,_=>by
  cases x;exact .int i
 | .str s,_,x,_,_=>by
  cases x;exact .str s
 | .bytes b,_,x,_,_=>by
  cases x;have z:=Dw.Ye (K:=K) (H:=Ir K h A) b.toArray;exact z
 | .list ds,_,x,p,hu=>by
  obtain ⟨a,vs,rfl,ho,Gh⟩:=Vc x;obtain ⟨h2,hs⟩:=AE8 KX ar hu ho;exact .lst hs (YS KX ar ds _ Gh p h2)
 | .tuple ds,_,x,p,hu=>by
  obtain ⟨a,vs,rfl,ho,Gh⟩:=RM x;obtain ⟨h2,hs⟩:=AE7 KX ar hu ho;exact .tup hs (YS KX ar ds _ Gh p h2)
 | .float _,_,_,p,_=>Bool.noConfusion (show false=true from p)
 | .dict _,_,_,p,_=>Bool.noConfusion (show false=true from p)
 | .bytearray _,_,_,p,_=>Bool.noConfusion (show false=true from p)
 | .set _,_,_,p,_=>Bool.noConfusion (show false=true from p)
 | .frozenset _,_,_,p,_=>Bool.noConfusion (show false=true from p)
 | .obj _ _,_,_,p,_=>Bool.noConfusion (show false=true from p)
theorem YS {Pm:Params}(KX:K.In h)(ar:∀a∈A,JU h A a):∀(ds:List WData) (vs:List Value),WellAll Pm h vs ds->Qi ds=true->(∀u∈vs,lY A u)->JT K (Ir K h A) (vs.map toV) ds
 | [],_,x,_,_=>by
  cases x;exact .nil
 |d::ds,_,x,p,hu=>by
  obtain ⟨v,vs,rfl,x1,x2⟩:=Vd x;have q:fu d=true/\Qi ds=true:=Bool.and_eq_true_iff.mp p;exact .cons (yg KX ar d v x1 q.1 (hu _ (mem_cons_self ..))) (YS KX ar ds vs x2 q.2 fun u m=>hu u (mem_cons_of_mem _ m))
end
theorem jC {P:Program}{w:World}{K:PySem.W.Frag}{mg mb:Str->Option Value}{CX:lZ}{k:Nat}{fa:Addr}{fd:FuncData}{ps:List Str}{sp:Sp}{Bq:Shared}{vals:List Value}{ds:List WData}{R:PySem.W.WRecords}{cl:Str->Option Addr}{d0:WData}
  (KX:K.In Bq.heap) (hns:Bq.heap.Ns mainGlobals mg) (hb:Bq.heap.Ns builtinsNs mb) (hbb:∀x:Str,x≠"__name__"->mb x=bootBuiltins x) (AEI:Bq.heap.NoLimit) (hg:Bq.gens= #[])
  (hwl:WellAll w.params Bq.heap vals ds) (Mx:Qi ds=true) (hwt:∀d∈ds,d.weight<=1048576) (hr:Aq k callerA)
  (F:∀base:Heap,K.In base->base.Ns mainGlobals mg->AR P w K mg base CX k fa fd ps sp) (ABN:∀(s:Shared) (us:List Value),us.length=ps.length->BindsTo s fd ⟨us,[]⟩ (ps.zip us)) (hlen:ds.length=ps.length)
  (YB:∀(H:Hp) (xs:List V),bu H->JT K H xs ds->sp xs H (fun v H'=>Dw K H' v d0) fun _ _ _=>False)
  (hCX:∀H e s',CX [] H Bq (fun _ _ _=>False) e s'->False):
  codeAny (model P w) callerA (.call (.ref fa) ⟨vals,[]⟩) (fun r s'=>∃u as,r= .ok (.ret u)/\ReadsW R cl s'.heap u d0 as/\OldK Bq.heap s'.heap/\s'.os=Bq.os/\AllBare s'.gens) Bq:=by
 obtain ⟨A,ho,ar⟩:=OO ds vals hwl Mx hwt;have hO:bu (Ir K Bq.heap A):=lT ar;have BL:Kn P w (Ir K Bq.heap A) Bq.heap:=vk ar;have hS:=YS KX ar ds vals hwl Mx ho;have hV:=HU ho;have hK:∀b u,Ir K Bq.heap A b=some u->K.lookup b=none:=fun b u q=>(RK ar q).1;have y0:∀{b:Addr} {o:Obj} {es:Array DictEntry} {ep:Nat},Bq.heap.get? b=some o->o.data= .dict es ep->Ir K Bq.heap A b=none:=fun {b o es ep} e d=>by
  cases q:Ir K Bq.heap A b with
  |none=>rfl
  |some u=>
   obtain ⟨_,vs,_,_,⟨e2,_⟩ | ⟨e2,_⟩⟩:=RK ar q
   ·rw[e2]at e;cases e;have d':Data.seq vs.toArray _=Data.dict es ep:=d;cases d'
   ·rw[e2]at e;cases e;have d':Data.seq vs.toArray _=Data.dict es ep:=d;cases d'
 generalize Ir K Bq.heap A=H at hO BL hS hK y0;have hJ:∀{b:Addr} {o:Obj},Bq.heap.get? b=some o->H b=none->(YC Bq.heap H).get? b=some o:=fun e n=>pw e n;have nsK:∀{b:Addr} {m:Str->Option Value},Bq.heap.Ns b m->(YC Bq.heap H).Ns b m:=fun {b m} ⟨o,es,ep,e,d,r⟩=>⟨o,es,ep,hJ e (y0 e d),d,r⟩;have nK:∀b o,K.lookup b=some o->H b=none:=fun b o e=>by
  cases q:H b with
  |none=>rfl
  |some u=>
   rw[hK b u q]at e;cases e
 have hKb:K.In (YC Bq.heap H):=fun b o e=>hJ (KX b o e) (nK b o e);have hM:Mod K mg (YC Bq.heap H):=⟨hKb,nsK hns,⟨mb,nsK hb,hbb⟩,let ⟨mc,h1,h2⟩:=AEI;⟨mc,nsK h1,h2⟩⟩;have e0:fN P w K mg (YC Bq.heap H) callerA [] Bq H:=⟨rfl,hM,fun b o e=>tU e,Nat.le_of_eq (kE _ _),trivial,fun b hb=>absurd (show b∈([]:List Addr)from hb) (by simp),BL,.of_eq hg⟩;have hl:vals.length=ps.length:=by rw[Gj hwl];exact hlen
 refine codeAny_mono ((F _ hKb (nsK hns)).run callerA [] Bq H ⟨vals,[]⟩ vals (vals.map toV) _ _ hr e0 (ABN Bq vals hl) hV (YB H _ hO hS)) fun r s' x=>?_;cases r with
 |error e=>exact (hCX H e s' x).elim
 |ok fl=>
  cases fl with
  |next=>exact False.elim x
  |brk=>exact False.elim x
  |cont=>exact False.elim x
  |ret u=>
   isplit;obtain ⟨v,H',os,bare,un,AA6,r',q⟩:=x;kl_no;have kept:∀b o,Bq.heap.get? b=some o->s'.heap.get? b=some o:=fun b o e=>by
    cases q2:H b with
    |none=>exact un.keep b o e q2 (by intro z;exact absurd (show b∈([]:List Addr)from z) (by simp)) (by simp)
    |some u2=>
     rcases hO b with z | ⟨ob,u3,z⟩
     ·rw[q2]at z;cases z
     ·have z2:=un.Tv b ob _ z;obtain ⟨e1,_⟩:=BL b _ z;obtain ⟨e2,_⟩:=AA6 b _ z2;rw[e]at e1;cases e1;exact e2
   have KX':K.In s'.heap:=fun b o e=>kept b o (KX b o e);obtain ⟨as,hrd⟩:=Dw.reads (R:=R) (cl:=cl) AA6 KX' d0 v u q r';exact ⟨u,as,rfl,hrd,OldK.of_keep kept,os,bare⟩
theorem TU {ds:List WData}(h:WData.layableAll ds=true):∀d∈ds,d.weight<=1048576:=fun d hd=>
 (PySem.W.layableW_iff.mp (all_eq_true.mp h d hd)).2.2
theorem T7:∀(cs:List Codec) (a:Codec.denoteAll cs),(Codec.encAll cs a).length=cs.length
 | [],_=>rfl
 |c::cs,a=>by
  show (Codec.encAll cs a.2).length+1=cs.length+1;rw[T7 cs a.2]
theorem iP {r:OpenSpec}{k:Nat}{q:Program}{loose:List Str}{XP:(Str->Option Value)->Heap->Prop}{YP:World->Heap->Prop}{d:DefRec}{K:Params->PySem.W.Frag}{CX:World->lZ}{ps:List Str}{sp:World->Sp}
  (pS:r.wellSaid=true) (hdf:d.params.defaults=[]) (hlen:r.args.length=ps.length) (hr:Aq k callerA)
  (hY:∀(w:World) (h:Heap),YP w h->(K w.params).In h)
  (F:∀(w:World) (mg:Str->Option Value) (fa:Addr) (h:Heap),YP w h->(K w.params).In h->h.Ns mainGlobals mg->mg d.name=some (.ref fa)->
   ∃fd:FuncData,(∀(s:Shared) (us:List Value),us.length=ps.length->BindsTo s fd ⟨us,[]⟩ (ps.zip us))/\
    ∀base:Heap,(K w.params).In base->base.Ns mainGlobals mg->AR r.prog w (K w.params) mg base (CX w) k fa fd ps (sp w))
  (YB:∀(w:World) (H:Hp) (xs:List V) (a:Codec.denoteAll r.args),bu H->Codec.withinAll r.args a=true->Codec.app r.args r.asked a=true->JT (K w.params) H xs (Codec.encAll r.args a)->
   sp w xs H (fun v H'=>Dw (K w.params) H' v (r.ret.enc (Codec.app r.args r.f a))) fun _ _ _=>False)
  (hCX:∀(w:World) (H:Hp) (s:Shared) (e:Value) (s':Shared),CX w [] H s (fun _ _ _=>False) e s'->False):
  PySem.W.WalkOS q loose XP YP r d [] (fun f vs=>PySem.call f vs):=by
 intro w Vz Bq mg mb G Y fa o pm cd doc dV kV ho hd aw hD hmg hg args vals as AD3 AEL hrd hwl hlo;obtain ⟨a,e1,e2⟩:=PySem.W.os_pre_some AD3;obtain ⟨e3,hwi⟩:=Codec.encAll_of_decAll r.args args a e1;subst e3;have KX:=hY w _ Y;obtain ⟨fd,hb,hF⟩:=F w mg fa _ Y KX G.T.g hmg;refine PySem.W.enter_call (codeAny_mono (jC (R:= []) (cl:=classAt Vz.heap) (d0:=r.ret.enc (Codec.app r.args r.f a)) KX G.T.g G.T.b G.T.builtins G.T.nolimit hg hwl (V9 _ _) (TU AEL) hr hF hb (by rw[T7];exact hlen)
  (fun H xs hO hS=>YB w H xs a hO hwi e2 hS) fun H e s'=>hCX w H Bq e s') fun r' s' hq=>?_)
 obtain ⟨u,My,rfl,h1,h2,h3,h4⟩:=hq;exact ⟨.inl ⟨u,_,My,rfl,fun _=>rfl,h1,(OpenSpec.post_iff pS hwi _ _).mpr rfl,fun z=>Bool.noConfusion (show false=true from z)⟩,h2,h3,h4⟩
theorem cJ {r:OpenSpec}{k:Nat}{q:Program}{loose:List Str}{XP:(Str->Option Value)->Heap->Prop}{YP:World->Heap->Prop}{d:DefRec}{K:Params->PySem.W.Frag}{CX:lZ}{ps:List Str}{sp:PySem.W.Frag->Sp}
  (pS:r.wellSaid=true) (hdf:d.params.defaults=[]) (hlen:r.args.length=ps.length) (hr:Aq k callerA)
  (hY:∀(w:World) (h:Heap),YP w h->(K w.params).In h)
  (F:∀(w:World) (mg:Str->Option Value) (fa:Addr) (h:Heap),YP w h->(K w.params).In h->h.Ns mainGlobals mg->mg d.name=some (.ref fa)->
   ∃fd:FuncData,(∀(s:Shared) (us:List Value),us.length=ps.length->BindsTo s fd ⟨us,[]⟩ (ps.zip us))/\
    ∀base:Heap,(K w.params).In base->base.Ns mainGlobals mg->AR r.prog w (K w.params) mg base CX k fa fd ps (sp (K w.params)))
  (YB:∀(K:PySem.W.Frag) (H:Hp) (xs:List V) (a:Codec.denoteAll r.args),bu H->Codec.withinAll r.args a=true->Codec.app r.args r.asked a=true->JT K H xs (Codec.encAll r.args a)->
   sp K xs H (fun v H'=>Dw K H' v (r.ret.enc (Codec.app r.args r.f a))) fun _ _ _=>False)
  (hCX:∀(H:Hp) (s:Shared) (e:Value) (s':Shared),CX [] H s (fun _ _ _=>False) e s'->False):
  PySem.W.WalkOS q loose XP YP r d [] (fun f vs=>PySem.call f vs):=
 iP (K:=K) (CX:=fun _=>CX) (sp:=fun w=>sp (K w.params)) pS hdf hlen hr hY F (fun w H xs a h1 h2 h3 h4=>YB (K w.params) H xs a h1 h2 h3 h4) fun _ H s e s'=>hCX H s e s'
end
end L2
end
namespace Dj
open Vbdhae
def D9 (b:Nat):Bool:=b==32||b==46||b==10||isDigit b||isLetter b
def BD (b:Nat):Nat:=if D9 b=true then b else 63
theorem C4 {b:Nat}(h:D9 b=true):BD b=b:=by simp[BD,h]
theorem Ku {b:Nat}(h:D9 b=false):BD b=63:=by simp[BD,h]
theorem qG:D9 63=false:=by decide
theorem Rg {b s:Nat}(hs:D9 s=true):BD b=s↔b=s:=by
 cases h:D9 b with
 |true=>rw[C4 h]
 |false=>
  rw[Ku h];constructor
  ·intro e;subst e;rw[qG]at hs;cases hs
  ·intro e;subst e;rw[hs]at h;cases h
theorem Cp (sep:Nat):∀l,cutAt sep l≠ []
 | []=>by simp[cutAt]
 |c::r=>by
  have ih:=Cp sep r;unfold cutAt;cases h:cutAt sep r with
  |nil=>exact absurd h ih
  |cons w t=>simp only;split <;> simp
theorem Eu (sep c:Nat)(r w:Bytes)(t:List Bytes)(h:cutAt sep r=w::t):cutAt sep (c::r)=if c=sep then []::w::t else (c::w)::t:=by
 show (match cutAt sep r with | []=> [[]] | w::t=>if c=sep then []::w::t else (c::w)::t)=_;rw[h]
theorem Wp {f:Nat->Nat}{sep:Nat}(hf:∀b,f b=sep↔b=sep):∀l,cutAt sep (l.map f)=(cutAt sep l).map (map f)
 | []=>by simp[cutAt]
 |c::r=>by
  have ih:=Wp hf r;cases h:cutAt sep r with
  |nil=>exact absurd h (Cp sep r)
  |cons w t=>
   rw[h]at ih;rw[map_cons,Eu sep (f c) _ _ _ ih,Eu sep c r w t h];by_cases e:c=sep
   ·rw[if_pos e,if_pos ((hf c).mpr e)];simp
   ·rw[if_neg e,if_neg (fun q=>e ((hf c).mp q))];simp
def G4 (sep:Nat):Bytes->Bytes->List Bytes
 |acc,[]=> [acc]
 |acc,c::r=>if c=sep then acc::G4 sep [] r else G4 sep (acc ++ [c]) r
theorem MC (sep:Nat):∀(l acc w:Bytes) (t:List Bytes),cutAt sep l=w::t->G4 sep acc l=(acc++w)::t
 | [],acc,w,t,h=>by
  simp[cutAt]at h;obtain ⟨rfl,rfl⟩:=h;simp[G4]
 |c::r,acc,w,t,h=>by
  cases h':cutAt sep r with
  |nil=>exact absurd h' (Cp sep r)
  |cons w' t'=>
   rw[Eu sep c r w' t' h']at h;by_cases e:c=sep
   ·rw[if_pos e]at h;injection h with h1 h2
    subst h1 h2;simp only[G4,if_pos e,append_nil];rw[MC sep r [] w' t' h'];rfl
   ·rw[if_neg e]at h;injection h with h1 h2
    subst h1 h2;simp only[G4,if_neg e];rw[MC sep r (acc ++ [c]) w' t' h'];simp
theorem jB (sep:Nat)(l:Bytes):G4 sep [] l=cutAt sep l:=by
 cases h:cutAt sep l with
 |nil=>exact absurd h (Cp sep l)
 |cons w t=>rw[MC sep l [] w t h];rfl
def glue (sep:Nat):List Bytes->Bytes
 | []=> []
 | [w]=>w
 |w::t=>w++sep::glue sep t
theorem Tp (sep:Nat)(w v:Bytes)(t:List Bytes):glue sep (w::v::t)=w++sep::glue sep (v::t):=rfl
theorem OB (sep:Nat):∀l,glue sep (cutAt sep l)=l
 | []=>by simp[cutAt,glue]
 |c::r=>by
  have ih:=OB sep r;cases h':cutAt sep r with
  |nil=>exact absurd h' (Cp sep r)
  |cons w' t'=>
   rw[h']at ih;rw[Eu sep c r w' t' h'];by_cases e:c=sep
   ·rw[if_pos e,Tp,ih,e];rfl
   ·rw[if_neg e];cases t' with
    |nil=>simp[glue]at ih ⊢;exact ih
    |cons v t=>rw[Tp]at ih ⊢;simp;exact ih
theorem Fq {b:Nat}(h:isDigit b=true):D9 b=true:=by simp[D9,h]
theorem HJ {b:Nat}(h:isLetter b=true):D9 b=true:=by simp[D9,h]
theorem N4 (b:Nat):isDigit (BD b)=isDigit b:=by
 cases h:D9 b with
 |true=>rw[C4 h]
 |false=>
  rw[Ku h];cases q:isDigit b with
  |false=>decide
  |true=>rw[Fq q]at h;cases h
theorem VG (b:Nat):isLetter (BD b)=isLetter b:=by
 cases h:D9 b with
 |true=>rw[C4 h]
 |false=>
  rw[Ku h];cases q:isLetter b with
  |false=>decide
  |true=>rw[HJ q]at h;cases h
theorem bj (p:Nat->Bool)(hp:∀b,p (BD b)=p b)(l:Bytes):(l.map BD).all p=l.all p:=by
 rw[all_map]
 congr 1
 funext b
 exact hp b
theorem E1:∀{l:Bytes},(∀b∈l,D9 b=true)->l.map BD=l
 | [],_=>rfl
 |b::l,h=>by
  rw[map_cons,C4 (h b (by simp)),E1 fun c hc=>h c (by simp[hc])]
theorem QH:∀{l w:Bytes},(∀b∈w,D9 b=true)->(l.map BD=w↔l=w)
 | [],[],_=>by simp
 | [],b::w,_=>by simp
 |a::l,[],_=>by simp
 |a::l,b::w,h=>by
  rw[map_cons];constructor
  ·intro e;injection e with e1 e2
   rw[(Rg (h b (by simp))).mp e1,(QH (l:=l) (w:=w) fun c hc=>h c (by simp[hc])).mp e2]
  ·intro e;injection e with e1 e2
   rw[e1,C4 (h b (by simp)),e2,E1 fun c hc=>h c (by simp[hc])]
theorem d6:∀(l:Bytes) (a:Nat),l.all isDigit=true->(l.map BD).foldl (fun a c=>10*a+(c - 48)) a=l.foldl (fun a c=>10*a+(c - 48)) a:=by
 intro l a h;rw[E1];intro b hb;exact Fq (all_eq_true.mp h b hb)
theorem Wc (w:Bytes):(w.map BD).head?=some 48↔w.head?=some 48:=by
 cases w with
 |nil=>simp
 |cons b l=>simp[Rg (show D9 48=true by decide)]
theorem dM (w:Bytes):natOf (w.map BD)=natOf w:=by
 unfold natOf;rw[bj isDigit N4,length_map,List.isEmpty_map];by_cases h:w.isEmpty=true\/2<w.length\/w.all isDigit=false\/w.head?=some 48
 ·rw[if_pos h,if_pos];rcases h with h | h | h | h
  ·exact .inl h
  ·exact .inr (.inl h)
  ·exact .inr (.inr (.inl h))
  ·exact .inr (.inr (.inr ((Wc w).mpr h)))
 ·rw[if_neg h,if_neg]
  ·have hd:w.all isDigit=true:=by
    cases q:w.all isDigit with
    |true=>rfl
    |false=>exact absurd (.inr (.inr (.inl q))) h
   rw[d6 w 0 hd]
  ·intro q;apply h;rcases q with q | q | q | q
   ·exact .inl q
   ·exact .inr (.inl q)
   ·exact .inr (.inr (.inl q))
   ·exact .inr (.inr (.inr ((Wc w).mp q)))
theorem UD (sep:Nat)(hs:D9 sep=true)(l:Bytes):cutAt sep (l.map BD)=(cutAt sep l).map (map BD):=Wp (fun b=>Rg hs) l
theorem M5 (w:Bytes):thingOf (w.map BD)=thingOf w:=by
 unfold thingOf;rw[UD 46 (by decide)]
 match cutAt 46 w with
 | []=>rfl
 | [e]=>rfl
 | [e,f]=>simp only[map_cons,map_nil,dM]
 |e::f::g::r=>rfl
theorem X7 (w:Bytes):isValue (w.map BD)=isValue w:=by
 unfold isValue;rw[length_map,bj (fun c=>isDigit c||isLetter c) fun b=>by simp only[N4,VG]]
theorem cM {w:Bytes}(h:isValue w=true):w.map BD=w:=by
 unfold isValue at h;rw[Bool.and_eq_true]at h;refine E1 fun b hb=>?_;have:=all_eq_true.mp h.2 b hb;rcases Bool.or_eq_true_iff.mp this with q | q
 ·exact Fq q
 ·exact HJ q
theorem Eb (k:Bytes)(w:Bytes)(hw:w.all D9=true):(k.map BD=w)=(k=w):=
 propext (QH fun b hb=>all_eq_true.mp hw b hb)
theorem WG (l:Bytes):opOf (l.map BD)=opOf l:=by
 unfold opOf;rw[UD 32 (by decide)]
 match cutAt 32 l with
 | []=>rfl
 | [k]=>rfl
 | [k,c]=>
  simp only[map_cons,map_nil,M5,Eb k (text "clear") (by decide),Eb k (text "empty") (by decide)]
 | [k,c,x]=>
  simp only[map_cons,map_nil,M5,X7,Eb k (text "set") (by decide),Eb k (text "need") (by decide),Eb k (text "copy") (by decide),Eb k (text "join") (by decide),Eb k (text "swap") (by decide)];by_cases hv:isValue x=true
  ·rw[cM hv]
  ·simp only[if_neg hv]
 |a::b::c::d::r=>rfl
end Dj
namespace Dj
open Vbdhae
theorem AE3:∀a,a<58->49<=a->decimal (10*0+(a - 48))=[a]:=by decide+kernel
theorem AE2:∀a,a<58->∀b,b<58->49<=a->48<=b->decimal (10*(10*0+(a - 48))+(b - 48))=[a,b]:=by decide+kernel
theorem KO (c:Nat):isDigit c=true↔48<=c/\c<=57:=by simp[isDigit]
theorem MX {w:Bytes}{n:Nat}(h:natOf w=some n):decimal n=w/\1<=n/\n<=99:=by
 unfold natOf at h;by_cases q:w.isEmpty=true\/2<w.length\/w.all isDigit=false\/w.head?=some 48
 ·rw[if_pos q]at h;cases h
 ·rw[if_neg q]at h;have h:=Option.some.inj h
  match w,h,q with
  | [],_,q=>exact absurd (.inl rfl) q
  | [a],h,q=>
   have hd:isDigit a=true:=by
    cases z:isDigit a with
    |true=>rfl
    |false=>exact absurd (.inr (.inr (.inl (by simp[z])))) q
   have h0:a≠48:=fun z=>q (.inr (.inr (.inr (by simp[z]))));rw[KO]at hd;have e:10*0+(a - 48)=n:=h;have z:=AE3 a (by omega) (by omega);rw[e]at z;exact ⟨z,by omega,by omega⟩
  | [a,b],h,q=>
   have hd:isDigit a=true/\isDigit b=true:=by
    cases z:isDigit a with
    |false=>exact absurd (.inr (.inr (.inl (by simp[z])))) q
    |true=>
     cases z2:isDigit b with
     |false=>exact absurd (.inr (.inr (.inl (by simp[z2])))) q
     |true=>exact ⟨rfl,rfl⟩
   have h0:a≠48:=fun z=>q (.inr (.inr (.inr (by simp[z]))));rw[KO,KO]at hd;have e:10*(10*0+(a - 48))+(b - 48)=n:=h;have z:=AE2 a (by omega) b (by omega) (by omega) (by omega);rw[e]at z;exact ⟨z,by omega,by omega⟩
  |a::b::c::r,h,q=>exact absurd (.inr (.inl (by simp))) q
def Aw (c:Nat):Prop:=∃e f,c=10*e+f/\1<=e/\e<=20/\1<=f/\f<=9
theorem Aw.parts {c:Nat}(h:Aw c):1<=c / 10/\c / 10<=20/\1<=c % 10/\c % 10<=9:=by
 obtain ⟨e,f,rfl,h⟩:=h;omega
theorem Aw.mk {e f:Nat}(h:1<=e/\e<=20/\1<=f/\f<=9):Aw (10*e+f):=⟨e,f,rfl,h⟩
theorem DE {w:Bytes}{c:Thing}(h:thingOf w=some c):thingShown c=w/\Aw c:=by
 unfold thingOf at h;have g:=OB 46 w;split at h
 ·next e f he=>
  rw[he]at g;cases h1:natOf e with
  |none=>rw[h1]at h;cases h
  |some n=>
   cases h2:natOf f with
   |none=>rw[h1,h2]at h;cases h
   |some m=>
    rw[h1,h2]at h;simp only[Option.bind_some]at h;by_cases q:n<=ENTRIES/\m<=FIELDS
    ·rw[if_pos q]at h;have h:=Option.some.inj h;subst h;obtain ⟨d1,l1,u1⟩:=MX h1;obtain ⟨d2,l2,u2⟩:=MX h2;have q2:m<=9:=q.2;have q1:n<=20:=q.1;refine ⟨?_,Aw.mk ⟨l1,q1,l2,q2⟩⟩;unfold thingShown;rw[show (10*n+m) / 10=n by omega,show (10*n+m) % 10=m by omega,d1,d2];exact g
    ·rw[if_neg q]at h;cases h
 ·cases h
def Yp:Op->Prop
 | .set c w=>Aw c/\isValue w=true
 | .clear c=>Aw c
 | .copy c d=>Aw c/\Aw d/\c≠d
 | .join c d=>Aw c/\Aw d/\c≠d
 | .swap c d=>Aw c/\Aw d/\c≠d
 | .need c w=>Aw c/\(w=[]\/isValue w=true)
theorem df {w:Bytes}(h:isValue w=true):w.isEmpty=false:=by
 cases w with
 |nil=>exact absurd h (by decide)
 |cons a l=>rfl
theorem sR:text "set "=text "set" ++ [32]:=by decide
theorem iT:text "clear "=text "clear" ++ [32]:=by decide
theorem mS:text "copy "=text "copy" ++ [32]:=by decide
theorem mR:text "join "=text "join" ++ [32]:=by decide
theorem mP:text "swap "=text "swap" ++ [32]:=by decide
theorem iS:text "empty "=text "empty" ++ [32]:=by decide
theorem mQ:text "need "=text "need" ++ [32]:=by decide
theorem jN {l:Bytes}{o:Op}(h:opOf l=some o):opShown o=l/\Yp o:=by
 unfold opOf at h;have g:=OB 32 l;split at h
 ·next k c he=>
  rw[he]at g;have g:k++32::c=l:=g;by_cases h1:k=text "clear"
  ·rw[if_pos h1]at h;cases ht:thingOf c with
   |none=>rw[ht]at h;cases h
   |some x=>
    rw[ht]at h;obtain ⟨p1,p2⟩:=DE ht;have h:Op.clear x=o:=Option.some.inj h;subst h;refine ⟨?_,p2⟩;show text "clear "++thingShown x=l;rw[p1,iT, <- g,h1];simp
  ·rw[if_neg h1]at h;by_cases h2:k=text "empty"
   ·rw[if_pos h2]at h;cases ht:thingOf c with
    |none=>rw[ht]at h;cases h
    |some x=>
     rw[ht]at h;obtain ⟨p1,p2⟩:=DE ht;have h:Op.need x []=o:=Option.some.inj h;subst h;refine ⟨?_,p2,.inl rfl⟩;show text "empty "++thingShown x=l;rw[p1,iS, <- g,h2];simp
   ·rw[if_neg h2]at h;cases h
 ·next k c x he=>
  rw[he]at g;have g:k++32::(c++32::x)=l:=g;by_cases h1:k=text "set"
  ·rw[if_pos h1]at h;by_cases hv:isValue x=true
   ·rw[if_pos hv]at h;cases ht:thingOf c with
    |none=>rw[ht]at h;cases h
    |some y=>
     rw[ht]at h;obtain ⟨p1,p2⟩:=DE ht;have h:Op.set y x=o:=Option.some.inj h;subst h;refine ⟨?_,p2,hv⟩;show text "set "++thingShown y++32::x=l;rw[p1,sR, <- g,h1];simp
   ·rw[if_neg hv]at h;cases h
  ·rw[if_neg h1]at h;by_cases h2:k=text "need"
   ·rw[if_pos h2]at h;by_cases hv:isValue x=true
    ·rw[if_pos hv]at h;cases ht:thingOf c with
     |none=>rw[ht]at h;cases h
     |some y=>
      rw[ht]at h;obtain ⟨p1,p2⟩:=DE ht;have h:Op.need y x=o:=Option.some.inj h;subst h;refine ⟨?_,p2,.inr hv⟩;show (if x.isEmpty=true then text "empty "++thingShown y else text "need "++thingShown y++32::x)=l;rw[df hv,if_neg (by decide),p1,mQ, <- g,h2];simp
    ·rw[if_neg hv]at h;cases h
   ·rw[if_neg h2]at h;by_cases h3:k=text "copy"\/k=text "join"\/k=text "swap"
    ·rw[if_pos h3]at h;cases ht:thingOf c with
     |none=>rw[ht]at h;cases h
     |some y=>
      cases hx:thingOf x with
      |none=>rw[ht,hx]at h;cases h
      |some z=>
       rw[ht,hx]at h;obtain ⟨p1,p2⟩:=DE ht;obtain ⟨r1,r2⟩:=DE hx;simp only[Option.bind_some]at h;by_cases aw:y=z
       ·rw[if_pos aw]at h;cases h
       ·rw[if_neg aw]at h;have h:=Option.some.inj h;by_cases k1:k=text "copy"
        ·rw[if_pos k1]at h;subst h;refine ⟨?_,p2,r2,aw⟩;show text "copy "++thingShown y++32::thingShown z=l;rw[p1,r1,mS, <- g,k1];simp
        ·rw[if_neg k1]at h;by_cases k2:k=text "join"
         ·rw[if_pos k2]at h;subst h;refine ⟨?_,p2,r2,aw⟩;show text "join "++thingShown y++32::thingShown z=l;rw[p1,r1,mR, <- g,k2];simp
         ·rw[if_neg k2]at h;have k3:k=text "swap":=by
           rcases h3 with q | q | q
           ·exact absurd q k1
           ·exact absurd q k2
           ·exact q
          subst h;refine ⟨?_,p2,r2,aw⟩;show text "swap "++thingShown y++32::thingShown z=l;rw[p1,r1,mP, <- g,k3];simp
    ·rw[if_neg h3]at h;cases h
 ·cases h
theorem SW:∀(ls:List Bytes) (i:Nat) (acc ops:List Op),opsFrom i acc ls= .ok ops->∃more,ops=acc++more/\ls.map opOf=more.map some
 | [],i,acc,ops,h=>by
  have h:Except.ok acc=Except.ok ops:=h;cases h;exact ⟨[],by simp,rfl⟩
 |x::r,i,acc,ops,h=>by
  unfold opsFrom at h;cases hx:opOf x with
  |none=>rw[hx]at h;cases h
  |some o=>
   rw[hx]at h;simp only at h;by_cases q:OPS<=acc.length
   ·rw[if_pos q]at h;cases h
   ·rw[if_neg q]at h;obtain ⟨more,e1,e2⟩:=SW r (i+1) (acc ++ [o]) ops h;refine ⟨o::more,by rw[e1];simp,?_⟩;rw[map_cons,map_cons,hx,e2]
theorem QF:∀(ls:List Bytes) (i:Nat) (acc ops:List Op),acc.length<=OPS->opsFrom i acc ls= .ok ops->ops.length<=OPS
 | [],i,acc,ops,ha,h=>by
  have h:Except.ok acc=Except.ok ops:=h;cases h;exact ha
 |x::r,i,acc,ops,ha,h=>by
  unfold opsFrom at h;cases hx:opOf x with
  |none=>rw[hx]at h;cases h
  |some o=>
   rw[hx]at h;simp only at h;by_cases q:OPS<=acc.length
   ·rw[if_pos q]at h;cases h
   ·rw[if_neg q]at h;exact QF r (i+1) (acc ++ [o]) ops (by simp;omega) h
theorem dz (ls:List Bytes):glue 10 (ls ++ [[]])=ls.flatMap fun w=>w ++ [10]:=by
 induction ls with
 |nil=>rfl
 |cons w t ih=>
  rw[flatMap_cons, <- ih];cases t with
  |nil=>simp[glue]
  |cons v t=>simp[glue]
theorem Lj:∀(ls:List Bytes) (ops:List Op),ls.map opOf=ops.map some->printed ops=ls.flatMap (fun w=>w ++ [10])/\∀o∈ops,Yp o
 | [],[],_=>⟨rfl,by simp⟩
 | [],o::r,h=>by cases h
 |l::ls,[],h=>by cases h
 |l::ls,o::r,h=>by
  rw[map_cons,map_cons]at h;injection h with h1 h2
  obtain ⟨p1,p2⟩:=jN h1;obtain ⟨q1,q2⟩:=Lj ls r h2;refine ⟨?_,?_⟩
  ·show (opShown o ++ [10])++printed r=_;rw[flatMap_cons,q1,p1]
  ·intro o' ho;rcases mem_cons.mp ho with z | z
   ·subst z;exact p2
   ·exact q2 o' z
theorem Xd {t:Bytes}{ops:List Op}(h:readOps t= .ok ops):printed ops=t/\(∀o∈ops,Yp o)/\ops≠ []/\ops.length<=12:=by
 unfold readOps at h;simp only at h;have g:=OB 10 t;cases hf:opsFrom 1 [] (cutAt 10 t).dropLast with
 |error i=>rw[hf]at h;cases h
 |ok x=>
  rw[hf]at h;simp only at h;by_cases q:(cutAt 10 t).getLast?=some []/\x.isEmpty=false
  ·rw[if_pos q]at h;have h:x=ops:=by injection h
   subst h;obtain ⟨more,e1,e2⟩:=SW _ _ _ _ hf;rw[nil_append]at e1;subst e1;obtain ⟨p1,p2⟩:=Lj _ _ e2;have Ml:=Cp 10 t;have hl:cutAt 10 t=(cutAt 10 t).dropLast ++ [[]]:=by
    have z:=List.dropLast_concat_getLast Ml;rw[List.getLast?_eq_some_getLast Ml]at q;rw[Option.some.inj q.1]at z;exact z.symm
   refine ⟨?_,p2,?_,QF _ _ _ _ (by simp) hf⟩
   ·rw[p1, <- dz, <- hl,g]
   ·intro e;subst e;exact absurd q.2 (by decide)
  ·rw[if_neg q]at h;cases h
end Dj
namespace Dj
open Vbdhae
theorem KF:∀(pre post:List Bytes) (ops acc:List Op) (i:Nat),pre.map opOf=ops.map some->(acc++ops).length<=OPS->opsFrom i acc (pre++post)=opsFrom (i+ops.length) (acc++ops) post
 | [],post,[],acc,i,_,_=>by simp
 | [],post,o::r,acc,i,h,_=>by cases h
 |x::pre,post,[],acc,i,h,_=>by cases h
 |x::pre,post,o::r,acc,i,h,hl=>by
  rw[map_cons,map_cons]at h;injection h with h1 h2
  rw[length_append,length_cons]at hl;show opsFrom i acc (x::(pre++post))=_;have e:opsFrom i acc (x::(pre++post))=opsFrom (i+1) (acc ++ [o]) (pre++post):=by
   conv=>lhs;unfold opsFrom
   rw[h1];simp only;rw[if_neg (by omega)]
  rw[e,KF pre post r (acc ++ [o]) (i+1) h2 (by simp;omega)];rw[length_cons,append_assoc]
  congr 1
  omega
theorem nV {ls:List Bytes}{ops:List Op}(h:ls.map opOf=ops.map some)(hl:ops.length<=12):opsFrom 1 [] ls= .ok ops:=by
 have e:=KF ls [] ops [] 1 h (by simp only[nil_append];exact hl);rw[append_nil,nil_append]at e;rw[e];rfl
theorem jJ {pre post:List Bytes}{x:Bytes}{ops:List Op}(h:pre.map opOf=ops.map some)(hl:ops.length<=12)(hx:opOf x=none\/ops.length=12):opsFrom 1 [] (pre++x::post)= .error (ops.length+1):=by
 rw[KF pre (x::post) ops [] 1 h (by simp only[nil_append];exact hl),nil_append];unfold opsFrom;cases e:opOf x with
 |none=>simp only;rw[Nat.add_comm]
 |some o=>
  simp only;rw[if_pos,Nat.add_comm];rcases hx with z | z
  ·rw[e]at z;cases z
  ·rw[z];decide
theorem XR {t:Bytes}{pre post:List Bytes}{x:Bytes}{ops:List Op}(hc:(cutAt 10 t).dropLast=pre++x::post)(h:pre.map opOf=ops.map some)(hl:ops.length<=12)(hx:opOf x=none\/ops.length=12):readOps t= .error (ops.length+1):=by
 unfold readOps;simp only;rw[hc,jJ h hl hx]
theorem Zc {t:Bytes}{ops:List Op}(h:(cutAt 10 t).dropLast.map opOf=ops.map some)(hl:ops.length<=12):
  readOps t=if (decide (0<ops.length)&&decide ((cutAt 10 t).getLast?=some []))=true then .ok ops else .error (ops.length+1):=by
 unfold readOps;simp only;rw[nV h hl];simp only;have hlen:(cutAt 10 t).length=ops.length+1:=by
  have e:=congrArg length h;rw[length_map,length_map,List.length_dropLast]at e;have Ml:=Cp 10 t;have:0<(cutAt 10 t).length:=List.length_pos_iff.mpr Ml;omega
 rw[hlen];have he:(ops.isEmpty=false)=(0<ops.length):=by
  cases ops <;> simp
 by_cases a:(cutAt 10 t).getLast?=some []
 ·by_cases b:0<ops.length
  ·rw[if_pos ⟨a,by rw[he];exact b⟩,if_pos (by simp[a,b])]
  ·rw[if_neg (fun z=>b (he ▸ z.2)),if_neg (by simp[b])]
 ·rw[if_neg (fun z=>a z.1),if_neg (by simp[a])]
theorem P1 (d:Thing):valueOf [] d=[]:=rfl
theorem BP (y:Thing×Bytes)(l:Values)(d:Thing):valueOf (y::l) d=if y.1=d then y.2 else valueOf l d:=by
 unfold valueOf;rw[find?_cons];by_cases h:y.1=d
 ·rw[if_pos h,beq_iff_eq.mpr h];rfl
 ·rw[if_neg h,beq_eq_false_iff_ne.mpr h]
theorem P0 (c:Thing)(w:Bytes)(d:Thing):∀l:Values,valueOf (putValue c w l) d=if c=d then w else valueOf l d
 | []=>by
  show valueOf [(c,w)] d=_;rw[BP,P1]
 |y::l=>by
  have ih:=P0 c w d l;unfold putValue;by_cases h1:c=y.1
  ·rw[if_pos h1,BP,BP];by_cases h:c=d
   ·rw[if_pos h,if_pos h]
   ·rw[if_neg h,if_neg h,if_neg (fun q=>h (h1.trans q))]
  ·rw[if_neg h1];by_cases h2:c<y.1
   ·rw[if_pos h2,BP]
   ·rw[if_neg h2,BP,ih,BP];by_cases h:c=d
    ·rw[if_pos h,if_pos h,if_neg (fun q=>h1 (h.trans q.symm))]
    ·rw[if_neg h,if_neg h]
theorem Je (c d:Thing):∀l:Values,valueOf (l.filter fun x=>x.1 != c) d=if c=d then []else valueOf l d
 | []=>by simp[P1]
 |y::l=>by
  have ih:=Je c d l;rw[filter_cons];by_cases h1:y.1=c
  ·rw[if_neg (by simp[h1]),ih,BP];by_cases h:c=d
   ·rw[if_pos h,if_pos h]
   ·rw[if_neg h,if_neg h,if_neg (fun q=>h (h1.symm.trans q))]
  ·rw[if_pos (by simp[h1]),BP,ih,BP];by_cases h:c=d
   ·rw[if_pos h,if_pos h,if_neg (fun q=>h1 (q.trans h.symm))]
   ·rw[if_neg h,if_neg h]
theorem Y0 (l:Values)(c:Thing)(w:Bytes)(d:Thing):valueOf (setValue l c w) d=if c=d then w else valueOf l d:=by
 unfold setValue;by_cases h:w.isEmpty=true
 ·rw[if_pos h,Je,List.isEmpty_iff.mp h]
 ·rw[if_neg h,P0]
structure Ue (l:Values):Prop where
 sorted:l.Pairwise fun a b=>a.1<b.1
 full:∀x∈l,x.2≠ []
 thing:∀x∈l,Aw x.1
 short:∀x∈l,x.2.length<=20
theorem Ue.nil:Ue []:=⟨.nil,by simp,by simp,by simp⟩
theorem Nw {c:Thing}{w:Bytes}{x:Thing×Bytes}:∀{l:Values},x∈putValue c w l->x=(c,w)\/x∈l
 | [],h=>by
  have h:x∈ [(c,w)]:=h;simp at h;exact .inl h
 |y::l,h=>by
  unfold putValue at h;by_cases h1:c=y.1
  ·rw[if_pos h1]at h;rcases mem_cons.mp h with z | z
   ·exact .inl z
   ·exact .inr (by simp[z])
  ·rw[if_neg h1]at h;by_cases h2:c<y.1
   ·rw[if_pos h2]at h;rcases mem_cons.mp h with z | z
    ·exact .inl z
    ·exact .inr z
   ·rw[if_neg h2]at h;rcases mem_cons.mp h with z | z
    ·exact .inr (by simp[z])
    ·rcases Nw z with q | q
     ·exact .inl q
     ·exact .inr (by simp[q])
theorem Re {c:Thing}{w:Bytes}:∀{l:Values},l.Pairwise (fun a b=>a.1<b.1)->(putValue c w l).Pairwise fun a b=>a.1<b.1
 | [],_=>by
  show List.Pairwise _ [(c,w)];simp
 |y::l,h=>by
  rw[pairwise_cons]at h;unfold putValue;by_cases h1:c=y.1
  ·rw[if_pos h1,pairwise_cons];refine ⟨fun x hx=>?_,h.2⟩;show c<x.1;rw[h1];exact h.1 x hx
  ·rw[if_neg h1];by_cases h2:c<y.1
   ·rw[if_pos h2,pairwise_cons,pairwise_cons];refine ⟨fun x hx=>?_,h⟩;show c<x.1;rcases mem_cons.mp hx with z | z
    ·subst z;exact h2
    ·exact Nat.lt_trans h2 (h.1 x z)
   ·rw[if_neg h2,pairwise_cons];refine ⟨fun x hx=>?_,Re h.2⟩;rcases Nw hx with z | z
    ·subst z;show y.1<c;exact Nat.lt_of_le_of_ne (Nat.le_of_not_lt h2) (fun q=>h1 q.symm)
    ·exact h.1 x z
theorem Ue.set {l:Values}(h:Ue l){c:Thing}{w:Bytes}(hc:Aw c)(hw:w.length<=20):Ue (setValue l c w):=by
 unfold setValue;by_cases e:w.isEmpty=true
 ·rw[if_pos e];exact ⟨h.sorted.filter _,fun x hx=>h.full x (mem_filter.mp hx).1,fun x hx=>h.thing x (mem_filter.mp hx).1,fun x hx=>h.short x (mem_filter.mp hx).1⟩
 ·rw[if_neg e];have Ml:w≠ []:=fun z=>e (by rw[z];rfl);refine ⟨Re h.sorted,fun x hx=>?_,fun x hx=>?_,fun x hx=>?_⟩
  ·rcases Nw hx with z | z
   ·subst z;exact Ml
   ·exact h.full x z
  ·rcases Nw hx with z | z
   ·subst z;exact hc
   ·exact h.thing x z
  ·rcases Nw hx with z | z
   ·subst z;exact hw
   ·exact h.short x z
theorem Bu {l:Values}(h:Ue l)(d:Thing):(valueOf l d).length<=20:=by
 unfold valueOf;cases e:l.find? fun x=>x.1==d with
 |none=>simp
 |some x=>exact h.short x (List.mem_of_find?_eq_some e)
theorem Jd {l:Values}(h:Ue l){x:Thing×Bytes}(hx:x∈l):valueOf l x.1=x.2:=by
 have hs:=h.sorted;clear h;induction l with
 |nil=>cases hx
 |cons y l ih=>
  rw[pairwise_cons]at hs;rw[BP];rcases mem_cons.mp hx with z | z
  ·subst z;rw[if_pos rfl]
  ·have:=hs.1 x z;rw[if_neg (ne_of_lt this)];exact ih z hs.2
theorem mem_keys {l:Values}(h:Ue l)(c:Thing):c∈l.map (·.1)↔valueOf l c≠ []:=by
 constructor
 ·intro hc;obtain ⟨x,hx,rfl⟩:=mem_map.mp hc;rw[Jd h hx];exact h.full x hx
 ·intro hc;unfold valueOf at hc;cases e:l.find? fun x=>x.1==c with
  |none=>rw[e]at hc;exact absurd rfl hc
  |some x=>
   have h1:=List.mem_of_find?_eq_some e;have h2:=List.find?_some e;rw[<- eq_of_beq h2];exact mem_map.mpr ⟨x,h1,rfl⟩
theorem af {w:Bytes}(h:isValue w=true):w.length<=20:=by
 unfold isValue at h;rw[Bool.and_eq_true,decide_eq_true_eq]at h;exact h.1.2
theorem MJ {l m:List Nat}(hl:l.Pairwise (· < ·))(hm:m.Pairwise (· < ·))(h:∀x,x∈l↔x∈m):l=m:=by
 have nd:∀{k:List Nat},k.Pairwise (· < ·)->k.Nodup:=fun hk=>hk.imp (fun h=>ne_of_lt h);exact List.Perm.eq_of_pairwise (le:=(· < ·)) (fun a b _ _ h1 h2=>absurd h1 (Nat.lt_asymm h2)) hl hm ((List.perm_ext_iff_of_nodup (nd hl) (nd hm)).mpr h)
theorem O3 (x:Nat):∀l:List Nat,(putN x l).Perm (x::l)
 | []=> .refl _
 |y::l=>by
  unfold putN;by_cases h:x<=y
  ·rw[if_pos h]
  ·rw[if_neg h];exact ((O3 x l).cons y).trans (List.Perm.swap x y l)
theorem QD {x:Nat}:∀{l:List Nat},l.Pairwise (· <= ·)->(putN x l).Pairwise (· <= ·)
 | [],_=>by
  show List.Pairwise _ [x];simp
 |y::l,h=>by
  unfold putN;by_cases hx:x<=y
  ·rw[if_pos hx,pairwise_cons];refine ⟨fun z hz=>?_,h⟩;rcases mem_cons.mp hz with q | q
   ·subst q;exact hx
   ·exact Nat.le_trans hx ((pairwise_cons.mp h).1 z q)
  ·rw[if_neg hx,pairwise_cons];refine ⟨fun z hz=>?_,QD (pairwise_cons.mp h).2⟩;rcases mem_cons.mp ((O3 x l).mem_iff.mp hz)with q | q
   ·subst q;exact Nat.le_of_not_le hx
   ·exact (pairwise_cons.mp h).1 z q
theorem Au:∀l:List Nat,(rising l).Perm l
 | []=> .refl _
 |x::l=>(O3 x (rising l)).trans ((Au l).cons x)
theorem HC:∀l:List Nat,(rising l).Pairwise (· <= ·)
 | []=> .nil
 |x::l=>QD (HC l)
theorem Cq {l:List Nat}(h:l.Nodup):(rising l).Pairwise (· < ·):=by
 have h1:=HC l;have h2:(rising l).Nodup:=(Au l).nodup_iff.mpr h;have h3:=List.pairwise_and_iff.mpr ⟨h1,h2⟩;exact h3.imp fun h=>Nat.lt_of_le_of_ne h.1 h.2
theorem FY:∀(n:Nat) (l:List Nat),l.length<=n->l.eraseDups.Nodup
 |0,[],_=>by simp
 |n+1,[],_=>by simp
 |n+1,a::l,h=>by
  rw[List.eraseDups_cons,nodup_cons];refine ⟨fun q=>?_,FY n _ (Nat.le_trans (length_filter_le _ _) (Nat.le_of_succ_le_succ h))⟩;rw[mem_eraseDups,mem_filter]at q;simp at q
theorem Hr (a b:Values):(differing a b).Pairwise (· < ·):=by
 unfold differing;exact Cq ((FY _ _ (Nat.le_refl _)).filter _)
theorem HI {a b:Values}(ha:Ue a)(hb:Ue b)(c:Thing):c∈differing a b↔valueOf a c≠valueOf b c:=by
 unfold differing;rw[(Au _).mem_iff,mem_filter,mem_eraseDups];constructor
 ·intro h;simpa using h.2
 ·intro h;refine ⟨?_,by simpa using h⟩;rw[map_append,mem_append,mem_keys ha,mem_keys hb];by_cases q:valueOf a c=[]
  ·refine .inr fun z=>h (q.trans z.symm)
  ·exact .inl q
end Dj
namespace L2
open PySem PySem.Spec PyProof.Rows
section
variable {X:Cx}{a b:Expr}{ta tb:TE}{rest:List Expr}{pos:Pos}
def ACp (K:PySem.W.Frag)(ta tb:TE):TE:=fun σ H Q=>ta σ H fun x H1=>∃k,vq K x H1 k/\if k=true then Q x H1 else tb σ H1 Q
theorem nw (ha:PE X a ta)(hb:PE X (.BoolOp .Or (b::rest) pos) tb):PE X (.BoolOp .Or (a::b::rest) pos) (ACp X.K ta tb):=by
 kxf_if;refine BoolOp_or (Bx (ha pins s σ H _ I h) fun v s1 ⟨x,H1,I1,r1,k,tk,q1⟩=>?_);refine wpAny_mono (cQ pins s1 σ H1 x v (fun c H2=>c=k/\H2=H1) I1 r1 ⟨k,tk,rfl,rfl⟩) (fun c s2 ⟨H2,I2,ec,eH⟩=>?_) fun _ _ z=>z;subst ec eH;cases c with
 |false=>exact hb pins s2 σ H2 Q I2 q1
 |true=>exact ⟨x,H2,I2,r1,q1⟩
def zy (K:PySem.W.Frag)(ta:TE):TE:=fun σ H Q=>ta σ H fun x H1=>∃k,vq K x H1 k/\Q (.bl (!k)) H1
theorem gA (ha:PE X a ta):PE X (.UnaryOp .Not a pos) (zy X.K ta):=by
 kxf_if;refine UnaryOp_ (Bx (ha pins s σ H _ I h) fun v s1 ⟨x,H1,I1,r1,k,tk,q1⟩=>?_);refine not_of (wpAny_mono (cQ pins s1 σ H1 x v (fun c H2=>c=k/\H2=H1) I1 r1 ⟨k,tk,rfl,rfl⟩) (fun c s2 ⟨H2,I2,ec,eH⟩=>?_) fun _ _ z=>z);subst ec eH;exact ⟨.bl (!c),H2,I2,rfl,q1⟩
end
section
variable {X:Cx}{CX:lZ}{k:Nat}{E:XK}{x:Str}{p pos:Pos}{e:Expr}{es:List Expr}{t:TA}
def xE (i:Nat)(Tb:Addr->Sp->Prop)(E:XK)(t:TA):TE:=fun σ H Q=>∃f sp,σ[i]? =some (some (.ref f))/\Tb f sp/\t σ H fun vs H1=>sp vs H1 Q E
theorem oA {i:Nat}{Tb:Addr->Sp->Prop}(hT:∀f sp,Tb f sp->∃fd ps,AR X.prog X.w X.K X.mg X.base CX k f fd ps sp/\keepIn X.K (.ref f)=true/\Binds X.K fd ps [])(hr:Aq k X.A)
  (hN:X.N[i]? =some x) (hv:yt X.env.scope x) (hx:Iv CX X E) (ha:PA X (e::es) t) (hd:(x==("__debug__":Str))=false:=by decide) (aw:(x==("__classdict__":Str))=false:=by decide)
  (he:starEach (e::es) X.env=(false,eval e X.env)::starEach es X.env:=by rfl) (Mx:(backTo pos (starEach es X.env)).any (·.1)=false:=by rfl):
  PE X (.Call (.Name x p) (e::es) [] pos) (xE i Tb E t):=by
 kxf_if;obtain ⟨f,sp,hf,hTb,h⟩:=h;obtain ⟨fd,ps,F,hk,hb⟩:=hT f sp hTb;refine wpAny_Call_Name_kw (Bx (nv hN hv hd aw pins s σ H (fun v H1=>v= .ref f/\H1=H) I ⟨_,hf,rfl,rfl⟩) fun u s0 ⟨v,H0,I0,r0,ev,eH⟩=>?_);subst ev eH;obtain rfl:u=Value.ref f:=r0;refine callWith_K (h₀:=X.base) I0.ok.mod.zG hk (Bx (ha pos pins s0 σ H0 _ I0 h) fun us s1 ⟨vs,H1,I1,r,q⟩=>⟨I1.Yq,?_⟩) he Mx;exact XQ (RH:= []) (ds:= []) F hr hb .nil hx I1 r (by rw[append_nil];exact q)
end
end L2
namespace Dj
open PySem PySem.Spec PyProof.Rows L2
def top (i:Nat):Stmt:=PySem.Challenge.pw_draftjoin_s01_answers.main.body.getD i (.Pass ⟨0,0,0,0⟩)
abbrev Kw:Stmt:=top 10
abbrev Oq:Stmt:=top 11
abbrev Ew:Stmt:=top 12
abbrev IP:Stmt:=top 13
abbrev IO:Stmt:=top 14
abbrev ML:Stmt:=top 15
abbrev F7:Stmt:=inClass (top 16) 0
abbrev Jy:Stmt:=top 17
abbrev Jv:Stmt:=top 27
abbrev HB:Stmt:=inClass (top 28) 0
abbrev F9:Stmt:=inClass (top 28) 1
abbrev XO:Stmt:=top 29
abbrev F6:Stmt:=top 30
abbrev J1:Stmt:=top 32
abbrev Rz:Stmt:=top 33
abbrev Ed:Stmt:=top 34
abbrev FJ:Stmt:=top 35
abbrev FL:Stmt:=top 36
abbrev FK:Stmt:=top 37
abbrev Ry:Stmt:=top 54
abbrev Os:Stmt:=top 55
abbrev G9:Stmt:=top 56
abbrev MM:Stmt:=top 57
abbrev G8:Stmt:=top 58
abbrev MK:Stmt:=top 59
abbrev Dk:Stmt:=top 60
abbrev DK:Stmt:=top 61
abbrev IM:Stmt:=top 62
abbrev Dl:Stmt:=top 63
abbrev Dn:Stmt:=top 64
abbrev NW:Stmt:=top 65
abbrev NX:Stmt:=top 66
abbrev J2:Stmt:=top 67
abbrev E7:Stmt:=top 68
abbrev Jx:Stmt:=top 69
abbrev Rx:Stmt:=top 70
abbrev F5:Stmt:=top 71
abbrev HZ:Stmt:=top 72
abbrev Ha:Stmt:=top 73
abbrev NQ:Stmt:=top 74
abbrev Jw:Stmt:=top 75
abbrev NP:Stmt:=top 76
abbrev Hc:Stmt:=top 77
abbrev NT:Stmt:=top 78
abbrev NV:Stmt:=top 79
abbrev EF:Stmt:=top 80
abbrev Jz:Stmt:=top 82
abbrev Ju:Stmt:=top 83
abbrev NS:Stmt:=top 84
abbrev NU:Stmt:=top 85
abbrev NR:Stmt:=top 86
abbrev J0:Stmt:=top 90
abbrev IQ:Stmt:=inClass (top 92) 0
abbrev DF:Stmt:=inClass (top 92) 1
abbrev Ef:Stmt:=inClass (top 92) 2
abbrev Eh:Stmt:=inClass (top 92) 3
abbrev EH:Stmt:=inClass (top 92) 4
abbrev FO:Stmt:=inClass (top 92) 5
abbrev FM:Stmt:=inClass (top 92) 6
abbrev Ei:Stmt:=inClass (top 92) 7
abbrev F8:Stmt:=inClass (top 92) 8
abbrev FN:Stmt:=inClass (top 92) 9
abbrev Dq:Stmt:=inClass (top 92) 10
abbrev CZ:Stmt:=inClass (top 92) 11
abbrev By:Stmt:=inClass (top 92) 12
abbrev C6:Stmt:=inClass (top 92) 13
abbrev DL:Stmt:=inClass (top 92) 14
abbrev Do:Stmt:=inClass (top 92) 15
abbrev FP:Stmt:=inClass (top 92) 16
abbrev Eg:Stmt:=inClass (top 92) 17
abbrev C7:Stmt:=inClass (top 92) 18
abbrev CU:Stmt:=inClass (top 92) 19
abbrev DM:Stmt:=inClass (top 92) 20
abbrev HA:Stmt:=inClass (top 94) 0
abbrev Ee:Stmt:=inClass (top 94) 1
abbrev C5:Stmt:=inClass (top 94) 2
abbrev Cu:Stmt:=inClass (top 94) 3
abbrev EG:Stmt:=inClass (top 94) 4
abbrev Ot:Stmt:=top 95
end Dj
namespace L2
open PySem PySem.Spec PyProof.Rows
theorem vj {α:Type}{xs:List α}{i:Int}{v:α}(h0:0<=i)(h:xs[i.toNat]? =some v):rG xs i=some v:=by
 have e:i=((i.toNat:Nat):Int):=by omega
 rw[e];exact Iq h
theorem u9 {x:Str}{g:TG}{tb:TS}{D:Ends}{σ:St}{H:Hp}(Pv:Nat->St->Hp->Prop)(h0:Pv 0 σ H)
  (hs:∀i c σ H,x.cps[i]? =some c->Pv i σ H->g (.str ⟨#[c]⟩) σ H fun σ2 H2=>tb { D with nx:=Pv (i+1),ct:=Pv (i+1),bk:=D.nx } σ2 H2) (hd:∀σ H,Pv x.cps.size σ H->D.nx σ H):
  ∃W:Nat->Nat->St->Hp->Prop,(∃m,W 0 m σ H)/\∀i m σ H,W i m σ H->
   ((wq x).stop i H/\D.nx σ H)\/((wq x).go i H/\∃N:St->Hp->Prop,(∀σ' H',N σ' H'->∃m',m'<m/\W (i+1) m' σ' H')/\∀y H',(wq x).rR i H y H'->g y σ H' fun σ2 H2=>tb { D with nx:=N,ct:=N,bk:=D.nx } σ2 H2):=by
 refine ⟨fun i m σ H=>m=x.cps.size - i/\i<=x.cps.size/\Pv i σ H,⟨x.cps.size,by simp,zero_le _,h0⟩,?_⟩;rintro i m σ H ⟨rfl,hi,p⟩;by_cases C2:i<x.cps.size
 ·refine .inr ⟨C2,Pv (i+1),fun σ' H' p'=>⟨x.cps.size - (i+1),by omega,rfl,C2,p'⟩,fun y H' q=>?_⟩;obtain ⟨e,c,hc,rfl⟩:=q;subst e;exact hs i c σ _ hc p
 ·have e:i=x.cps.size:=by omega
  subst e;exact .inl ⟨Nat.le_refl _,hd σ H p⟩
theorem o9 {x:Str}{g:TG}{tt:TT}{te:TE}{vs:List Nat}{σ:St}{H1:Hp}{D:Addr}{Qd:Hp->Prop}(Pv:Nat->Hp->Prop)(h0:Pv 0 (upd H1 D (.lst [])))
  (hs:∀i c H,x.cps[i]? =some c->Pv i H->g (.str ⟨#[c]⟩) (wipe σ vs) H fun σ2 H2=>wipe σ2 vs=wipe σ vs/\tt σ2 H2 fun b H3=>
   if b=true then te σ2 H3 fun y H4=>∃acc,H4 D=some (.lst acc)/\acc.length<sizeLine/\Pv (i+1) (upd H4 D (.lst (acc ++ [y])))else Pv (i+1) H3) (hd:∀H,Pv x.cps.size H->Qd H):
  ∃W:Nat->Nat->Hp->Prop,(∃m,W 0 m (upd H1 D (.lst [])))/\∀i m H,W i m H->
   ((wq x).stop i H/\Qd H)\/((wq x).go i H/\∃Nx:Hp->Prop,(∀H',Nx H'->∃m',m'<m/\W (i+1) m' H')/\∀y H',(wq x).rR i H y H'->g y (wipe σ vs) H' fun σ2 H2=>wipe σ2 vs=wipe σ vs/\tt σ2 H2 fun b H3=>
    if b=true then te σ2 H3 fun y H4=>∃acc,H4 D=some (.lst acc)/\acc.length<sizeLine/\Nx (upd H4 D (.lst (acc ++ [y])))else Nx H3):=by
 refine ⟨fun i m H=>m=x.cps.size - i/\i<=x.cps.size/\Pv i H,⟨x.cps.size,by simp,zero_le _,h0⟩,?_⟩;rintro i m H ⟨rfl,hi,p⟩;by_cases C2:i<x.cps.size
 ·refine .inr ⟨C2,Pv (i+1),fun H' p'=>⟨x.cps.size - (i+1),by omega,rfl,C2,p'⟩,fun y H' q=>?_⟩;obtain ⟨e,c,hc,rfl⟩:=q;subst e;exact hs i c _ hc p
 ·have e:i=x.cps.size:=by omega
  subst e;exact .inl ⟨Nat.le_refl _,hd H p⟩
theorem pB {d:Addr}{o:Obj}{AV:List (List Key×V)}{g:TG}{tt:TT}{te:TE}{vs:List Nat}{σ:St}{H1:Hp}{D:Addr}{Qd:Hp->Prop}(Pv:Nat->Hp->Prop)(h0:Pv 0 (upd H1 D (.lst [])))(hl:∀i H,i<=AV.length->Pv i H->H d=some (.EA o (.dT AV)))
  (hs:∀i k v b H,AV[i]? =some (k,v)->H b=some (.tup (k.map kV))->Pv i H->g (.ref b) (wipe σ vs) H fun σ2 H2=>wipe σ2 vs=wipe σ vs/\tt σ2 H2 fun b H3=>
   if b=true then te σ2 H3 fun y H4=>∃acc,H4 D=some (.lst acc)/\acc.length<sizeLine/\Pv (i+1) (upd H4 D (.lst (acc ++ [y])))else Pv (i+1) H3) (hd:∀H,Pv AV.length H->Qd H):
  ∃W:Nat->Nat->Hp->Prop,(∃m,W 0 m (upd H1 D (.lst [])))/\∀i m H,W i m H->
   ((rK d o AV).stop i H/\Qd H)\/((rK d o AV).go i H/\∃Nx:Hp->Prop,(∀H',Nx H'->∃m',m'<m/\W (i+1) m' H')/\∀y H',(rK d o AV).rR i H y H'->g y (wipe σ vs) H' fun σ2 H2=>wipe σ2 vs=wipe σ vs/\tt σ2 H2 fun b H3=>
    if b=true then te σ2 H3 fun y H4=>∃acc,H4 D=some (.lst acc)/\acc.length<sizeLine/\Nx (upd H4 D (.lst (acc ++ [y])))else Nx H3):=by
 refine ⟨fun i m H=>m=AV.length - i/\i<=AV.length/\Pv i H,⟨AV.length,by simp,zero_le _,h0⟩,?_⟩;rintro i m H ⟨rfl,hi,p⟩;have q:=hl i H hi p;by_cases C2:i<AV.length
 ·refine .inr ⟨⟨q,C2⟩,Pv (i+1),fun H' p'=>⟨AV.length - (i+1),by omega,rfl,C2,p'⟩,fun y H' z=>?_⟩;obtain ⟨e,k,v,b,hk,rfl,hb⟩:=z;subst e;exact hs i k v b _ hk hb p
 ·have e:i=AV.length:=by omega
  subst e;exact .inl ⟨⟨q,Nat.le_refl _⟩,hd H p⟩
def iA (P:Program)(w:World)(K:PySem.W.Frag)(a:Addr)(AV:List (Key×V)):Prop:=
 (a==sysModules)=false/\∃vs,KV AV vs/\∀h:Heap,K.In h->h.DictOf (Ah P w) a vs
section
variable {X:Cx}{x:Str}{p:Pos}{e:Expr}{apos Fv:Pos}{ty:TE}{a:Addr}{AV:List (Key×V)}
def z9 (AV:List (Key×V))(ty:TE):TE:=fun σ H Q=>ty σ H fun y H1=>∃k,y=kV k/\Q ((C3 AV k).getD .Bo) H1
theorem n8 (hK:iA X.prog X.w X.K a AV)(hg:Gl X x)(hm:X.mg x=some (.ref a))(he:PE X e ty)(m:M1 X (.Name x p) "get" apos e Fv)(hd:(x==("__debug__":Str))=false:=by decide):
  PE X (.Call (.Attribute (.Name x p) "get" apos) [e] [] Fv) (z9 AV ty):=by
 kxf_if;obtain ⟨dj,vs,rel,wW⟩:=hK;refine wpAny_Call_method m.base m.few m.line PySem.F.plainAttrs_dict slot_dict_get type_dict_get (N1 I hg hm ?_ hd);have dd:=wW s.heap I.Yq;refine ⟨dd.typeIs,fun b q=>?_,?_⟩
 ·cases q;obtain ⟨ob,_,_,h1,h2,_⟩:=dd;exact ⟨ob,h1,h2.2.1⟩
 rw[m.mY];refine Calls.callWith_builtin rfl (Calls.evalArgs_plain (Calls.spliced_cons (Bx (he pins s σ H _ I h) fun iv s2 ⟨y,H2,I2,ry,k,ey,q2⟩=>Calls.spliced_nil ?_)));subst ey;have dd2:=wW s2.heap I2.Yq;refine call_meetsIn slot_dict_get dd2.typeIs entry_dict_get (PySem.F.args_dict_get_2 _ _) (meets_dict_get (Ah X.prog X.w) a (WV ry) dj) ⟨_,dd2.mapOf,⟨_,H2,I2.tok _,?_,q2⟩⟩;exact (rel.val k).getD rfl
end
theorem Xg {X:Cx}{e:Expr}{f:Str}{pos:Pos}{ta:TE}(K:PySem.W.Frag)(he:PE X e ta)(hb:attributeBase e f X.env (eval e X.env)=eval e X.env:=by rfl)(hK:X.K=K:=by rfl):PE X (.Attribute e f pos) (AAB K ta f):=by
 subst hK;exact Ap he hb
section
variable {prog:Program}{w:World}{A:Around}{E:Value->Shared->Prop}{s:Shared}
structure bn (h:Heap)(es:Array DictEntry):Prop where
 tup:∀e∈es.toList, ∃b A1,e.key= .ref b/\IsTup h b A1
 dist:(es.toList.map (·.hash)).Nodup
theorem d7 {es:List DictEntry}(hd:(es.map (·.hash)).Nodup){e:DictEntry}(he:e∈es):(es.filter (·.hash==e.hash)).length<=1:=by
 induction es with
 |nil=>simp
 |cons x r ih=>
  rw[map_cons,nodup_cons]at hd;rw[filter_cons];rcases mem_cons.mp he with z | z
  ·subst z;have e0:r.filter (·.hash==e.hash)=[]:=by
    rw[List.filter_eq_nil_iff];intro y hy q;exact hd.1 (mem_map.mpr ⟨y,hy,eq_of_beq q⟩)
   rw[if_pos (by simp),e0];simp
  ·have Ml:(x.hash==e.hash)=false:=beq_eq_false_iff_ne.mpr fun q=>hd.1 (by rw[q];exact mem_map.mpr ⟨e,z,rfl⟩);rw[Ml,if_neg (by decide)];exact ih hd.2 z
theorem Kb {id:String}{d:Addr}{o:Obj}{es ep}{Q:Array DictEntry->Shared->Prop}(ho:s.heap.get? d=some o)(hd:o.data= .dict es ep)(hk:bn s.heap es)(h:Q es s):
  wpAny (model prog w) A (Builtin.Dict.entriesForEmpty id d) Q E s:=by
 unfold Builtin.Dict.entriesForEmpty;refine wpAny_bind (wpAny_dictEntries ho hd ?_);refine wpAny_bind ?_;rw[<- forIn_toList];refine wpAny_forIn_list _ (fun rest _ s'=>s'=s/\∀e∈rest,e∈es.toList) _ ?_ ?_ _ _ ⟨rfl,fun e he=>he⟩
 ·rintro e rest u s' ⟨rfl,hm⟩;have he:=hm e (mem_cons_self ..);obtain ⟨b,A1,eb,ht⟩:=hk.tup e he;have hq:∀{R:Bool->Shared->Prop},R false s'->wpAny (model prog w) A (Builtin.Dict.quietEq e.key) R E s':=fun {R} hR=>by
   rw[eb];show wpAny _ _ (do let x <- specialOf (.ref b) "__eq__";return x==some (.builtin "object.__eq__")) _ _ _;refine wpAny_bind (wpAny_specialOf ht.typeIs PySem.F.slot_tuple_eq.lookup (wpAny_pure ?_));exact hR
  refine wpAny_bind (hq ?_);have hf:¬ (es.filter (·.hash==e.hash)).size > 1:=by
   have:=d7 hk.dist he;have e2:(es.filter (·.hash==e.hash)).size=(es.toList.filter (·.hash==e.hash)).length:=by
    rw[<- length_toList,Array.toList_filter]
   omega
  simp only[Bool.not_false,if_true];rw[if_neg hf];exact wpAny_pure ⟨rfl,fun x hx=>hm x (mem_cons_of_mem _ hx)⟩
 ·rintro u s' ⟨rfl,_⟩;exact wpAny_pure h
theorem S6 {nm:String}{d o:Addr}{od oo:Obj}{YM:Array DictEntry}{epd epo:Nat}{Q:Unit->Shared->Prop}(hdo:d≠o)(hoS:(o==sysModules)=false)(gY:s.heap.get? d=some od)(wX:od.data= .dict #[] epd)
  (yI:s.heap.get? o=some oo) (kH:oo.data= .dict YM epo) (hk:bn s.heap YM) (hz:YM.size<=sizeLine)
  (hQ0:YM= #[]->Q () s) (hQ:Q () { s with heap:=s.heap.update d (Obj.mapDictKeys fun _=>YM) }):
  wpAny (model prog w) A (Builtin.Dict.mergeDict nm d o) Q E s:=by
 unfold Builtin.Dict.mergeDict;rw[if_neg (by simpa using hdo)];unfold Builtin.Dict.showsAll;rw[if_neg (by rw[hoS];exact Bool.false_ne_true)];refine wpAny_bind (wpAny_pure ?_);refine wpAny_bind (wpAny_dictEntries yI kH ?_);by_cases h0:YM= #[]
 ·subst h0;simp only[size_toArray,length_nil];rw[if_neg (by simp)];refine wpAny_bind (wpAny_dictEpoch yI kH ?_);refine wpAny_bind (wpAny_dictEntries yI kH ?_);refine wpAny_bind ?_;rw[Std.Legacy.Range.forIn_eq_forIn_range'];simp only[Std.Legacy.Range.size,Nat.sub_zero,Nat.add_sub_cancel,Nat.div_one,size_toArray,length_nil];show wpAny _ _ (forIn [] PUnit.unit _) _ _ _;rw[forIn_nil];exact wpAny_pure (wpAny_pure (hQ0 rfl))
 ·have uo:(decide (YM.size<=8)&&YM.all fun e=>(keyPart e.key).isSome)=false:=by
   obtain ⟨e,he⟩:∃e,e∈YM.toList:=by
    cases hl:YM.toList with
    |nil=>exact absurd (Array.toList_eq_nil_iff.mp hl) h0
    |cons e r=>exact ⟨e,mem_cons_self ..⟩
   isplit;obtain ⟨b,A1,eb,_⟩:=hk.tup e he;kl_no;have:YM.all (fun e=>(keyPart e.key).isSome)=false:=by
    rw[<- all_toList,Bool.eq_false_iff];intro q;have:=all_eq_true.mp q e he;rw[eb]at this;exact Bool.noConfusion (show false=true from this)
   rw[this,Bool.and_false]
  dsimp only;rw[uo];simp only[Bool.not_false,if_true];refine wpAny_bind (wpAny_dictEntries gY wX ?_);simp only[Array.isEmpty_empty,if_true];refine wpAny_bind (Kb yI kH hk ?_);have Ml:YM.isEmpty=false:=by
   rw[Bool.eq_false_iff];exact fun q=>h0 (Array.isEmpty_iff.mp q)
  rw[Ml];simp only[Bool.not_false,if_true];exact wpAny_bind (wpAny_updateDictKeysTo gY wX (wpAny_pure hQ) (by show YM.size<=_;omega))
theorem UK {o:Addr}{oo:Obj}{YM:Array DictEntry}{epo:Nat}{Q:Value->Shared->Prop}(hoS:(o==sysModules)=false)(yI:s.heap.get? o=some oo)(kI:oo.ExactDict)(kH:oo.data= .dict YM epo)(hk:bn s.heap YM)(hz:YM.size<=sizeLine)
  (h:∀h' ob ep,h'.get? s.heap.objs.size=some ob->ob.ExactDict->ob.data= .dict YM ep->(∀b u,s.heap.get? b=some u->h'.get? b=some u)->Q (.ref s.heap.objs.size) { s with heap:=h' }):
  wpAny (model prog w) A (call (.type "dict") [.ref o]) Q E s:=by
 refine callType_codes (Q₁:=fun obj Bq=>obj= .ref s.heap.objs.size/\Bq={ s with heap:=s.heap.push { cls:= .type "dict",data:= .dict #[] } }) PySem.F.kt_called_dict (PySem.F.kt_typeCall_dict_1 _) PySem.F.entry_dict_init (kt_code_dict_new _ ⟨rfl,rfl⟩) ?_;rintro obj Bq ⟨rfl,rfl⟩;have ao:(s.heap.push { cls:= .type "dict",data:= .dict #[] }).get? s.heap.objs.size=some { cls:= .type "dict",data:= .dict #[] }:=get?_push_size _ rfl;have Wa:(s.heap.push { cls:= .type "dict",data:= .dict #[] }).get? o=some oo:=get?_push_of_some _ yI;have hdo:s.heap.objs.size≠o:=fun e=>absurd (lt_size yI) (by rw[e];exact Nat.lt_irrefl _);have tyN:Shared.TypeIs { s with heap:=s.heap.push { cls:= .type "dict",data:= .dict #[] } } (.ref s.heap.objs.size) "dict":=⟨_,ao,rfl⟩;have tyO:Shared.TypeIs { s with heap:=s.heap.push { cls:= .type "dict",data:= .dict #[] } } (.ref o) "dict":=⟨_,Wa,kI.1⟩;have hk':bn (s.heap.push { cls:= .type "dict",data:= .dict #[] }) YM:=⟨fun e he=>by
  obtain ⟨b,A1,eb,⟨ob,h1,h2⟩⟩:=hk.tup e he;exact ⟨b,A1,eb,ob,get?_push_of_some _ h1,h2⟩,hk.dist⟩
 refine ⟨tyN,PySem.F.args_dict_init_2 _ _,?_⟩;unfold Builtin.«dict.__init__»;refine wpAny_bind ?_;unfold Builtin.Dict.selfAndRest;refine wpAny_bind (wpAny_notOrdered_dict tyN ?_);show wpAny _ _ (pure (s.heap.objs.size,[Value.ref o])) _ _ _;refine wpAny_pure ?_;show wpAny _ _ (Builtin.Dict.updateFrom "dict.__init__" s.heap.objs.size (.ref o) [] .none) _ _ _;unfold Builtin.Dict.updateFrom;refine wpAny_bind (wpAny_typeOf tyO ?_);rw[if_neg (by decide)];refine wpAny_bind ?_;unfold Builtin.Dict.merge;refine wpAny_bind ?_;unfold Builtin.Dict.readDirectly;refine wpAny_bind (wpAny_isInstance tyO isSubtype_dict_dict ?_);simp only[Bool.not_true,Bool.false_eq_true,if_false];refine wpAny_bind (wpAny_specialOf tyO PySem.F.slot_dict_iter.lookup (wpAny_pure ?_));simp only[beq_self_eq_true,if_true];refine wpAny_bind (wpAny_pure ?_);refine S6 hdo hoS ao rfl Wa kH hk' hz (fun e0=>?_) ?_
 ·show wpAny _ _ (Builtin.Dict.addKeywords s.heap.objs.size [] >>= _) _ _ _;refine wpAny_bind (wpAny_pure (wpAny_pure ⟨rfl,?_⟩));exact h _ _ _ ao ⟨rfl,rfl,rfl⟩ (by rw[e0]) fun b u q=>get?_push_of_some _ q
 ·show wpAny _ _ (Builtin.Dict.addKeywords s.heap.objs.size [] >>= _) _ _ _;refine wpAny_bind (wpAny_pure (wpAny_pure ⟨rfl,?_⟩));refine h _ _ _ (get?_update_self _ ao (Obj.isFreed_of_dict (Obj.data_mapDictKeys rfl _))) (Obj.ExactDict.mapDictKeys ⟨rfl,rfl,rfl⟩ _) (Obj.data_mapDictKeys rfl _) fun b u q=>?_;rw[Heap.get?_update_ne _ _ _ _ (ne_of_lt (lt_size q))];exact get?_push_of_some _ q
end
theorem eu {X:Cx}:Fm X (.type "dict") (fun xs H Q=>∃a AV,xs=[.ref a]/\H a=some (.dT AV)/\(AV.map fun p=>(tupleKind (Ah X.prog X.w)).hash p.1).Nodup/\∀p,H p=none->Q (.ref p) (upd H p (.dT AV))):=by
 intro pins s σ H xs us Q I r h;obtain ⟨a,AV,rfl,ha,hh,q⟩:=h;rw[Vals.Zb r];isplit;obtain ⟨hz,dj,xs,rel,o,es,ep,e1,e2,e3,e4,e5⟩:=I.BL a _ ha;kl_no;have hlen:AV.length=xs.length:=Paired.length rel;have hes:es.size=xs.length:=by rw[<- length_toList,e4,length_map]
 have hsz:es.size<=sizeLine:=by omega
 have keys:AV.map (·.1)=xs.map (·.1):=by
  clear hlen hes hsz e5 e4 hh hz ha q;induction rel with
  |nil=>rfl
  |cons x t ih=>rw[map_cons,map_cons,ih,x.1]
 have hk:bn s.heap es:=by
  refine ⟨fun e he=>?_,?_⟩
  ·rw[e4]at he;obtain ⟨x,hx,rfl⟩:=mem_map.mp he;have:∀{AV:List (List Key×V)} {xs:List (List Key×Addr×Value)},Paired (fun (p:List Key×V) (q:List Key×Addr×Value)=>p.1=q.1/\H q.2.1=some (.tup (p.1.map kV))/\RelV p.2 q.2.2) AV xs->∀x∈xs, ∃ys,H x.2.1=some (.tup ys):=by
    intro AV xs hp;induction hp with
    |nil=>intro x hx;cases hx
    |cons r t ih=>
     intro x hx;rcases mem_cons.mp hx with z | z
     ·subst z;exact ⟨_,r.2.1⟩
     ·exact ih x z
   obtain ⟨ys,hy⟩:=this rel x hx;isplit;obtain ⟨_,A1,_,ht⟩:=I.BL _ _ hy;kl_no;exact ⟨x.2.1,_,rfl,ht⟩
  ·rw[e4,map_map];have e:xs.map ((fun (x:DictEntry)=>x.hash)∘entryOfKey (tupleKind (Ah X.prog X.w)))=AV.map fun p=>(tupleKind (Ah X.prog X.w)).hash p.1:=by
    have e':=congrArg (map (tupleKind (Ah X.prog X.w)).hash) keys;rw[map_map,map_map]at e';exact e'.symm
   rw[e];exact hh
 refine UK dj e1 e2 e3 hk hsz fun h' ob Qx g1 g2 g3 keep=>?_;have hp:=I.BL.fresh (Nat.le_refl _);refine ⟨.ref _,upd H s.heap.objs.size (.dT AV),I.laid (t':=s.toks) keep (Nat.le_refl _) ?_,rfl,q _ hp⟩;refine ⟨hz,beq_eq_false_iff_ne.mpr (Ne.symm (ne_of_lt I.big)),xs,Paired.TD rel fun p x z=>⟨z.1,?_,z.2.2⟩,ob,es,Qx,g1,g2,g3,e4,e5⟩;rw[AI (AH z.2.1 hp)];exact z.2.1
end L2
namespace Dj
open PySem PySem.Spec PyProof.Rows L2
def Gv (mg:Str->Option Value)(x:Str)(v:V):Prop:=∃u,mg x=some u/\RelV v u
abbrev S (l:List Nat):Str:=⟨l.toArray⟩
theorem ABo (l:List Nat):TL.tl (S l)=l:=rfl
theorem vw (x:Str):S (TL.tl x)=x:=TL.AAf x
theorem Hx (l:List Nat):(S l).length=l.length:=by simp[Str.length]
section
variable {P:Program}{w:World}{K:PySem.W.Frag}{mg:Str->Option Value}{base:Heap}
def Om (l:List Nat)(b:Int):V:=match l with
 | []=> .Bo
 |c::_=>if 0<=b - c/\b - c<l.length then .str (S [l.getD (b - c).toNat 0])else .Bo
def RZ:Sp:=fun vs H Q _=>∃(l:List Nat) (b:Int),vs=[.str (S l),.int b]/\l≠ []/\l.length<=sizeLine/\Q (Om l b) H
theorem Rn:AT ["signs","byte","place"] ["signs","byte"] (AO Kw):=⟨rfl,rfl,rfl,by decide+kernel,rfl,by decide+kernel,by decide+kernel⟩
theorem cu {f:Addr}{fd:FuncData}(F:CB K "sign_in" "sign_in" Kw f fd)(bo:mg "ord"=none)(bl:mg "len"=none):AR P w K mg base As 1 f fd ["signs","byte"] RZ:=by
 refine F.ok Rn (fun vs H Q E h=>?_) (fun BM A outer s H vs Q E hr h=>?_)
 ·obtain ⟨l,b,rfl,_⟩:=h;rfl
 ·obtain ⟨l,b,rfl,Ml,hz,q⟩:=h;refine ⟨_,AF (AZ (i:=2) Rn.nd rfl (Or.inl rfl) (CI SX (pv 1) (Aa UJ (by rfl) bo boot_ord (AA (Ar pM (pv 0) AK (fun _ _=>rfl)) AC))))
   (AF (A0 (SK GH Gs AK (pv 2) (Aa Io (by rfl) bl PySem.boot_len (AA (pv 0) AC))) (AG (AQ (Ar pM (pv 0) (pv 2) (fun _ _=>rfl)))) Af)
   (AG (AQ Ek))),?_⟩
  cases l with
  |nil=>exact absurd rfl Ml
  |cons c r=>
  have rc:(S (c::r)).length<=sizeLine:=by rw[Hx];exact hz
  refine ⟨_,rfl,_,rfl,S (c::r),0,c,rfl,rfl,rc,Iq (j:=0) rfl,S [c],rfl,rfl,?_⟩;refine ⟨_,_,rfl,rfl,?_⟩;refine ⟨_,rfl,_,_,rfl,rfl,_,rfl,?_⟩;refine BG (fun h0=>?_) (fun h0=>?_)
  ·refine ⟨_,rfl,_,rfl,rc,_,_,rfl,rfl,_,rfl,?_⟩;refine BG (fun h1=>?_) (fun h1=>?_)
   ·have h0:=of_decide_eq_true h0;have h1:=of_decide_eq_true h1;have h0:0<=b - (c:Int):=h0;have h1:b - (c:Int)<((S (c::r)).length:Int):=h1;rw[Hx]at h1;have C2:(b - (c:Int)).toNat<(c::r).length:=by omega
    have e:Om (c::r) b= .str (S [(c::r).getD (b - (c:Int)).toNat 0]):=if_pos ⟨h0,h1⟩;refine ⟨_,rfl,_,rfl,S (c::r),b - (c:Int),(c::r).getD (b - (c:Int)).toNat 0,rfl,rfl,rc,vj h0 (by show (c::r)[_]? =_;rw[getElem?_eq_getElem C2,List.getD_eq_getElem?_getD,getElem?_eq_getElem C2];rfl),?_⟩;rw[e]at q;exact q
   ·have h1:¬ (b - (c:Int)<((S (c::r)).length:Int)):=fun z=>h1 (decide_eq_true z);rw[Hx]at h1;have e:Om (c::r) b= .Bo:=if_neg fun z=>h1 z.2;rw[e]at q;exact q
  ·have h0:¬ (0<=b - (c:Int)):=fun z=>h0 (decide_eq_true z);have e:Om (c::r) b= .Bo:=if_neg fun z=>h0 z.1;rw[e]at q;exact ⟨_,rfl,q⟩
theorem E2:TL.tl "abcdefghijklmnopqrstuvwxyz"=[97,98,99,100,101,102,103,104,105,106,107,108,109,110,111,112,113,114,115,116,117,118,119,120,121,122]:=by decide+kernel
theorem Ft:TL.tl "0123456789"=[48,49,50,51,52,53,54,55,56,57]:=by decide+kernel
theorem Nn:TL.tl " .\n"=[32,46,10]:=by decide+kernel
theorem Yu:TL.tl "?"=[63]:=by decide+kernel
theorem AAL:∀b:Nat,b<123->97<=b->([97,98,99,100,101,102,103,104,105,106,107,108,109,110,111,112,113,114,115,116,117,118,119,120,121,122]:List Nat).getD ((b:Int) - (97:Nat)).toNat 0=b:=by decide
theorem AAM:∀b:Nat,b<58->48<=b->([48,49,50,51,52,53,54,55,56,57]:List Nat).getD ((b:Int) - (48:Nat)).toNat 0=b:=by decide
theorem Rf (b:Nat):Om (TL.tl "abcdefghijklmnopqrstuvwxyz") (b:Int)=if isLetter b=true then .str (S [b])else .Bo:=by
 rw[E2];by_cases h:97<=b/\b<=122
 ·rw[if_pos (by simp[isLetter,h])];have e:=AAL b (by omega) h.1;have z:(b:Int) - (97:Nat)<(26:Nat):=by omega
  refine Eq.trans (if_pos ⟨by omega,z⟩) ?_;rw[e]
 ·rw[if_neg (by simp[isLetter];omega)];refine if_neg fun z=>h ?_;have z2:(b:Int) - (97:Nat)<(26:Nat):=z.2;omega
theorem U0 (b:Nat):Om (TL.tl "0123456789") (b:Int)=if isDigit b=true then .str (S [b])else .Bo:=by
 rw[Ft];by_cases h:48<=b/\b<=57
 ·rw[if_pos (by simp[isDigit,h])];have e:=AAM b (by omega) h.1;have z:(b:Int) - (48:Nat)<(10:Nat):=by omega
  refine Eq.trans (if_pos ⟨by omega,z⟩) ?_;rw[e]
 ·rw[if_neg (by simp[isDigit];omega)];refine if_neg fun z=>h ?_;have z2:(b:Int) - (48:Nat)<(10:Nat):=z.2;omega
def RY:Sp:=fun vs H Q _=>∃(b:Nat),vs=[.int b]/\Q (.str (S [BD b])) H
theorem Rm:AT ["byte","sign"] ["byte"] (AO Oq):=⟨rfl,rfl,rfl,by decide+kernel,rfl,by decide+kernel,by decide+kernel⟩
structure rJ (mg:Str->Option Value):Prop where
 X2:Gv mg "LETTERS" (.str "abcdefghijklmnopqrstuvwxyz")
 digits:Gv mg "DIGITS" (.str "0123456789")
 others:Gv mg "OTHER_SIGNS" (.str " .\n")
 zo:Gv mg "WRONG_SIGN" (.str "?")
 ord:mg "ord"=none
 len:mg "len"=none
theorem cr {f g:Addr}{fd gd:FuncData}(F:CB K "sign_of" "sign_of" Oq f fd)(T:rJ mg)(G:CB K "sign_in" "sign_in" Kw g gd)(bG:Binds K gd ["signs","byte"] [])(mgG:mg "sign_in"=some (.ref g))(kG:keepIn K (.ref g)=true):
  AR P w K mg base As 2 f fd ["byte"] RY:=by
 have okG:AR P w K mg base As 1 g gd ["signs","byte"] RZ:=cu G T.ord T.len;refine F.ok Rm (fun vs H Q E h=>?_) (fun BM A outer s H vs Q E hr h=>?_)
 ·obtain ⟨b,rfl,_⟩:=h;rfl
 ·obtain ⟨b,rfl,q⟩:=h;obtain ⟨uL,mL,rL⟩:=T.X2;obtain ⟨uD,mD,rD⟩:=T.digits;obtain ⟨uO,mO,rO⟩:=T.others;obtain ⟨uW,mW,rW⟩:=T.zo;refine ⟨_,AF (Du PassesOwn.never rfl (cj (Ad rfl mO rO)) (A2 (i:=1) Rm.nd rfl (Or.inl rfl))
    (AG (A0 (Al Ea (Aa UJ (by rfl) T.ord boot_ord (AA (pv 1) AC)) (pv 0) (Av _)) (AG (AQ (pv 1))) Af)))
   (AG (AQ (nw (AX okG hr rfl mgG kG bG .nil AU (AA (Ad rfl mL rL) (AA (pv 0) AC)))
    (nw (AX okG hr rfl mgG kG bG .nil AU (AA (Ad rfl mD rD) (AA (pv 0) AC))) (GC (Ad rfl mW rW)))))),?_⟩
  refine ⟨_,rfl,u9 (fun i σ H'=>∃v:Option V,σ=[some (.int b),v]/\H'=H/\∀c∈([32,46,10]:List Nat).take i,b≠c) ⟨none,rfl,rfl,by simp⟩ ?_ ?_⟩
  ·intro i c σ H' hc zz;isplit;obtain ⟨v,rfl,rfl,hn⟩:=zz;kl_no;have rk:([32,46,10]:List Nat)[i]? =some c:=by
    rw[<- Nn];simpa using hc
   refine ⟨_,rfl,S [c],rfl,rfl,_,rfl,rfl,_,rfl,?_⟩;refine BG (fun h1=>?_) (fun h1=>?_)
   ·have e:((c:Nat):Int)=(b:Int):=V.int.inj (of_decide_eq_true h1);have e:c=b:=by omega
    subst e;have hg:D9 c=true:=by
     have hm:c∈([32,46,10]:List Nat):=mem_of_getElem? rk;simp at hm;rcases hm with z | z | z <;> subst z <;> decide
    rw[C4 hg]at q;exact ⟨_,rfl,q⟩
   ·have e:b≠c:=fun z=>h1 (decide_eq_true (by rw[z];rfl));refine ⟨_,rfl,rfl,fun d hd=>?_⟩;rw[take_add_one,rk]at hd;rcases mem_append.mp hd with z | z
    ·exact hn d z
    ·simp at z;rw[z];exact e
  ·intro σ H' zz;isplit;obtain ⟨v,rfl,rfl,hn⟩:=zz;kl_no;have hn:∀c∈([32,46,10]:List Nat),b≠c:=by
    have e:(Str.ofString " .\n").cps.size=3:=by rw[<- length_toList];exact congrArg length Nn
    rw[e]at hn;exact hn
   refine ⟨_,rfl,TL.tl "abcdefghijklmnopqrstuvwxyz",(b:Int),by rw[vw];rfl,by rw[E2];simp,by rw[E2];decide,?_⟩;rw[Rf];by_cases hl:isLetter b=true
   ·rw[if_pos hl];rw[C4 (HJ hl)]at q;exact ⟨true,⟨by show 1<=sizeLine;decide,rfl⟩,q⟩
   ·rw[if_neg hl];refine ⟨false,rfl,?_⟩;refine ⟨_,rfl,TL.tl "0123456789",(b:Int),by rw[vw];rfl,by rw[Ft];simp,by rw[Ft];decide,?_⟩;rw[U0];by_cases hd:isDigit b=true
    ·rw[if_pos hd];rw[C4 (Fq hd)]at q;exact ⟨true,⟨by show 1<=sizeLine;decide,rfl⟩,q⟩
    ·rw[if_neg hd];refine ⟨false,rfl,?_⟩;have hg:D9 b=false:=by
      unfold D9;have h1:=hn 32 (by simp);have h2:=hn 46 (by simp);have h3:=hn 10 (by simp);simp[h1,h2,h3,hl,hd]
     rw[Ku hg]at q;have e:(Str.ofString "?")=S [63]:=by rw[<- Yu,vw]
     show Q (V.str (Str.ofString "?")) _;rw[e];exact q
theorem MD (s:Nat):∀(l acc:List Nat),TL.Qc [s] 0 acc l=G4 s acc l
 | [],acc=>by rw[TL.RC];rfl
 |c::r,acc=>by
  by_cases e:c=s
  ·subst e;rw[TL.fX (by simp[TL.pre])];show acc::TL.Qc [c] 0 [] r=_;rw[MD c r []];simp[G4]
  ·rw[TL.ZJ (TL.Zn [] r e),MD s r (acc ++ [c])];simp[G4,e]
theorem Og {w:List Nat}{y:Str}{s:Nat}(hy:TL.tl y=[s])(hs:s<256):Txt.split (S w) y=(cutAt s w).map S:=by
 apply TL.TB;rw[TL.jA (S w) y (by rw[hy];simp) (TL.uN (by
  have e:y=S [s]:=by rw[<- hy,vw]
  rw[e];simp[hs])),hy,MD,ABo,jB,map_map]
 exact (map_id _).symm
theorem kX:TL.tl "."=[46]:=by decide+kernel
theorem bX:TL.tl " "=[32]:=by decide+kernel
theorem d8:TL.tl "\n"=[10]:=by decide+kernel
def Cb (w:List Nat)(h:Nat):Option Nat:=(natOf w).bind fun n=>if n<=h then some n else none
def ADF:Option Nat->V
 |none=> .Bo
 |some n=> .int n
theorem vF:∀n,n<100->TL.AAU n=decimal n:=by decide+kernel
theorem uB:∀n,n<100->1<=n->natOf (decimal n)=some n:=by decide+kernel
def Jj:Sp:=fun vs H Q _=>∃(l:List Nat) (h:Nat),vs=[.str (S l),.int h]/\h<=50/\Q (ADF (Cb l h)) H
theorem Js:AT ["word","highest","number"] ["word","highest"] (AO Ew):=⟨rfl,rfl,rfl,by decide+kernel,rfl,by decide+kernel,by decide+kernel⟩
theorem Sh {f:Addr}{fd:FuncData}(F:CB K "read_number" "read_number" Ew f fd)(br:mg "range"=none)(bs:mg "str"=none):AR P w K mg base As 1 f fd ["word","highest"] Jj:=by
 refine F.ok Js (fun vs H Q E h=>?_) (fun BM A outer s H vs Q E hr h=>?_)
 ·obtain ⟨l,b,rfl,_⟩:=h;rfl
 ·obtain ⟨l,h,rfl,hh,q⟩:=h;refine ⟨_,AF (Du PassesOwn.never rfl (WB rfl br (AA AK (AA (CI Sd (pv 1) AK) AC))) (A2 (i:=2) Js.nd rfl (Or.inl rfl))
    (AG (A0 (Al Ea (Cr Ya (by rfl) bs boot_str (AA (pv 2) AC)) (pv 0) (Av _)) (AG (AQ (pv 2))) Af)))
   (AG (AQ Ek)),?_⟩
  have en:(((h:Int)+1) - 1).toNat=h:=by omega
  refine ⟨_,rfl,_,_,rfl,rfl,1,(h:Int)+1,rfl,⟨by omega,by omega,by omega,by omega⟩,?_⟩;rw[en];refine Wm (lo:=1) (n:=h) (fun i σ H'=>∃v:Option V,σ=[some (.str (S l)),some (.int h),v]/\H'=H/\∀k,1<=k->k<=i->decimal k≠l) ⟨none,rfl,rfl,fun k h1 h2=>by omega⟩ ?_ ?_
  ·intro i σ H' hi zz;isplit;obtain ⟨v,rfl,rfl,hn⟩:=zz;kl_no;have ei:(1:Int)+(i:Int)=((i+1:Nat):Int):=by omega
   have et:TL.tl (Str.ofString (toString ((1:Int)+(i:Int))))=decimal (i+1):=by
    rw[ei,TL.wy,vF _ (by omega)]
   refine ⟨_,rfl,_,rfl,?_,_,rfl,rfl,_,rfl,?_⟩
   ·exact Nat.lt_of_le_of_lt (Nat.log2_le_self _) (by omega)
   refine BG (fun h1=>?_) (fun h1=>?_)
   ·have e:(Str.ofString (toString ((1:Int)+(i:Int))))=S l:=V.str.inj (of_decide_eq_true h1);have e2:decimal (i+1)=l:=by
     rw[<- et,e]
    have e3:Cb l h=some (i+1):=by
     unfold Cb;rw[<- e2,uB _ (by omega) (by omega)];show (if i+1<=h then some (i+1)else none)=_;rw[if_pos (by omega)]
    rw[e3]at q;refine ⟨_,rfl,?_⟩;rw[ei];exact q
   ·refine ⟨_,rfl,rfl,fun k k1 k2=>?_⟩;by_cases e:k=i+1
    ·subst e;intro z;exact h1 (decide_eq_true (congrArg V.str (TL.Ms (by rw[et,z]))))
    ·exact hn k k1 (by omega)
  ·intro σ H' zz;isplit;obtain ⟨v,rfl,rfl,hn⟩:=zz;kl_no;have e3:Cb l h=none:=by
    unfold Cb;cases e:natOf l with
    |none=>rfl
    |some n=>
     show (if n<=h then some n else none)=none;obtain ⟨d1,d2,d3⟩:=MX e;rw[if_neg];intro z;exact hn n d2 z d1
   rw[e3]at q;exact q
def yu (H:Hp)(o:Option Nat)(v:V):Prop:=match o with
 |none=>v= .Bo
 |some c=>∃t,v= .ref t/\H t=some (.tup [.int ((c / 10:Nat):Int),.int ((c % 10:Nat):Int)])
def LY:Sp:=fun vs H Q _=>∃(l:List Nat),vs=[.str (S l)]/\l.length<=20000/\∀H' v,AW H H'->yu H' (thingOf l) v->Q v H'
theorem Le:AT ["word","parts","entry","field"] ["word"] (AO IP):=⟨rfl,rfl,rfl,by decide+kernel,rfl,by decide+kernel,by decide+kernel⟩
structure hZ (mg:Str->Option Value):Prop where
 entry:Gv mg "HIGHEST_ENTRY" (.int 20)
 field:Gv mg "HIGHEST_FIELD" (.int 9)
 len:mg "len"=none
 range:mg "range"=none
 str:mg "str"=none
theorem IR {w:List Nat}{h n:Nat}(e:Cb w h=some n):natOf w=some n/\n<=h:=by
 unfold Cb at e;cases q:natOf w with
 |none=>rw[q]at e;cases e
 |some m=>
  rw[q]at e;have e:(if m<=h then some m else none)=some n:=e;by_cases z:m<=h
  ·rw[if_pos z]at e;cases e;exact ⟨rfl,z⟩
  ·rw[if_neg z]at e;cases e
theorem Nb {w:List Nat}{h n:Nat}(e:Cb w h=none)(q:natOf w=some n):¬ n<=h:=by
 intro z;unfold Cb at e;rw[q]at e;have e:(if n<=h then some n else none)=none:=e;rw[if_pos z]at e;cases e
theorem iX {w e f:List Nat}(hc:cutAt 46 w=[e,f]):thingOf w=(Cb e 20).bind fun n=>(Cb f 9).map fun m=>10*n+m:=by
 unfold thingOf;rw[hc];show (natOf e).bind _=_;cases h1:Cb e 20 with
 |none=>
  cases q1:natOf e with
  |none=>rfl
  |some n=>
   have:=Nb h1 q1;cases q2:natOf f with
   |none=>rfl
   |some m=>
    show (if n<=ENTRIES/\m<=FIELDS then _ else none)=none;exact if_neg fun z=>this z.1
 |some n=>
  obtain ⟨q1,z1⟩:=IR h1;cases h2:Cb f 9 with
  |none=>
   rw[q1];cases q2:natOf f with
   |none=>rfl
   |some m=>
    have:=Nb h2 q2;show (if n<=ENTRIES/\m<=FIELDS then _ else none)=none;exact if_neg fun z=>this z.2
  |some m=>
   obtain ⟨q2,z2⟩:=IR h2;rw[q1,q2];show (if n<=ENTRIES/\m<=FIELDS then _ else none)=some (10*n+m);exact if_pos ⟨z1,z2⟩
theorem cR {w:List Nat}(hc:(cutAt 46 w).length≠2):thingOf w=none:=by
 unfold thingOf
 match h:cutAt 46 w,hc with
 | [],_=>rfl
 | [_],_=>rfl
 | [_,_],hc=>exact absurd rfl hc
 |_::_::_::_,_=>rfl
theorem gy (s:Nat):∀(l:List Nat),(cutAt s l).length<=l.length+1
 | []=>by simp[cutAt]
 |c::r=>by
  have ih:=gy s r;cases h:cutAt s r with
  |nil=>exact absurd h (Cp s r)
  |cons w t=>
   rw[Eu s c r w t h];rw[h]at ih;split <;> simp at ih ⊢ <;> omega
theorem UE {s:Nat}:∀{l w:List Nat},w∈cutAt s l->w.length<=l.length
 | [],w,h=>by simp[cutAt]at h;subst h;simp
 |c::r,w,h=>by
  have ih:∀{w},w∈cutAt s r->w.length<=r.length:=fun h=>UE h;cases h':cutAt s r with
  |nil=>exact absurd h' (Cp s r)
  |cons w' t=>
   rw[h']at ih;rw[Eu s c r w' t h']at h;by_cases e:c=s
   ·rw[if_pos e]at h;rcases mem_cons.mp h with z | z
    ·subst z;simp
    ·have:=ih z;simp;omega
   ·rw[if_neg e]at h;rcases mem_cons.mp h with z | z
    ·subst z;have:=ih (w:=w') (by simp);simp;omega
    ·have:=ih (w:=w) (by simp[z]);simp;omega
theorem U5 {f g:Addr}{fd gd:FuncData}(F:CB K "read_thing" "read_thing" IP f fd)(T:hZ mg)(G:CB K "read_number" "read_number" Ew g gd)(bG:Binds K gd ["word","highest"] [])(mgG:mg "read_number"=some (.ref g))(kG:keepIn K (.ref g)=true):
  AR P w K mg base As 2 f fd ["word"] LY:=by
 have okG:AR P w K mg base As 1 g gd ["word","highest"] Jj:=Sh G T.range T.str;refine F.ok Le (fun vs H Q E h=>?_) (fun BM A outer s H vs Q E hr h=>?_)
 ·obtain ⟨b,rfl,_⟩:=h;rfl
 ·obtain ⟨l,rfl,hz,q⟩:=h;obtain ⟨uE,mE,rE⟩:=T.entry;obtain ⟨uF,mF,rF⟩:=T.field;have nd:=Le.nd;refine ⟨_,AF (AZ (i:=1) nd rfl (Or.inl rfl) (SN (pv 0) Bl))
   (AF (A0 (Al SY (Aa Ae (by rfl) T.len PySem.boot_len (AA (pv 1) AC)) AK (Av _)) (AG (AQ Ek)) Af)
   (AF (AZ (i:=2) nd rfl (Or.inl rfl) (AX okG hr rfl mgG kG bG .nil AU (AA (Ar Ag (pv 1) AK (fun _ _=>rfl)) (AA (Ad rfl mE rE) AC))))
   (AF (AZ (i:=3) nd rfl (Or.inl rfl) (AX okG hr rfl mgG kG bG .nil AU (AA (Ar Ag (pv 1) AK (fun _ _=>rfl)) (AA (Ad rfl mF rF) AC))))
   (AF (A0 (V7 (MS (O4 (pv 2))) (SJ (MS (O4 (pv 3))))).pt (AG (AQ Ek)) Af)
   (AG (AQ (SM (AA (pv 2) (AA (pv 3) AC))))))))),?_⟩
  refine ⟨_,rfl,⟨_,rfl⟩,S l,".",rfl,rfl,by decide+kernel,by rw[Hx];exact Nat.le_trans (Nat.add_le_add_right hz 2) (by decide),?_⟩;rw[Og kX (by decide)];intro p hp;have s1:AW H (upd H p (.lst (((cutAt 46 l).map S).map V.str))):=fun b o e=>by rw[AI (AH e hp)];exact e
  generalize gh:upd H p (.lst (((cutAt 46 l).map S).map V.str))=H1 at s1;have D3:H1 p=some (.lst (((cutAt 46 l).map S).map V.str)):=by rw[<- gh];exact AB
  refine ⟨_,rfl,p,_,rfl,.inl (Ao.of D3),rfl,_,rfl,?_⟩;rw[length_map,length_map];refine BG (fun h1=>?_) (fun h1=>?_)
  ·have h1:¬ V.int ((cutAt 46 l).length:Int)=V.int 2:=by simpa using h1
   exact q _ _ s1 (by rw[cR (fun z=>h1 (by rw[z];rfl))];rfl)
  ·have h1:V.int ((cutAt 46 l).length:Int)=V.int 2:=by simpa using h1
   have h1:(cutAt 46 l).length=2:=by
    have:=V.int.inj h1;omega
   obtain ⟨e,f',hc⟩:∃e f',cutAt 46 l=[e,f']:=by
    match cutAt 46 l,h1 with
    | [a,b],_=>exact ⟨a,b,rfl⟩
   rw[hc]at D3;refine ⟨_,rfl,p,_,0,.str (S e),rfl,rfl,Ao.of D3,rfl,e,20,rfl,by decide,?_⟩;refine ⟨_,rfl,p,_,1,.str (S f'),rfl,rfl,Ao.of D3,rfl,f',9,rfl,by decide,?_⟩;have ht:=iX hc;refine ⟨_,rfl,_,rfl,?_⟩;cases h1:Cb e 20 with
   |none=>
    rw[h1]at ht;refine CJ ?_;exact q _ _ s1 (by rw[ht];rfl)
   |some n=>
    rw[h1]at ht;refine B1 ⟨_,rfl,_,rfl,?_⟩;cases h2:Cb f' 9 with
    |none=>
     rw[h2]at ht;refine CJ ?_;exact q _ _ s1 (by rw[ht];rfl)
    |some m=>
     rw[h2]at ht;have z2:m<=9:=(IR h2).2;refine B1 ⟨_,rfl,_,rfl,by show 2<=sizeLine;decide,fun t htn=>?_⟩;refine q _ _ (s1.trans fun b o e=>by rw[AI (AH e htn)];exact e) ?_;rw[ht];refine ⟨t,rfl,?_⟩;rw[AB];show some (HO.tup [V.int n,V.int m])=some (HO.tup [V.int ((10*n+m) / 10:Nat),V.int ((10*n+m) % 10:Nat)]);rw[show (10*n+m) / 10=n by omega,show (10*n+m) % 10=m by omega]
def Jc (l:List Nat):V:=if isValue l=true then .str (S l)else .Bo
def LX:Sp:=fun vs H Q _=>∃(l:List Nat),vs=[.str (S l)]/\l.length<=20000/\∀H',AW H H'->Q (Jc l) H'
theorem Ld:AT ["word","sign"] ["word"] (AO IO):=⟨rfl,rfl,rfl,by decide+kernel,rfl,by decide+kernel,by decide+kernel⟩
structure hX (mg:Str->Option Value):Prop where
 X2:Gv mg "LETTERS" (.str "abcdefghijklmnopqrstuvwxyz")
 digits:Gv mg "DIGITS" (.str "0123456789")
 longest:Gv mg "LONGEST_VALUE" (.int 20)
 len:mg "len"=none
 all:mg "all"=none
theorem Ut {σ:L2.St}{H:Hp}{A:Hp->Prop}{B:Hp->Prop}(h:A H):zt σ H (fun b H3=>if b=true then A H3 else B H3):=by
 show if true=true then A H else B H;rw[if_pos rfl];exact h
def xX (c:Nat):Bool:=isDigit c||isLetter c
theorem Tf (c:Nat):decide (c∈TL.tl "abcdefghijklmnopqrstuvwxyz")=isLetter c:=by
 rw[E2];unfold isLetter;apply decide_eq_decide.mpr;refine (List.mem_range'_1 (s:=97) (n:=26)).trans ?_;omega
theorem j8 (c:Nat):decide (c∈TL.tl "0123456789")=isDigit c:=by
 rw[Ft];unfold isDigit;apply decide_eq_decide.mpr;refine (List.mem_range'_1 (s:=48) (n:=10)).trans ?_;omega
theorem U4 {f:Addr}{fd:FuncData}(F:CB K "read_value" "read_value" IO f fd)(T:hX mg):
  AR P w K mg base As 1 f fd ["word"] LX:=by
 refine F.ok Ld (fun vs H Q E h=>?_) (fun BM A outer s H vs Q E hr h=>?_)
 ·obtain ⟨b,rfl,_⟩:=h;rfl
 ·obtain ⟨l,rfl,hz,q⟩:=h;obtain ⟨uL,mL,rL⟩:=T.X2;obtain ⟨uD,mD,rD⟩:=T.digits;obtain ⟨uV,mV,rV⟩:=T.longest;have nd:=Ld.nd;refine ⟨_,AF (A0 (EJ (SK GH GH AK (Aa Io (by rfl) T.len PySem.boot_len (AA (pv 0) AC)) (Ad rfl mV rV))) (AG (AQ Ek)) Af)
   (AF (A0 (CD (Aa (UH rfl) (by rfl) T.all boot_all (AA
     (GD (own:= [("sign",1)]) rfl nd (cj (pv 0)) (Bn (by kernel_rfl)) (fun _ _ _ _ _=>A2 (i:=1) nd rfl (Or.inl rfl)) (fun _ _ _ _ _=>Ez)
      (fun _ _ _ _ _=>ny (DX SZ (pv 1) (Ad rfl mL rL) rfl) (GC (DX SZ (pv 1) (Ad rfl mD rD) rfl)))) AC)))
    (AG (AQ (pv 0))) Af)
   (AG (AQ Ek))),?_⟩
  have rc:(S l).length<=sizeLine:=by rw[Hx];exact Nat.le_trans hz (by decide)
  have hv:Jc l=if (decide (1<=l.length)&&(decide (l.length<=20)&&l.all fun c=>isDigit c||isLetter c))=true then .str (S l)else .Bo:=by
   unfold Jc isValue
   congr 1
   rw[Bool.decide_and,Bool.and_assoc];rfl
  refine ⟨_,rfl,_,rfl,rc,_,_,rfl,rfl,_,rfl,?_⟩;rw[Hx];refine BG (fun h1=>?_) (fun h1=>?_)
  ·refine ⟨_,_,rfl,rfl,_,rfl,?_⟩;have h1:1<=l.length:=by have:=of_decide_eq_true h1;omega
   by_cases h2:l.length<=20
   ·rw[decide_eq_true (show ((l.length:Nat):Int)<=20 by omega)];refine B1 ?_;refine ⟨_,rfl,S l,rfl,?_⟩;intro D hD;refine o9 (x:=S l) (fun i H'=>H' D=some (.lst (((l.take i).map xX).map V.bl))/\AW H H') ⟨AB,fun b o e=>by rw[AI (AH e hD)];exact e⟩ ?_ ?_
    ·rintro i c H' hc ⟨Ct,s'⟩;have rk:l[i]? =some c:=by simpa using hc
     have hi:i<l.length:=(List.getElem?_eq_some_iff.mp rk).1;have fin:∀k:Bool,k=xX c->∃acc,H' D=some (.lst acc)/\acc.length<sizeLine/\(upd H' D (.lst (acc ++ [V.bl k]))) D=some (.lst (((l.take (i+1)).map xX).map V.bl))/\AW H (upd H' D (.lst (acc ++ [V.bl k]))):=fun k hk=>by
      refine ⟨_,Ct,?_,?_,fun b o e=>?_⟩
      ·rw[length_map,length_map,length_take];exact Nat.lt_of_le_of_lt (Nat.min_le_right _ _) (Nat.lt_of_le_of_lt hz (by decide))
      ·rw[AB,hk,take_add_one,rk];simp
      ·rw[AI (AH e hD)];exact s' b o e
     refine ⟨rfl,Ut ?_⟩;refine ⟨_,rfl,c,_,rfl,rfl,_,rfl,?_⟩;refine BG (fun g1=>?_) (fun g1=>?_)
     ·exact fin true (by unfold xX;rw[<- Tf];rw[show decide (c∈TL.tl "abcdefghijklmnopqrstuvwxyz")=true from g1];simp)
     ·refine ⟨_,rfl,c,_,rfl,rfl,?_⟩;refine fin _ ?_;have g1:decide (c∈TL.tl "abcdefghijklmnopqrstuvwxyz")=false:=Bool.eq_false_iff.mpr g1;unfold xX;rw[<- Tf,g1, <- j8];simp
    ·rintro H' ⟨Ct,s'⟩;rw[show (S l).cps.size=l.length by simp,take_length]at Ct;refine ⟨D,l.map xX,rfl,Ao.of Ct,_,rfl,?_⟩;have ea:(l.map xX).all id=l.all fun c=>isDigit c||isLetter c:=by
      rw[all_map];rfl
     rw[ea];refine BG (fun g1=>?_) (fun g1=>?_)
     ·have e:Jc l= .str (S l):=by rw[hv,decide_eq_true h1,decide_eq_true h2,g1];rfl
      rw[e]at q;exact ⟨_,rfl,q _ s'⟩
     ·have g1:=Bool.eq_false_iff.mpr g1;have e:Jc l= .Bo:=by rw[hv,decide_eq_true h1,decide_eq_true h2,g1];rfl
      rw[e]at q;exact q _ s'
   ·rw[decide_eq_false (show ¬ ((l.length:Nat):Int)<=20 by omega)];refine CJ ?_;have e:Jc l= .Bo:=by rw[hv,decide_eq_false h2];simp
    rw[e]at q;exact q H (AW.refl H)
  ·have h1:¬ 1<=l.length:=fun z=>h1 (decide_eq_true (by omega));refine ⟨_,rfl,?_⟩;refine CJ ?_;have e:Jc l= .Bo:=by rw[hv,decide_eq_false h1];simp
   rw[e]at q;exact q H (AW.refl H)
def Ai (H:Hp)(t:Addr)(c:Nat):Prop:=H t=some (.tup [.int ((c / 10:Nat):Int),.int ((c % 10:Nat):Int)])
def EV:Op->List Nat
 | .set _ _=>Vbdhae.text "set"
 | .clear _=>Vbdhae.text "clear"
 | .copy _ _=>Vbdhae.text "copy"
 | .join _ _=>Vbdhae.text "join"
 | .swap _ _=>Vbdhae.text "swap"
 | .need _ w=>if w=[]then Vbdhae.text "empty" else Vbdhae.text "need"
def DC:Op->Nat
 | .set c _=>c
 | .clear c=>c
 | .copy c _=>c
 | .join c _=>c
 | .swap c _=>c
 | .need c _=>c
def Fy (H:Hp)(v:V):Op->Prop
 | .set _ w=>v= .str (S w)
 | .clear _=>v= .Bo
 | .copy _ d=>∃u,v= .ref u/\Ai H u d
 | .join _ d=>∃u,v= .ref u/\Ai H u d
 | .swap _ d=>∃u,v= .ref u/\Ai H u d
 | .need _ w=>v=if w=[]then .Bo else .str (S w)
def L7 (H:Hp)(a:Addr)(o:Op):Prop:=∃t v,H a=some (.tup [.str (S (EV o)),.ref t,v])/\Ai H t (DC o)/\Fy H v o
def AFK (H:Hp)(o:Option Op)(v:V):Prop:=match o with
 |none=>v= .Bo
 |some o=>∃a,v= .ref a/\L7 H a o
theorem Ai.same {H H':Hp}{t:Addr}{c:Nat}(h:Ai H t c)(s:AW H H'):Ai H' t c:=s _ _ h
theorem Fy.same {H H':Hp}{v:V}(s:AW H H'):∀{o:Op},Fy H v o->Fy H' v o
 | .set _ w,h=>h
 | .clear _,h=>h
 | .copy _ d,⟨u,e,h⟩=>⟨u,e,h.same s⟩
 | .join _ d,⟨u,e,h⟩=>⟨u,e,h.same s⟩
 | .swap _ d,⟨u,e,h⟩=>⟨u,e,h.same s⟩
 | .need _ w,h=>h
theorem L7.same {H H':Hp}{a:Addr}{o:Op}(h:L7 H a o)(s:AW H H'):L7 H' a o:=by
 obtain ⟨t,v,h1,h2,h3⟩:=h;exact ⟨t,v,s _ _ h1,h2.same s,h3.same s⟩
def Pg:List (Key×V):= [(.inr "set",.str "TV"),(.inr "clear",.str "T"),(.inr "copy",.str "TU"),(.inr "join",.str "TU"),(.inr "swap",.str "TU"),(.inr "need",.str "TV"),(.inr "empty",.str "T")]
theorem ZE (s:String):Str.ofString s=S (Vbdhae.text s):=by
 apply TL.Ms;rw[TL.ZA];rfl
theorem Ud {a b:List Nat}(h:S a=S b):a=b:=by
 have:=congrArg TL.tl h;exact this
inductive Form (k:List Nat):V->Prop
 |tv:(k=Vbdhae.text "set"\/k=Vbdhae.text "need")->Form k (.str "TV")
 |t:(k=Vbdhae.text "clear"\/k=Vbdhae.text "empty")->Form k (.str "T")
 |tu:(k=Vbdhae.text "copy"\/k=Vbdhae.text "join"\/k=Vbdhae.text "swap")->Form k (.str "TU")
 |no:k≠Vbdhae.text "set"->k≠Vbdhae.text "need"->k≠Vbdhae.text "clear"->k≠Vbdhae.text "empty"->k≠Vbdhae.text "copy"->k≠Vbdhae.text "join"->k≠Vbdhae.text "swap"->Form k .Bo
theorem C0 {k:List Nat}{s:String}:((Sum.inr (Str.ofString s):Key)=Sum.inr (S k))↔k=Vbdhae.text s:=by
 rw[ZE];constructor
 ·intro h;exact (Ud (Sum.inr.inj h)).symm
 ·intro h;rw[h]
theorem uz (k:List Nat):Form k ((C3 Pg (.inr (S k))).getD .Bo):=by
 unfold Pg;by_cases h1:k=Vbdhae.text "set"
 ·rw[BV (C0.mpr h1)];exact .tv (.inl h1)
 rw[BW (fun z=>h1 (C0.mp z))];by_cases h2:k=Vbdhae.text "clear"
 ·rw[BV (C0.mpr h2)];exact .t (.inl h2)
 rw[BW (fun z=>h2 (C0.mp z))];by_cases h3:k=Vbdhae.text "copy"
 ·rw[BV (C0.mpr h3)];exact .tu (.inl h3)
 rw[BW (fun z=>h3 (C0.mp z))];by_cases h4:k=Vbdhae.text "join"
 ·rw[BV (C0.mpr h4)];exact .tu (.inr (.inl h4))
 rw[BW (fun z=>h4 (C0.mp z))];by_cases h5:k=Vbdhae.text "swap"
 ·rw[BV (C0.mpr h5)];exact .tu (.inr (.inr h5))
 rw[BW (fun z=>h5 (C0.mp z))];by_cases h6:k=Vbdhae.text "need"
 ·rw[BV (C0.mpr h6)];exact .tv (.inr h6)
 rw[BW (fun z=>h6 (C0.mp z))];by_cases h7:k=Vbdhae.text "empty"
 ·rw[BV (C0.mpr h7)];exact .t (.inr h7)
 rw[BW (fun z=>h7 (C0.mp z))];exact .no h1 h6 h2 h7 h3 h4 h5
def FX (ws:List (List Nat)):Option Op:=match ws with
 | [k,c]=>if k=Vbdhae.text "clear" then (thingOf c).map .clear else if k=Vbdhae.text "empty" then (thingOf c).map fun c=> .need c []else none
 | [k,c,x]=>
  if k=Vbdhae.text "set" then (if isValue x=true then (thingOf c).map fun c=> .set c x else none)
  else if k=Vbdhae.text "need" then (if isValue x=true then (thingOf c).map fun c=> .need c x else none)
  else if k=Vbdhae.text "copy"\/k=Vbdhae.text "join"\/k=Vbdhae.text "swap" then ((thingOf c).bind fun c=>(thingOf x).bind fun d=>if c=d then none else some (if k=Vbdhae.text "copy" then .copy c d else if k=Vbdhae.text "join" then .join c d else .swap c d))
  else none
 |_=>none
theorem tN (l:List Nat):opOf l=FX (cutAt 32 l):=rfl
theorem gD {c:List Nat}{x:Nat}(h:thingOf c=some x):FX [Vbdhae.text "clear",c]=some (.clear x)/\FX [Vbdhae.text "empty",c]=some (.need x []):=by
 constructor
 ·unfold FX;simp only;rw[if_pos trivial,h];rfl
 ·unfold FX;simp only;rw[if_neg (by decide),if_pos trivial,h];rfl
theorem tM {k c:List Nat}(h:thingOf c=none):FX [k,c]=none:=by
 unfold FX;simp only;rw[h];split <;> first | rfl | (split <;> rfl)
theorem tL {k:List Nat}{ws:List (List Nat)}(hk:k=Vbdhae.text "clear"\/k=Vbdhae.text "empty")(h:ws.length≠1):FX (k::ws)=none:=by
 match ws,h with
 | [],_=>rfl
 | [_],h=>exact absurd rfl h
 | [c,x],_=>
  unfold FX;simp only;rcases hk with z | z <;> subst z <;> rw[if_neg (by decide),if_neg (by decide),if_neg (by decide)]
 |_::_::_::_,_=>rfl
theorem gE {k:List Nat}{ws:List (List Nat)}(hk:k≠Vbdhae.text "clear"/\k≠Vbdhae.text "empty")(h:ws.length≠2):FX (k::ws)=none:=by
 match ws,h with
 | [],_=>rfl
 | [_],h=>unfold FX;simp only;rw[if_neg hk.1,if_neg hk.2]
 | [c,x],h=>exact absurd rfl h
 |_::_::_::_,_=>rfl
theorem tJ {k:List Nat}{ws:List (List Nat)}(h1:k≠Vbdhae.text "set")(h2:k≠Vbdhae.text "need")(h3:k≠Vbdhae.text "clear")(h4:k≠Vbdhae.text "empty")(h5:k≠Vbdhae.text "copy")(h6:k≠Vbdhae.text "join")(h7:k≠Vbdhae.text "swap"):FX (k::ws)=none:=by
 match ws with
 | []=>rfl
 | [c]=>unfold FX;simp only;rw[if_neg h3,if_neg h4]
 | [c,x]=>unfold FX;simp only;rw[if_neg h1,if_neg h2,if_neg (by rintro (z | z | z) <;> contradiction)]
 |_::_::_::_=>rfl
theorem gF {k c x:List Nat}(h:thingOf c=none):FX [k,c,x]=none:=by
 unfold FX;simp only;rw[h];split
 ·split <;> rfl
 ·split
  ·split <;> rfl
  ·split <;> rfl
theorem tK {k c x:List Nat}(hk:k=Vbdhae.text "set"\/k=Vbdhae.text "need")(h:isValue x≠true):FX [k,c,x]=none:=by
 unfold FX;simp only;rcases hk with z | z
 ·rw[if_pos z,if_neg h]
 ·rw[if_neg (by rw[z];decide),if_pos z,if_neg h]
theorem gC {c x:List Nat}{y:Nat}(h:isValue x=true)(hc:thingOf c=some y):FX [Vbdhae.text "set",c,x]=some (.set y x)/\FX [Vbdhae.text "need",c,x]=some (.need y x):=by
 constructor
 ·unfold FX;simp only;rw[if_pos trivial,if_pos h,hc];rfl
 ·unfold FX;simp only;rw[if_neg (by decide),if_pos trivial,if_pos h,hc];rfl
theorem xV {k c x:List Nat}{y:Nat}(hk:k=Vbdhae.text "copy"\/k=Vbdhae.text "join"\/k=Vbdhae.text "swap")(hc:thingOf c=some y):
  FX [k,c,x]=(thingOf x).bind fun d=>if y=d then none else some (if k=Vbdhae.text "copy" then .copy y d else if k=Vbdhae.text "join" then .join y d else .swap y d):=by
 unfold FX;simp only;rw[if_neg (by rcases hk with z | z | z <;> rw[z] <;> decide),if_neg (by rcases hk with z | z | z <;> rw[z] <;> decide),if_pos hk,hc];rfl
theorem Xx (x:Str):decide (V.str x=V.Bo)=false:=by simp
theorem S3 (a:Addr):decide (V.ref a=V.Bo)=false:=by simp
theorem Td:decide (V.Bo=V.Bo)=true:=by simp
theorem XL {x:List Nat}(h:isValue x=true):SeqAt.shaped (.str (S x))=true:=by
 unfold SeqAt.shaped;rw[Bool.and_eq_true];refine ⟨?_,rfl⟩;show (S x).cps.all (fun c=>decide (c<0x110000))=true;rw[<- all_toList,all_eq_true];intro c hc;unfold isValue at h;rw[Bool.and_eq_true]at h;have z:=all_eq_true.mp h.2 c hc;have z2:c<=122:=by
  rcases Bool.or_eq_true_iff.mp z with z | z
  ·simp[isDigit]at z;omega
  ·simp[isLetter]at z;omega
 exact decide_eq_true (by omega)
theorem eM (d y:Nat):PyData.eqv (.tuple [.int ((d / 10:Nat):Int),.int ((d % 10:Nat):Int)]) (.tuple [.int ((y / 10:Nat):Int),.int ((y % 10:Nat):Int)])=decide (y=d):=by
 show ((((d / 10:Nat):Int)==((y / 10:Nat):Int))&&((((d % 10:Nat):Int)==((y % 10:Nat):Int))&&true))=decide (y=d);by_cases h:y=d
 ·subst h;simp
 ·rw[decide_eq_false h];by_cases h1:d / 10=y / 10
  ·have h2:¬ d % 10=y % 10:=by omega
   have:((((d % 10:Nat):Int)==((y % 10:Nat):Int)))=false:=beq_eq_false_iff_ne.mpr (by omega);rw[this];simp
  ·have:((((d / 10:Nat):Int)==((y / 10:Nat):Int)))=false:=beq_eq_false_iff_ne.mpr (by omega);rw[this];simp
theorem o6:(Str.ofString "TV").length=2:=by decide+kernel
theorem o7:(Str.ofString "TU").length=2:=by decide+kernel
theorem len_T:(Str.ofString "T").length=1:=by decide+kernel
def P4:Sp:=fun vs H Q _=>∃(l:List Nat),vs=[.str (S l)]/\l.length<=20000/\∀H' v,AW H H'->AFK H' (opOf l) v->Q v H'
theorem P7:AT ["line","words","form","thing","other"] ["line"] (AO ML):=⟨rfl,rfl,rfl,by decide+kernel,rfl,by decide+kernel,by decide+kernel⟩
theorem Zx {f g v aF:Addr}{fd gd vd:FuncData}(F:CB K "read_act" "read_act" ML f fd)(bl:mg "len"=none)(kF:iA P w K aF Pg)(zC:mg "FORMS"=some (.ref aF))
  (okT:AR P w K mg base As 2 g gd ["word"] LY) (bT:Binds K gd ["word"] []) (mgT:mg "read_thing"=some (.ref g)) (kT:keepIn K (.ref g)=true)
  (okV:AR P w K mg base As 1 v vd ["word"] LX) (bV:Binds K vd ["word"] []) (mgV:mg "read_value"=some (.ref v)) (kV':keepIn K (.ref v)=true):
  AR P w K mg base As 3 f fd ["line"] P4:=by
 refine F.ok P7 (fun vs H Q E h=>?_) (fun BM A outer s H vs Q E hr h=>?_)
 ·obtain ⟨b,rfl,_⟩:=h;rfl
 ·obtain ⟨l,rfl,hz,q⟩:=h;have nd:=P7.nd;ktn_lt;refine ⟨_,AF (AZ (i:=1) nd rfl (Or.inl rfl) (SN (pv 0) Bl))
   (AF (AZ (i:=2) nd rfl (Or.inl rfl) (n8 kF rfl zC (Ar Ag (pv 1) AK (fun _ _=>rfl)) ⟨rfl,rfl,rfl,rfl⟩))
   (AF (A0 (V7 (MS (O4 (pv 2))) (SJ (Al SY (Aa Ae (by rfl) bl PySem.boot_len (AA (pv 1) AC)) (CI Sd AK (Aa Io (by rfl) bl PySem.boot_len (AA (pv 2) AC))) (Av _)))).pt (AG (AQ Ek)) Af)
   (AF (AZ (i:=3) nd rfl (Or.inl rfl) (AX okT hr rfl mgT kT bT .nil AU (AA (Ar Ag (pv 1) AK (fun _ _=>rfl)) AC)))
   (AF (A0 (MS (O4 (pv 3))) (AG (AQ Ek)) Af)
   (AF (A0 (Al Ea (pv 2) Bl (Av _)) (AG (AQ (SM (AA (Ar Ag (pv 1) AK (fun _ _=>rfl)) (AA (pv 3) (AA Ek AC)))))) Af)
   (AF (AZ (i:=4) nd rfl (Or.inl rfl) (KD (Al Ea (pv 2) Bl (Av _)) (AX okV FD rfl mgV kV' bV .nil AU (AA (Ar Ag (pv 1) AK (fun _ _=>rfl)) AC)) (AX okT hr rfl mgT kT bT .nil AU (AA (Ar Ag (pv 1) AK (fun _ _=>rfl)) AC))))
   (AF (A0 (V7 (MS (O4 (pv 4))) (SJ (Al (xU hr.units) (pv 4) (pv 3) (Av _)))).pt (AG (AQ Ek)) Af)
   (AG (AQ (SM (AA (Ar Ag (pv 1) AK (fun _ _=>rfl)) (AA (pv 3) (AA (pv 4) AC))))))))))))),?_⟩
  refine ⟨_,rfl,⟨_,rfl⟩,S l," ",rfl,rfl,by decide+kernel,by rw[Hx];exact Nat.le_trans (Nat.add_le_add_right hz 2) (by decide),?_⟩;rw[Og bX (by decide)];rw[tN]at q;have WZ:∀w∈cutAt 32 l,w.length<=20000:=fun w hw=>Nat.le_trans (UE hw) hz;cases hc:cutAt 32 l with
  |nil=>exact absurd hc (Cp 32 l)
  |cons k ws=>
  rw[hc]at q WZ;intro p hp;have s1:AW H (upd H p (.lst (((k::ws).map S).map V.str))):=fun b o e=>by rw[AI (AH e hp)];exact e
  generalize gh:upd H p (.lst (((k::ws).map S).map V.str))=H1 at s1;have D3:H1 p=some (.lst (((k::ws).map S).map V.str)):=by rw[<- gh];exact AB
  refine ⟨_,rfl,p,_,0,.str (S k),rfl,rfl,Ao.of D3,Iq (j:=0) rfl,.inr (S k),rfl,?_⟩;have hF:=uz k;generalize (C3 Pg (.inr (S k))).getD .Bo=fv at hF ⊢;refine ⟨_,rfl,_,rfl,?_⟩;have hlen:((((k::ws).map S).map V.str).length:Int)=((ws.length+1:Nat):Int):=by rw[length_map,length_map];rfl
  cases hF with
  |no h1 h2 h3 h4 h5 h6 h7=>
   rw[Td];refine CJ ?_;exact q _ _ s1 (by rw[tJ h1 h2 h3 h4 h5 h6 h7];rfl)
  |t hk=>
   rw[Xx];refine B1 ?_;refine ⟨_,rfl,p,_,rfl,.inl (Ao.of D3),_,rfl,_,rfl,by rw[len_T];decide,_,_,rfl,rfl,rfl,_,rfl,?_⟩;rw[hlen,len_T];refine BG (fun h1=>?_) (fun h1=>?_)
   ·have h1:ws.length≠1:=fun z=>by rw[z]at h1;exact absurd h1 (by decide)
    exact q _ _ s1 (by rw[tL hk h1];rfl)
   ·have h1:ws.length=1:=by
     have z:V.int ((ws.length+1:Nat):Int)=V.int (1+((1:Nat):Int)):=by simpa using h1
     have:=V.int.inj z;omega
    obtain ⟨c,rfl⟩:∃c,ws=[c]:=by
     match ws,h1 with
     | [c],_=>exact ⟨c,rfl⟩
    refine ⟨_,rfl,p,_,1,.str (S c),rfl,rfl,Ao.of D3,rfl,c,rfl,WZ c (by simp),fun H2 tv s2 hT=>?_⟩;refine ⟨_,rfl,_,rfl,?_⟩;cases ht:thingOf c with
    |none=>
     rw[ht]at hT;obtain rfl:tv= .Bo:=hT;rw[Td];refine CJ ?_;exact q _ _ (s1.trans s2) (by rw[tM ht];rfl)
    |some x=>
     rw[ht]at hT;obtain ⟨t,rfl,hT⟩:=hT;rw[S3];refine B1 ?_;refine ⟨_,rfl,rfl,_,rfl,?_⟩;refine BG (fun _=>?_) (fun z=>absurd (decide_eq_true rfl) z);have FE:=s2 _ _ D3;refine ⟨_,rfl,p,_,0,.str (S k),rfl,rfl,Ao.of FE,rfl,_,rfl,by show 3<=sizeLine;decide,fun a ha=>?_⟩;have s3:AW H2 (upd H2 a (.tup [.str (S k),.ref t,.Bo])):=fun b o e=>by rw[AI (AH e ha)];exact e
     refine q _ _ ((s1.trans s2).trans s3) ?_;rcases hk with z | z
     ·subst z;rw[(gD ht).1];exact ⟨a,rfl,t,.Bo,AB,Ai.same hT s3,rfl⟩
     ·subst z;rw[(gD ht).2];exact ⟨a,rfl,t,.Bo,AB,Ai.same hT s3,rfl⟩
  |tv hk=>
   have zN:k≠Vbdhae.text "clear"/\k≠Vbdhae.text "empty":=by rcases hk with z | z <;> rw[z] <;> decide
   rw[Xx];refine B1 ?_;refine ⟨_,rfl,p,_,rfl,.inl (Ao.of D3),_,rfl,_,rfl,by rw[o6];decide,_,_,rfl,rfl,rfl,_,rfl,?_⟩;rw[hlen,o6];refine BG (fun h1=>?_) (fun h1=>?_)
   ·have h1:ws.length≠2:=fun z=>by rw[z]at h1;exact absurd h1 (by decide)
    exact q _ _ s1 (by rw[gE zN h1];rfl)
   ·have h1:ws.length=2:=by
     have z:V.int ((ws.length+1:Nat):Int)=V.int (1+((2:Nat):Int)):=by simpa using h1
     have:=V.int.inj z;omega
    obtain ⟨c,x,rfl⟩:∃c x,ws=[c,x]:=by
     match ws,h1 with
     | [c,x],_=>exact ⟨c,x,rfl⟩
    refine ⟨_,rfl,p,_,1,.str (S c),rfl,rfl,Ao.of D3,rfl,c,rfl,WZ c (by simp),fun H2 tv s2 hT=>?_⟩;refine ⟨_,rfl,_,rfl,?_⟩;cases ht:thingOf c with
    |none=>
     rw[ht]at hT;obtain rfl:tv= .Bo:=hT;rw[Td];refine CJ ?_;exact q _ _ (s1.trans s2) (by rw[gF ht];rfl)
    |some y=>
     rw[ht]at hT;obtain ⟨t,rfl,hT⟩:=hT;rw[S3];refine B1 ?_;have FE:=s2 _ _ D3;refine ⟨_,rfl,rfl,_,rfl,?_⟩;refine BG (fun z=>absurd z (by decide+kernel)) (fun _=>?_);refine ⟨_,rfl,rfl,_,rfl,?_⟩;refine BG (fun _=>?_) (fun z=>absurd (decide_eq_true rfl) z);refine ⟨_,rfl,p,_,2,.str (S x),rfl,rfl,Ao.of FE,rfl,x,rfl,WZ x (by simp),fun H3 s3=>?_⟩;refine ⟨_,rfl,_,rfl,?_⟩;unfold Jc;by_cases hv:isValue x=true
     ·rw[if_pos hv,Xx];refine B1 ?_;have wY:=Ai.same hT s3;refine ⟨_,rfl,_,rfl,PyData.str (S x),.tuple [.int ((y / 10:Nat):Int),.int ((y % 10:Nat):Int)],.str _,.tup (Gi.of wY) (.cons (.int _) (.cons (.int _) .nil)),XL hv,rfl,_,rfl,?_⟩;refine B1 ?_;have Mj:=s3 _ _ FE;refine ⟨_,rfl,p,_,0,.str (S k),rfl,rfl,Ao.of Mj,rfl,_,rfl,_,rfl,by show 3<=sizeLine;decide,fun a ha=>?_⟩;have s4:AW H3 (upd H3 a (.tup [.str (S k),.ref t,.str (S x)])):=fun b o e=>by rw[AI (AH e ha)];exact e
      refine q _ _ (((s1.trans s2).trans s3).trans s4) ?_;have Ml:x≠ []:=fun z=>by rw[z]at hv;exact absurd hv (by decide)
      rcases hk with z | z
      ·subst z;rw[(gC hv ht).1];exact ⟨a,rfl,t,_,AB,Ai.same wY s4,rfl⟩
      ·subst z;rw[(gC hv ht).2];refine ⟨a,rfl,t,.str (S x),?_,Ai.same wY s4,?_⟩
       ·show _=some (HO.tup [.str (S (if x=[]then Vbdhae.text "empty" else Vbdhae.text "need")),.ref t,.str (S x)]);rw[if_neg Ml];exact AB
       ·show _=if x=[]then V.Bo else V.str (S x);rw[if_neg Ml]
     ·rw[if_neg hv,Td];refine CJ ?_;exact q _ _ ((s1.trans s2).trans s3) (by rw[tK hk hv];rfl)
  |tu hk=>
   have zN:k≠Vbdhae.text "clear"/\k≠Vbdhae.text "empty":=by rcases hk with z | z | z <;> rw[z] <;> decide
   rw[Xx];refine B1 ?_;refine ⟨_,rfl,p,_,rfl,.inl (Ao.of D3),_,rfl,_,rfl,by rw[o7];decide,_,_,rfl,rfl,rfl,_,rfl,?_⟩;rw[hlen,o7];refine BG (fun h1=>?_) (fun h1=>?_)
   ·have h1:ws.length≠2:=fun z=>by rw[z]at h1;exact absurd h1 (by decide)
    exact q _ _ s1 (by rw[gE zN h1];rfl)
   ·have h1:ws.length=2:=by
     have z:V.int ((ws.length+1:Nat):Int)=V.int (1+((2:Nat):Int)):=by simpa using h1
     have:=V.int.inj z;omega
    obtain ⟨c,x,rfl⟩:∃c x,ws=[c,x]:=by
     match ws,h1 with
     | [c,x],_=>exact ⟨c,x,rfl⟩
    refine ⟨_,rfl,p,_,1,.str (S c),rfl,rfl,Ao.of D3,rfl,c,rfl,WZ c (by simp),fun H2 tv s2 hT=>?_⟩;refine ⟨_,rfl,_,rfl,?_⟩;cases ht:thingOf c with
    |none=>
     rw[ht]at hT;obtain rfl:tv= .Bo:=hT;rw[Td];refine CJ ?_;exact q _ _ (s1.trans s2) (by rw[gF ht];rfl)
    |some y=>
     rw[ht]at hT;obtain ⟨t,rfl,hT⟩:=hT;rw[S3];refine B1 ?_;have FE:=s2 _ _ D3;refine ⟨_,rfl,rfl,_,rfl,?_⟩;refine BG (fun z=>absurd z (by decide+kernel)) (fun _=>?_);refine ⟨_,rfl,rfl,_,rfl,?_⟩;refine BG (fun z=>absurd z (by decide+kernel)) (fun _=>?_);refine ⟨_,rfl,p,_,2,.str (S x),rfl,rfl,Ao.of FE,rfl,x,rfl,WZ x (by simp),fun H3 ov s3 hO=>?_⟩;refine ⟨_,rfl,_,rfl,?_⟩;have hu:=xV (x:=x) hk ht;have wY:=Ai.same hT s3;cases hx:thingOf x with
     |none=>
      rw[hx]at hO hu;obtain rfl:ov= .Bo:=hO;rw[Td];refine CJ ?_;exact q _ _ ((s1.trans s2).trans s3) (by rw[hu];rfl)
     |some d=>
      rw[hx]at hO hu;obtain ⟨u,rfl,hO⟩:=hO;rw[S3];refine B1 ?_;refine ⟨_,rfl,_,rfl,.tuple [.int ((d / 10:Nat):Int),.int ((d % 10:Nat):Int)],.tuple [.int ((y / 10:Nat):Int),.int ((y % 10:Nat):Int)],.tup (Gi.of hO) (.cons (.int _) (.cons (.int _) .nil)),.tup (Gi.of wY) (.cons (.int _) (.cons (.int _) .nil)),rfl,rfl,_,rfl,?_⟩;have hu:FX [k,c,x]=if y=d then none else some (if k=Vbdhae.text "copy" then .copy y d else if k=Vbdhae.text "join" then .join y d else .swap y d):=hu;have heq:PyData.eqv (.tuple [.int ((d / 10:Nat):Int),.int ((d % 10:Nat):Int)]) (.tuple [.int ((y / 10:Nat):Int),.int ((y % 10:Nat):Int)])=decide (y=d):=eM d y;rw[heq];kpt_hd
      ·have z:y=d:=of_decide_eq_true z;rw[if_pos z]at hu;exact q _ _ ((s1.trans s2).trans s3) (by rw[hu];rfl)
      ·have z:¬ y=d:=fun e=>z (decide_eq_true e);rw[if_neg z]at hu;have Mj:=s3 _ _ FE;refine ⟨_,rfl,p,_,0,.str (S k),rfl,rfl,Ao.of Mj,rfl,_,rfl,_,rfl,by show 3<=sizeLine;decide,fun a ha=>?_⟩;have s4:AW H3 (upd H3 a (.tup [.str (S k),.ref t,.ref u])):=fun b o e=>by rw[AI (AH e ha)];exact e
       refine q _ _ (((s1.trans s2).trans s3).trans s4) ?_;rw[hu];rcases hk with z | z | z <;> subst z
       ·rw[if_pos rfl];exact ⟨a,rfl,t,_,AB,Ai.same wY s4,u,rfl,Ai.same hO s4⟩
       ·rw[if_neg (by decide),if_pos rfl];exact ⟨a,rfl,t,_,AB,Ai.same wY s4,u,rfl,Ai.same hO s4⟩
       ·rw[if_neg (by decide),if_neg (by decide)];exact ⟨a,rfl,t,_,AB,Ai.same wY s4,u,rfl,Ai.same hO s4⟩
def Fx (H H':Hp):Prop:=∀b xs,H b=some (.tup xs)->H' b=some (.tup xs)
theorem Fx.of {H H':Hp}(s:AW H H'):Fx H H':=fun b xs e=>s _ _ e
theorem Fx.upd {H:Hp}{p:Addr}{o o':HO}(h:H p=some o)(hn:∀xs,o≠ .tup xs):Fx H (upd H p o'):=fun b xs e=>by
 rw[AI (A7 e h (fun z=>hn xs z.symm))];exact e
theorem Ai.CW {H H':Hp}{t:Addr}{c:Nat}(h:Ai H t c)(s:Fx H H'):Ai H' t c:=s _ _ h
theorem Fy.CW {H H':Hp}{v:V}(s:Fx H H'):∀{o:Op},Fy H v o->Fy H' v o
 | .set _ w,h=>h
 | .clear _,h=>h
 | .copy _ d,⟨u,e,h⟩=>⟨u,e,h.CW s⟩
 | .join _ d,⟨u,e,h⟩=>⟨u,e,h.CW s⟩
 | .swap _ d,⟨u,e,h⟩=>⟨u,e,h.CW s⟩
 | .need _ w,h=>h
theorem L7.CW {H H':Hp}{a:Addr}{o:Op}(h:L7 H a o)(s:Fx H H'):L7 H' a o:=by
 obtain ⟨t,v,h1,h2,h3⟩:=h;exact ⟨t,v,s _ _ h1,h2.CW s,h3.CW s⟩
def Iw (H:Hp)(as:List Addr)(ops:List Op):Prop:=Paired (L7 H) as ops
theorem Iw.CW {H H':Hp}{as:List Addr}{ops:List Op}(h:Iw H as ops)(s:Fx H H'):Iw H' as ops:=Paired.TD h fun _ _ z=>z.CW s
theorem FA {α β:Type}{F:α->β->Prop}:∀{l:List α} {m:List β} {a:α} {b:β},Paired F l m->F a b->Paired F (l ++ [a]) (m ++ [b])
 |_,_,_,_,.nil,h=> .cons h .nil
 |_,_,_,_,.cons r t,h=> .cons r (FA t h)
theorem BZ {α β:Type}{F:α->β->Prop}:∀{l:List α} {m:List β},Paired F l m->l.length=m.length
 |_,_,.nil=>rfl
 |_,_,.cons _ t=>by rw[length_cons,length_cons,BZ t]
def rf (a:Addr)(n:Int):List (Str×V):= [("acts",.ref a),("wrong_line",.int n)]
theorem xK (a:Addr)(n:Int):BX "wrong_line" (.int n) (BX "acts" (.ref a) [])=rf a n:=by
 show (if ("acts":Str)="wrong_line" then _ else _)=_;rw[if_neg (by decide+kernel)];rfl
theorem fh (a:Addr)(n:Int):(rf a n).lookup ("acts":Str)=some (.ref a):=by rfl
theorem R1 (a:Addr)(n:Int):(rf a n).lookup ("wrong_line":Str)=some (.int n):=by rfl
def DW (K:PySem.W.Frag)(C:Addr):Sp:=fun vs H Q _=>∃(p dx a:Addr) (b:Bool) (xs:List V),vs=[.ref p,.ref a,.bl b]/\H p=some (.ins C dx [])/\H a=some (.lst xs)/\
 ∀H':Hp,H' p=some (.ins C dx (rf a (if b=true then 0 else xs.length+1)))->(∀b o,H b=some o->b≠p->H' b=some o)->Q .Bo H'
theorem Qg:AT ["self","acts","is_right"] ["self","acts","is_right"] (AO F7):=⟨rfl,rfl,rfl,by decide+kernel,rfl,by decide+kernel,by decide+kernel⟩
structure Hw (K:PySem.W.Frag)(mg:Str->Option Value)(C:Addr):Prop where
 cl:fP K C
 nA:A6 K C "acts"
 nW:A6 K C "wrong_line"
 mgC:mg "Reading"=some (.ref C)
theorem Qm {f C:Addr}{fd:FuncData}(F:CB K "__init__" "Reading.__init__" F7 f fd)(T:Hw K mg C)(bl:mg "len"=none):AR P w K mg base As 1 f fd ["self","acts","is_right"] (DW K C):=by
 refine F.ok Qg (fun vs H Q E h=>?_) (fun BM A outer s H vs Q E hr h=>?_)
 ·obtain ⟨p,dx,a,b,xs,rfl,_⟩:=h;rfl
 ·obtain ⟨p,dx,a,b,xs,rfl,hp,ha,k⟩:=h;refine ⟨_,AF (CV (pv 0) (pv 1) rfl) (AG (CV (pv 0) (KD (CD (pv 2)) AK (CI Sd (Aa Ae (by rfl) bl PySem.boot_len (AA (pv 1) AC)) AK)) rfl)),?_⟩;have nap:a≠p:=A7 ha hp (by kpt_eq);refine ⟨_,rfl,_,rfl,p,C,dx,[],rfl,hp,T.cl,T.nA,(by show 0<1000;decide),?_⟩;have YD:(upd H p (.ins C dx (BX "acts" (.ref a) []))) a=some (.lst xs):=by rw[AI nap];exact ha
  refine ⟨_,rfl,_,rfl,?_⟩;have fin:∀n:Int,n=(if b=true then 0 else (xs.length:Int)+1)->Q .Bo (upd (upd H p (.ins C dx (BX "acts" (.ref a) []))) p (.ins C dx (BX "wrong_line" (.int n) (BX "acts" (.ref a) [])))):=fun n hn=>by
   rw[DU,xK,hn];refine k _ ?_ fun b o e hb=>by rw[AI hb];exact e
   exact AB
  cases b with
  |true=>
   refine CJ ?_;exact ⟨_,rfl,p,C,dx,_,rfl,AB,T.cl,T.nW,(by show 1<1000;decide),fin 0 rfl⟩
  |false=>
   refine B1 ?_;exact ⟨_,rfl,a,_,rfl,.inl (Ao.of YD),_,_,rfl,rfl,_,rfl,p,C,dx,_,rfl,AB,T.cl,T.nW,(by show 1<1000;decide),fin _ rfl⟩
structure yw (C:Addr)(H0 H:Hp)(r:Addr)(t:List Nat):Prop where
 ex:∃(dx la:Addr) (as:List Addr) (ops:List Op) (n:Int),H0 r=none/\H0 dx=none/\H0 la=none/\H r=some (.ins C dx (rf la n))/\H la=some (.lst (as.map V.ref))/\Iw H as ops/\ops.length<=12/\
  ((readOps t= .ok ops/\n=0)\/(readOps t= .error (ops.length+1)/\n=ops.length+1))
def IJ (K:PySem.W.Frag)(C:Addr):Sp:=fun vs H Q _=>∃(a:Addr) (t:List Nat),vs=[.ref a]/\Ao K H a (t.map fun (b:Nat)=>V.int (b:Int))/\t.length<=2000/\∀H' r,AW H H'->yw C H H' r t->Q (.ref r) H'
theorem NF:AT ["text","lines","acts","line","act","byte"] ["text"] (AO Jy):=⟨rfl,rfl,rfl,by decide+kernel,rfl,by decide+kernel,by decide+kernel⟩
theorem Tc:∀l:List Nat,TL.WW [] (l.map fun c=> [c])=l
 | []=>rfl
 | [c]=>rfl
 |c::d::l=>by
  have ih:=Tc (d::l);show [c]++([]++TL.WW [] ((d::l).map fun c=> [c]))=_;rw[ih];rfl
theorem dc (l:List Nat):Txt.join "" (l.map fun b=>S [BD b])=S (l.map BD):=by
 apply TL.Ms;rw[TL.join_eq,TL.fU,map_map,ABo];have e:TL.tl ""=[]:=by decide+kernel
 show TL.WW (TL.tl "") _=_;rw[e];have e2:l.map (TL.tl∘fun b=>S [BD b])=(l.map BD).map fun c=> [c]:=by rw[map_map];rfl
 rw[e2,Tc]
theorem lC (xs:List V):UG xs none (some (-1))=xs.dropLast:=by
 unfold UG;rw[HT.R0,drop_zero,List.dropLast_eq_take]
 congr 1
 unfold HT.Fh;simp;omega
theorem Fz:Str.ofString ""=S []:=by
 apply TL.Ms;show TL.tl ""=[];decide+kernel
theorem mm (l:List Nat):((l.map fun b=>S [BD b]).map (·.length)).sum=l.length:=by
 induction l with
 |nil=>rfl
 |cons a l ih=>
  rw[map_cons,map_cons,List.sum_cons,ih,length_cons];show 1+l.length=l.length+1;omega
theorem Xj {f g a i C:Addr}{fd gd ad id':FuncData}(F:CB K "read_text" "read_text" Jy f fd)(T:Hw K mg C)(bl:mg "len"=none)(most:Gv mg "MOST_ACTS" (.int 12))
  (okS:AR P w K mg base As 2 g gd ["byte"] RY) (bS:Binds K gd ["byte"] []) (mgS:mg "sign_of"=some (.ref g)) (kS:keepIn K (.ref g)=true)
  (okA:AR P w K mg base As 3 a ad ["line"] P4) (bA:Binds K ad ["line"] []) (mgA:mg "read_act"=some (.ref a)) (kA:keepIn K (.ref a)=true)
  (M:Mk K C i) (okI:AR P w K mg base As 1 i id' ["self","acts","is_right"] (DW K C)) (bI:Binds K id' ["self","acts","is_right"] []):
  AR P w K mg base As 4 f fd ["text"] (IJ K C):=by
 refine F.ok NF (fun vs H Q E h=>?_) (fun BM A outer s H vs Q E hr h=>?_)
 ·obtain ⟨_,_,rfl,_⟩:=h;rfl
 ·obtain ⟨t0,t,rfl,hS,hz,q⟩:=h;obtain ⟨uM,mM,rM⟩:=most;have nd:=NF.nd;kxf_eq;have hrI:Aq (1+1) _:=hr.mono (by decide);refine ⟨_,AF (AZ (i:=1) nd rfl (Or.inl rfl) (SN (tH Bl
     (GD (own:= [("byte",5)]) rfl nd (BF (pv 0)) (Bn (by kernel_rfl)) (fun _ _ _ _ _=>A2 (i:=5) nd rfl (Or.inl rfl)) (fun _ _ _ _ _=>Ez)
      (fun _ _ _ _ _=>AX okS Gg rfl mgS kS bS .nil AU (AA (pv 5) AC)))) Bl))
   (AF (AZ (i:=2) nd rfl (Or.inl rfl) (Aj AC))
   (AF (Du PassesOwn.never rfl (BF (Nj XJ (pv 1) Xe (Nh (wB mN AK)))) (A2 (i:=3) nd rfl (Or.inl rfl))
    (AF (AZ (i:=4) nd rfl (Or.inl rfl) (AX okA hr rfl mgA kA bA .nil AU (AA (pv 3) AC)))
    (AF (A0 (V7 (MS (O4 (pv 4))) (SJ (Al Ea (Aa Ae (by rfl) bl PySem.boot_len (AA (pv 2) AC)) (Ad (by rfl) mM rM) (Av _)))).pt
      (AG (AQ (RF M okI hrI rfl T.mgC bI .nil AU (AA (pv 2) (AA Zr AC))))) Af)
    (AG (Bt (JD plainAttrs_list PySem.F.slot_list_append PySem.F.type_list_append D8 (pv 2) (AA (pv 4) AC)))))))
   (AG (AQ (RF M okI hrI rfl T.mgC bI .nil AU (AA (pv 2) (AA (KE (DX gB (Aa Ae (by rfl) bl PySem.boot_len (AA (pv 2) AC)) AK (Av _))
     (GC (DX Ea (Ar Ag (pv 1) (wB mN AK) (fun _ _=>rfl)) Bl (Av _)))) AC))))))),?_⟩
  refine ⟨⟨_,rfl⟩,_,rfl,t0,rfl,⟨_,hS⟩,fun D hD=>?_⟩;refine DI (K:=K) (a:=t0) (xs:=t.map fun (b:Nat)=>V.int (b:Int)) (fun i H'=>H' D=some (.lst (((t.take i).map fun b=>S [BD b]).map V.str))/\AW H H') ⟨AB,fun b o e=>by rw[AI (AH e hD)];exact e⟩
   (fun i H' _ ⟨_,s'⟩=>s'.seq hS) ?_ ?_
  ·rintro i x H' hx ⟨Ct,s'⟩;obtain ⟨b,hb,rfl⟩:∃b:Nat,t[i]? =some b/\x=V.int (b:Int):=by
    rw[getElem?_map]at hx;cases e:t[i]? with
    |none=>rw[e]at hx;cases hx
    |some b=>rw[e]at hx;exact ⟨b,rfl,(Option.some.inj hx).symm⟩
   refine ⟨rfl,Ut ?_⟩;refine ⟨_,rfl,b,rfl,_,Ct,?_,?_,fun c o e=>?_⟩
   ·rw[length_map,length_map,length_take];exact Nat.lt_of_le_of_lt (Nat.min_le_right _ _) (Nat.lt_of_le_of_lt hz (by decide))
   ·rw[AB,take_add_one,hb];simp
   ·rw[AI (AH e hD)];exact s' c o e
  rintro H1 ⟨yT,s1⟩;rw[length_map,take_length]at yT;refine ⟨_,D,_,rfl,rfl,.inl (Ao.of yT),?_,?_⟩
  ·rw[mm,length_map];show t.length+t.length*(Str.ofString "").length<=_;rw[Fz,Hx];simp;omega
  rw[dc];refine ⟨⟨_,rfl⟩,_,_,rfl,rfl,by decide+kernel,by rw[Hx,length_map];exact Nat.le_trans (Nat.add_le_add_right hz 2) (by decide),?_⟩;rw[Og d8 (by decide)];intro pl Mx;have hLt:cutAt 10 (t.map BD)=(cutAt 10 t).map (map BD):=UD 10 (by decide) t;have wZ:∀w∈cutAt 10 (t.map BD),w.length<=20000:=fun w hw=>Nat.le_trans (UE hw) (by rw[length_map];omega);have hLn:=gy 10 (t.map BD);rw[length_map]at hLn;have AEs:=Cp 10 (t.map BD);generalize hL:cutAt 10 (t.map BD)=L at hLt wZ hLn AEs;have s2:AW H1 (upd H1 pl (.lst ((L.map S).map V.str))):=fun b o e=>by rw[AI (AH e Mx)];exact e
  generalize Wj:upd H1 pl (.lst ((L.map S).map V.str))=H2 at s2;have yE:H2 pl=some (.lst ((L.map S).map V.str)):=by rw[<- Wj];exact AB
  refine ⟨zero_le _,fun pa aj=>?_⟩;have s3:AW H2 (upd H2 pa (.lst [])):=fun b o e=>by rw[AI (AH e aj)];exact e
  generalize zT:upd H2 pa (.lst [])=H3 at s3;have dm:H3 pa=some (.lst []):=by rw[<- zT];exact AB
  have s03:AW H H3:=(s1.trans s2).trans s3;refine ⟨_,rfl,1,rfl,_,rfl,pl,_,rfl,Ao.of (s3 _ _ yE),fun ps dl=>?_⟩;rw[lC, <- map_dropLast, <- map_dropLast];have s4:AW H3 (upd H3 ps (.lst ((L.dropLast.map S).map V.str))):=fun b o e=>by rw[AI (AH e dl)];exact e
  generalize yS:upd H3 ps (.lst ((L.dropLast.map S).map V.str))=H4 at s4;have AA1:H4 ps=some (.lst ((L.dropLast.map S).map V.str)):=by rw[<- yS];exact AB
  have AD6:H4 pa=some (.lst []):=s4 _ _ dm;have AD5:H4 pl=some (.lst ((L.map S).map V.str)):=s4 _ _ (s3 _ _ yE);have ADX:pl≠pa:=AH yE aj;have ADW:ps≠pa:=fun z=>by rw[z,dm]at dl;cases dl
  have yF:H pa=none:=(s1.trans s2).free aj;let J:Nat->L2.St->Hp->Prop:=fun i σ H'=>∃(vl va:Option V) (as:List Addr) (ops:List Op),σ=[some (.ref t0),some (.ref pl),some (.ref pa),vl,va,none]/\H' pa=some (.lst (as.map V.ref))/\(∀b o,H4 b=some o->b≠pa->H' b=some o)/\
   Iw H' as ops/\(L.dropLast.take i).map opOf=ops.map some/\ops.length<=12
  have Wk:∀{H':Hp},(∀b o,H4 b=some o->b≠pa->H' b=some o)->AW H H':=fun {H'} k b o e=>k b o (s4 _ _ (s03 _ _ e)) (AH e yF);have mapOf:∀ls:List (List Nat),(ls.map (map BD)).map opOf=ls.map opOf:=fun ls=>by
   rw[map_map];exact map_congr_left fun l _=>WG l
  have zS:L.dropLast=(cutAt 10 t).dropLast.map (map BD):=by rw[hLt,map_dropLast]
  refine ⟨ps,rfl,⟨_,Ao.of AA1⟩,Ch (K:=K) (a:=ps) (xs:=(L.dropLast.map S).map V.str) J ⟨none,none,[],[],rfl,AD6,fun b o e _=>e,.nil,rfl,by simp⟩ ?_ ?_ ?_⟩
  ·intro i σ H' _ zz;isplit;obtain ⟨vl,va,as,ops,rfl,h1,h2,h3,h4,h5⟩:=zz;kl_no;exact Ao.of (h2 _ _ AA1 ADW)
  ·intro i x σ H' hx zz;isplit;obtain ⟨vl,va,as,ops,rfl,h1,h2,h3,h4,h5⟩:=zz;kl_no;obtain ⟨l,hl,rfl⟩:∃l,L.dropLast[i]? =some l/\x=V.str (S l):=by
    rw[getElem?_map,getElem?_map]at hx;cases e:L.dropLast[i]? with
    |none=>rw[e]at hx;cases hx
    |some b=>rw[e]at hx;exact ⟨b,rfl,(Option.some.inj hx).symm⟩
   have hlm:l∈L:=List.dropLast_subset _ (mem_of_getElem? hl);have Qv:=BZ h3;have split:L.dropLast=L.dropLast.take i++l::L.dropLast.drop (i+1):=by
    obtain ⟨hi,he⟩:=List.getElem?_eq_some_iff.mp hl;rw[<- he, <- drop_eq_getElem_cons hi,take_append_drop]
   refine ⟨_,rfl,l,rfl,wZ l hlm,fun H5 av s5 hA=>?_⟩;have gi:=s5 _ _ h1;have zV:∀b o,H4 b=some o->b≠pa->H5 b=some o:=fun b o e n=>s5 _ _ (h2 b o e n);have h3':=h3.CW (Fx.of s5);have stop:(opOf l=none\/ops.length=12)->∀(vl' va':Option V),mh C (DW K C) [] E0 (mj (ZC 2) (mj (tC (V.bl false)) sU)) [some (.ref t0),some (.ref pl),some (.ref pa),vl',va',none] H5 Q:=by
    intro wQ vl' va';refine ⟨_,rfl,fun r dx gX hd0 zR=>?_⟩;have s6:AW H5 (upd (upd H5 dx (.own r)) r (.ins C dx [])):=fun b o e=>by rw[AI (AH e gX),AI (AH e hd0)];exact e
    refine ⟨r,dx,pa,false,_,rfl,AB,s6 _ _ gi,fun H6 wR k6=>⟨rfl,?_⟩⟩;have s7:AW H5 H6:=fun b o e=>k6 b o (s6 b o e) (AH e gX);refine q H6 r ((Wk zV).trans s7) ⟨dx,pa,as,ops,_,(Wk zV).free gX,(Wk zV).free hd0,yF,wR,s7 _ _ gi,h3'.CW (Fx.of s7),h5,.inr ⟨?_,?_⟩⟩
    ·have C2:(cutAt 10 t).dropLast.map opOf=L.dropLast.map opOf:=by rw[zS,mapOf]
     rw[zS]at split;have YB:∃pre x post,(cutAt 10 t).dropLast=pre++x::post/\pre.map (map BD)=(L.dropLast.take i)/\x.map BD=l:=by
      have hi:((cutAt 10 t).dropLast.map (map BD))[i]? =some l:=by rw[<- zS];exact hl
      rw[getElem?_map]at hi;cases e:(cutAt 10 t).dropLast[i]? with
      |none=>rw[e]at hi;cases hi
      |some x=>
       rw[e]at hi;obtain ⟨hi2,he⟩:=List.getElem?_eq_some_iff.mp e;refine ⟨(cutAt 10 t).dropLast.take i,x,(cutAt 10 t).dropLast.drop (i+1),?_,?_,Option.some.inj hi⟩
       ·rw[<- he, <- drop_eq_getElem_cons hi2,take_append_drop]
       ·rw[zS,map_take]
     isplit;obtain ⟨pre,x,post,e1,e2,e3⟩:=YB;kl_no;refine XR e1 ?_ h5 ?_
     ·rw[<- h4, <- e2,mapOf]
     ·rcases wQ with z | z
      ·left;rw[<- WG,e3];exact z
      ·exact .inr z
    ·rw[length_map,Qv];rfl
   refine ⟨_,rfl,_,rfl,?_⟩;cases ho:opOf l with
   |none=>
    rw[ho]at hA;obtain rfl:av= .Bo:=hA;rw[Td];refine CJ ?_;exact stop (.inl ho) _ _
   |some o=>
    rw[ho]at hA;obtain ⟨aa,rfl,hA⟩:=hA;rw[S3];refine B1 ?_;refine ⟨_,rfl,pa,_,rfl,.inl (Ao.of gi),rfl,_,rfl,?_⟩;rw[length_map,Qv];kpt_hd
    ·have z:ops.length=12:=by
      have:=V.int.inj (of_decide_eq_true z);omega
     exact stop (.inr z) _ _
    ·have z:ops.length≠12:=fun e=>z (decide_eq_true (by rw[e];rfl));refine ⟨_,rfl,.inl ⟨rfl,_,Ao.of gi⟩,_,rfl,pa,_,_,rfl,rfl,gi,?_,?_⟩
     ·rw[length_map,Qv];exact Nat.lt_of_le_of_lt h5 (by decide)
     ·refine ⟨_,_,as ++ [aa],ops ++ [o],rfl,?_,fun b p e n=>?_,?_,?_,?_⟩
      ·rw[AB,map_append];rfl
      ·rw[AI n];exact zV b p e n
      ·exact FA (h3'.CW (Fx.upd gi (by intro xs z;cases z))) (hA.CW (Fx.upd gi (by intro xs z;cases z)))
      ·rw[take_add_one,hl,map_append,map_append,h4];show _ ++ [opOf l]=_;rw[ho];rfl
      ·rw[length_append];show ops.length+1<=12;omega
  ·intro σ H' zz;isplit;obtain ⟨vl,va,as,ops,rfl,h1,h2,h3,h4,h5⟩:=zz;kl_no;rw[length_map,length_map,take_length]at h4;have Qv:=BZ h3;have h4':(cutAt 10 t).dropLast.map opOf=ops.map some:=by rw[<- mapOf, <- zS];exact h4
   have pz:=Zc h4' h5;have h2l:=h2 _ _ AD5 ADX;have p9:=Cp 10 t;have pj:L=L.dropLast ++ [((cutAt 10 t).getLast p9).map BD]:=by
    have e1:=List.dropLast_concat_getLast p9;have e2:=congrArg (map (map BD)) e1;rw[map_append, <- hLt,map_cons,map_nil, <- zS]at e2;exact e2.symm
   have hgl:decide ((cutAt 10 t).getLast?=some [])=decide (((cutAt 10 t).getLast p9).map BD=[]):=by
    rw[List.getLast?_eq_some_getLast p9];apply decide_eq_decide.mpr;simp
   rw[hgl]at pz;generalize ((cutAt 10 t).getLast p9).map BD=last at pj pz;have fin:∀b:Bool,b=(decide (0<ops.length)&&decide (last=[]))->∀r dx,H' r=none->H' dx=none->dx≠r->
     DW K C ([V.ref r]++([V.ref pa,V.bl b] ++ [])) (upd (upd H' dx (.own r)) r (.ins C dx [])) (fun v H2=>v= .Bo/\Q (.ref r) H2) E0:=by
    intro b hb r dx gX hd0 zR;have s6:AW H' (upd (upd H' dx (.own r)) r (.ins C dx [])):=fun b o e=>by rw[AI (AH e gX),AI (AH e hd0)];exact e
    refine ⟨r,dx,pa,b,_,rfl,AB,s6 _ _ h1,fun H6 wR k6=>⟨rfl,?_⟩⟩;have s7:AW H' H6:=fun b o e=>k6 b o (s6 b o e) (AH e gX);refine q H6 r ((Wk h2).trans s7) ⟨dx,pa,as,ops,_,(Wk h2).free gX,(Wk h2).free hd0,yF,wR,s7 _ _ h1,h3.CW (Fx.of s7),h5,?_⟩;rw[<- hb]at pz;cases b with
    |true=>exact .inl ⟨by rw[pz,if_pos rfl],rfl⟩
    |false=>
     refine .inr ⟨by rw[pz,if_neg (by decide)],?_⟩;rw[length_map,Qv];rfl
   refine ⟨_,rfl,_,rfl,pa,_,rfl,.inl (Ao.of h1),_,_,rfl,rfl,_,rfl,?_⟩;rw[length_map,Qv];kpt_hd
   ·have z:0<ops.length:=by have:=of_decide_eq_true z;omega
    refine ⟨_,rfl,1,rfl,pl,_, -1,.str (S last),rfl,rfl,Ao.of h2l,?_,rfl,?_⟩
    ·rw[pj,map_append,map_append];exact rC _ _
    ·refine fin _ ?_;rw[decide_eq_true z,Bool.true_and];apply decide_eq_decide.mpr;constructor
     ·intro e;have e:=V.str.inj e;rw[Fz]at e;exact Ud e
     ·intro e;rw[e,Fz]
   ·have z:¬ 0<ops.length:=fun e=>z (decide_eq_true (by omega));refine fin false ?_;rw[decide_eq_false z,Bool.false_and]
def A8 (c:Nat):List Key:= [.inl ((c / 10:Nat):Int),.inl ((c % 10:Nat):Int)]
theorem KN {c d:Nat}(h:A8 c=A8 d):c=d:=by
 unfold A8 at h;have h1:=Sum.inl.inj (List.cons.inj h).1;have h2:=Sum.inl.inj (List.cons.inj (List.cons.inj h).2).1;omega
theorem Ai.key {H:Hp}{t:Addr}{c:Nat}(h:Ai H t c):H t=some (.tup ((A8 c).map kV)):=h
structure KeysAre (AV:List (List Key×V))(ts:List Nat):Prop where
 has:∀c,(C3 AV (A8 c)).isSome=decide (c∈ts)
 only:∀p∈AV, ∃c∈ts,p.1=A8 c
theorem KeysAre.nil:KeysAre [] []:=⟨fun c=>by rw[Y3];simp,by simp⟩
theorem om {AV:List (List Key×V)}{k:List Key}{v:V}{p:List Key×V}(h:p∈putK AV k v):p.1=k\/∃q∈AV,q.1=p.1:=by
 unfold putK at h;split at h
 ·obtain ⟨q,hq,e⟩:=mem_map.mp h;by_cases z:q.1=k
  ·rw[if_pos z]at e;exact .inl (by rw[<- e];exact z)
  ·rw[if_neg z]at e;exact .inr ⟨q,hq,by rw[e]⟩
 ·rcases mem_append.mp h with z | z
  ·exact .inr ⟨p,z,rfl⟩
  ·simp at z;exact .inl (by rw[z])
theorem KeysAre.put {AV:List (List Key×V)}{ts:List Nat}(h:KeysAre AV ts)(c:Nat)(v:V):KeysAre (putK AV (A8 c) v) (ts ++ [c]):=by
 refine ⟨fun d=>?_,fun p hp=>?_⟩
 ·rw[Y1];by_cases e:A8 d=A8 c
  ·rw[if_pos e];have:=KN e;subst this;simp
  ·rw[if_neg e,h.has d];apply decide_eq_decide.mpr;have:d≠c:=fun z=>e (by rw[z]);simp[this]
 ·rcases om hp with z | ⟨q,hq,z⟩
  ·exact ⟨c,by simp,z⟩
  ·obtain ⟨d,hd,e⟩:=h.only q hq;exact ⟨d,by simp[hd],by rw[<- z,e]⟩
def Hv:Op->Nat
 | .copy _ d=>d
 | .join _ d=>d
 | .swap _ d=>d
 |_=>0
def gT:Op->Bool
 | .copy _ _=>true
 | .join _ _=>true
 | .swap _ _=>true
 |_=>false
theorem Fy.two {H:Hp}{v:V}:∀{o:Op},Fy H v o->gT o=true->∃u,v= .ref u/\Ai H u (Hv o)
 | .set _ _,_,h=>by cases h
 | .clear _,_,h=>by cases h
 | .copy _ d,h,_=>h
 | .join _ d,h,_=>h
 | .swap _ d,h,_=>h
 | .need _ _,_,h=>by cases h
def EC (o:Op)(F:List Str):Bool:=F.any fun x=>x==S (EV o)
theorem WY (o:Op)(F:List Str):zI (.str (S (EV o))) (F.map V.str)=EC o F:=by
 unfold zI EC;rw[any_map];rfl
theorem Ty (F:List Str):(F.map V.str).all G1=true:=by
 rw[all_map,all_eq_true];intro x _;rfl
def Ce (F G:List Str)(ops:List Op):List Nat:=ops.flatMap fun o=>(if EC o F=true then [DC o]else [])++if EC o G=true then [Hv o]else []
theorem LW (F G:List Str)(ops:List Op)(o:Op):Ce F G (ops ++ [o])=Ce F G ops++((if EC o F=true then [DC o]else [])++if EC o G=true then [Hv o]else []):=by
 unfold Ce;rw[List.flatMap_append];simp
theorem Az {α β:Type}{F:α->β->Prop}:∀{l:List α} {m:List β} {i:Nat} {a:α},Paired F l m->l[i]? =some a->∃b,m[i]? =some b/\F a b
 |_,_,_,_,.nil,h=>by simp at h
 |_,_,0,_,.cons r t,h=>by simp at h;subst h;exact ⟨_,rfl,r⟩
 |_,_,i+1,a,.cons r t,h=>by
  obtain ⟨b,h1,h2⟩:=Az (i:=i) t (by simpa using h);exact ⟨b,by simpa using h1,h2⟩
def M9 (K:PySem.W.Frag):Sp:=fun vs H Q _=>∃(la wf ws:Addr) (as:List Addr) (ops:List Op) (F G:List Str),vs=[.ref la,.ref wf,.ref ws]/\H la=some (.lst (as.map V.ref))/\Iw H as ops/\ops.length<=12/\
 Gi K H wf (F.map V.str)/\Gi K H ws (G.map V.str)/\(∀o∈ops,EC o G=true->gT o=true)/\
 ∀H' d AV,H d=none->AW H H'->H' d=some (.dT AV)->KeysAre AV (Ce F G ops)->AV.length<=24->Q (.ref d) H'
theorem NE:AT ["acts","with_first","with_second","found","act"] ["acts","with_first","with_second"] (AO Jv):=⟨rfl,rfl,rfl,by decide+kernel,rfl,by decide+kernel,by decide+kernel⟩
theorem Gi.same {H H':Hp}{a:Addr}{xs:List V}(s:AW H H')(h:Gi K H a xs):Gi K H' a xs:=by
 rcases h with (h | ⟨o,h⟩) | h
 ·exact .inl (.inl (s _ _ h))
 ·exact .inl (.inr ⟨o,s _ _ h⟩)
 ·exact .inr h
theorem Xi {f:Addr}{fd:FuncData}(F:CB K "things_of" "things_of" Jv f fd):AR P w K mg base As 1 f fd ["acts","with_first","with_second"] (M9 K):=by
 refine F.ok NE (fun vs H Q E h=>?_) (fun BM A outer s H vs Q E hr h=>?_)
 ·obtain ⟨la,wf,ws,as,ops,F,G,rfl,_⟩:=h;rfl
 ·obtain ⟨la,wf,ws,as,ops,F,G,rfl,rg,hA,uv,hF,hG,ADv,q⟩:=h;have nd:=NE.nd;have hu:=N7 hr;refine ⟨_,AF (AZ (i:=3) nd rfl (Or.inl rfl) Zq)
   (AF (Du PassesOwn.never rfl (BF (pv 0)) (A2 (i:=4) nd rfl (Or.inl rfl))
    (AF (A0 (Al WF (Ar Cw (pv 4) AK (fun _ _=>rfl)) (pv 1) rfl) (AG (Gq hu (pv 3) (Ar Cw (pv 4) AK (fun _ _=>rfl)) Zr rfl)) Af)
    (AG (A0 (Al WF (Ar Cw (pv 4) AK (fun _ _=>rfl)) (pv 2) rfl) (AG (Gq hu (pv 3) (Ar Cw (pv 4) AK (fun _ _=>rfl)) Zr rfl)) Af))))
   (AG (AQ (pv 3)))),?_⟩
  intro d hd;have s1:AW H (upd H d (.dT [])):=fun b o e=>by rw[AI (AH e hd)];exact e
  have Qv:=BZ hA;have nld:la≠d:=AH rg hd;let J:Nat->L2.St->Hp->Prop:=fun i σ H'=>∃(va:Option V) (AV:List (List Key×V)),σ=[some (.ref la),some (.ref wf),some (.ref ws),some (.ref d),va]/\H' d=some (.dT AV)/\AW H H'/\KeysAre AV (Ce F G (ops.take i))/\AV.length<=2*i;refine ⟨_,rfl,la,rfl,⟨_,Ao.of (s1 _ _ rg)⟩,Ch (K:=K) (a:=la) (xs:=as.map V.ref) J ⟨none,[],rfl,AB,s1,KeysAre.nil,by simp⟩ ?_ ?_ ?_⟩
  ·intro i σ H' _ zz;isplit;obtain ⟨va,AV,rfl,h1,h2,h3,h4⟩:=zz;kl_no;exact Ao.of (h2 _ _ rg)
  ·intro i x σ H' hx zz;isplit;obtain ⟨va,AV,rfl,h1,h2,h3,h4⟩:=zz;kl_no;obtain ⟨a,ha,rfl⟩:∃a,as[i]? =some a/\x=V.ref a:=by
    rw[getElem?_map]at hx;cases e:as[i]? with
    |none=>rw[e]at hx;cases hx
    |some b=>rw[e]at hx;exact ⟨b,rfl,(Option.some.inj hx).symm⟩
   obtain ⟨o,ho,uq⟩:=Az hA ha;have hom:o∈ops:=mem_of_getElem? ho;have hi:i<12:=by
    have:=(List.getElem?_eq_some_iff.mp ho).1;omega
   isplit;obtain ⟨t,v,ht1,ht2,ht3⟩:=uq.same h2;kl_no;have hF':=Gi.same h2 hF;have step:∀(H5:Hp) (pE:List (List Key×V)) (ts5:List Nat),ts5=Ce F G (ops.take i)++(if EC o F=true then [DC o]else [])->H5 d=some (.dT pE)->AW H H5->Fx H' H5->KeysAre pE ts5->pE.length<=2*i+1->
     AAA (md (xA (rIn K false) (xA (xN K) (ZC 4) (tC (V.int 0))) (ZC 2))) (v6 (ZC 3) (xA (xN K) (ZC 4) (tC (V.int 2))) (tC (V.bl true))) vz { nx:=J (i+1),ct:=J (i+1),rt:=Q,bk:=fun σ H=>zu (ZC 3) { nx:=fun _ H'=>Q .Bo H',rt:=Q } σ H } [some (.ref la),some (.ref wf),some (.ref ws),some (.ref d),some (.ref a)] H5:=by
    intro H5 pE ts5 hts h51 h52 h53 h54 h55;have hG5:=Gi.same h52 hG;have e1:=h53 _ _ ht1;refine ⟨_,rfl,a,_,0,_,rfl,rfl,Gi.of e1,rfl,_,rfl,ws,_,rfl,.inr hG5,rfl,Ty G,_,rfl,?_⟩;rw[if_neg (by decide),WY];kpt_hd
    ·obtain ⟨u,rfl,gW⟩:=ht3.two (ADv o hom z);refine ⟨_,rfl,_,rfl,a,_,2,_,rfl,rfl,Gi.of e1,rfl,d,_,rfl,RA.t (k:=A8 (Hv o)) h51 (h53 _ _ gW) (Nat.lt_of_le_of_lt h55 (by rw[sizeLine_eq];omega)),?_⟩;refine ⟨_,_,rfl,AB,fun b p e=>?_,?_,?_⟩
     ·rw[AI (AH e hd)];exact h52 b p e
     ·have:=h54.put (Hv o) (.bl true);rw[take_add_one,ho];show KeysAre _ (Ce F G (ops.take i ++ [o]));rw[LW,if_pos z, <- append_assoc, <- hts];exact this
     ·exact Nat.le_trans (FB _ _ _) (by omega)
    ·refine ⟨_,pE,rfl,h51,h52,?_,by omega⟩;rw[take_add_one,ho];show KeysAre _ (Ce F G (ops.take i ++ [o]));rw[LW,if_neg z,append_nil, <- hts];exact h54
   refine ⟨_,rfl,a,_,0,_,rfl,rfl,Gi.of ht1,rfl,_,rfl,wf,_,rfl,.inr hF',rfl,Ty F,_,rfl,?_⟩;rw[if_neg (by decide),WY];kpt_hd
   ·refine ⟨_,rfl,_,rfl,a,_,1,_,rfl,rfl,Gi.of ht1,rfl,d,_,rfl,RA.t (k:=A8 (DC o)) h1 ht2 (Nat.lt_of_le_of_lt h4 (by rw[sizeLine_eq];omega)),?_⟩;refine step _ _ _ (by rw[if_pos z]) AB (fun b p e=>?_) (Fx.upd h1 (by intro xs z;cases z)) (h3.put (DC o) (.bl true)) (Nat.le_trans (FB _ _ _) (by omega));rw[AI (AH e hd)];exact h2 b p e
   ·exact step _ AV _ (by rw[if_neg z,append_nil]) h1 h2 (fun _ _ e=>e) h3 (by omega)
  ·intro σ H' zz;isplit;obtain ⟨va,AV,rfl,h1,h2,h3,h4⟩:=zz;kl_no;rw[length_map,Qv,take_length]at h3;rw[length_map,Qv]at h4;exact ⟨_,rfl,q H' d AV hd h2 h1 h3 (by omega)⟩
structure RW (C:Addr)(H:Hp)(a:Addr)(ops:List Op):Prop where
 ex:∃(dx lr lw:Addr) (fs:List (Str×V)) (kr kw:List (List Key×V)),H a=some (.ins C dx fs)/\fs.lookup ("reads":Str)=some (.ref lr)/\fs.lookup ("writes":Str)=some (.ref lw)/\
  H lr=some (.dT kr)/\H lw=some (.dT kw)/\KeysAre kr (readsOf ops)/\KeysAre kw (writesOf ops)/\kr.length<=24/\kw.length<=24
theorem RW.same {C:Addr}{H H':Hp}{a:Addr}{ops:List Op}(s:AW H H')(h:RW C H a ops):RW C H' a ops:=by
 obtain ⟨dx,lr,lw,fs,kr,kw,h1,h2,h3,h4,h5,h6⟩:=h.ex;exact ⟨dx,lr,lw,fs,kr,kw,s _ _ h1,h2,h3,s _ _ h4,s _ _ h5,h6⟩
structure Br (K:PySem.W.Frag)(C:Addr):Prop where
 cl:fP K C
 nR:A6 K C "reads"
 nW:A6 K C "writes"
 nA:A6 K C "acts"
 nS:A6 K C "seen"
 nT:A6 K C "stands"
 nC:A6 K C "condition"
 nE:A6 K C "editor"
 nX:A6 K C "text"
theorem fj {H:Hp}{d a:Addr}{u:HO}{od:Obj}{AV:List (List Key×V)}(hd:H d=some u)(ha:H a=some (.dT AV)):Rd (upd H d (.EA od u)) a (.dT AV):=by
 by_cases e:a=d
 ·subst e;rw[hd]at ha;cases ha;exact .inr ⟨od,AB⟩
 ·exact .inl (by rw[AI e];exact ha)
theorem Rd.same {H H':Hp}{a:Addr}{u:HO}(s:AW H H')(h:Rd H a u):Rd H' a u:=by
 rcases h with h | ⟨o,h⟩
 ·exact .inl (s _ _ h)
 ·exact .inr ⟨o,s _ _ h⟩
def Rc (C:Addr):Sp:=fun vs H Q _=>∃(g t:Addr) (og ot:List Op),vs=[.ref g,.ref t]/\RW C H g og/\RW C H t ot/\∀H',AW H H'->Q (.bl (feeds og ot)) H'
theorem ZU:AT ["giver","taker","thing"] ["giver","taker"] (AO XO):=⟨rfl,rfl,rfl,by decide+kernel,rfl,by decide+kernel,by decide+kernel⟩
theorem kO {kw:List (List Key×V)}{og ot:List Op}{cs:List Nat}(h:KeysAre kw (writesOf og))(hc:Paired (fun p c=>p.1=A8 c) kw cs):
  (cs.map fun c=>decide (c∈readsOf ot)||decide (c∈writesOf ot)).any id=feeds og ot:=by
 unfold feeds shared;rw[any_map,Bool.eq_iff_iff,any_eq_true,any_eq_true];have ADf:∀{kw:List (List Key×V)} {cs:List Nat},Paired (fun p c=>p.1=A8 c) kw cs->∀c,c∈cs->∃p∈kw,p.1=A8 c:=by
  intro kw cs hp;induction hp with
  |nil=>intro c hc;cases hc
  |cons r t ih=>
   intro c hc;rcases mem_cons.mp hc with z | z
   ·subst z;exact ⟨_,mem_cons_self ..,r⟩
   ·obtain ⟨p,hp,e⟩:=ih c z;exact ⟨p,mem_cons_of_mem _ hp,e⟩
 have ADe:∀{kw:List (List Key×V)} {cs:List Nat},Paired (fun p c=>p.1=A8 c) kw cs->∀p∈kw, ∃c∈cs,p.1=A8 c:=by
  intro kw cs hp;induction hp with
  |nil=>intro c hc;cases hc
  |cons r t ih=>
   intro c hc;rcases mem_cons.mp hc with z | z
   ·subst z;exact ⟨_,mem_cons_self ..,r⟩
   ·obtain ⟨p,hp,e⟩:=ih c z;exact ⟨p,mem_cons_of_mem _ hp,e⟩
 constructor
 ·rintro ⟨c,Ys,hb⟩;obtain ⟨p,hp,e⟩:=ADf hc c Ys;obtain ⟨d,hd,e2⟩:=h.only p hp;have:c=d:=KN (e.symm.trans e2);subst this;refine ⟨c,hd,?_⟩;simp only[Function.comp,id,Bool.or_eq_true,decide_eq_true_eq]at hb;simp only[List.contains_eq_mem,mem_append,decide_eq_true_eq];exact hb
 ·rintro ⟨c,Ys,hb⟩;have hs:=h.has c;rw[decide_eq_true Ys]at hs;obtain ⟨v,hv⟩:=Option.isSome_iff_exists.mp hs;have hk:=fS hv;obtain ⟨p,hp,e⟩:=mem_map.mp hk;obtain ⟨d,hd,e2⟩:=ADe hc p hp;have:c=d:=KN (e.symm.trans e2);subst this;refine ⟨c,hd,?_⟩;simp only[List.contains_eq_mem,mem_append,decide_eq_true_eq]at hb;simp only[Function.comp,id,Bool.or_eq_true,decide_eq_true_eq];exact hb
theorem WT:∀(kw:List (List Key×V)) (ts:List Nat),(∀p∈kw, ∃c∈ts,p.1=A8 c)->∃cs,Paired (fun p c=>p.1=A8 c) kw cs
 | [],_,_=>⟨[],.nil⟩
 |p::r,ts,h=>by
  obtain ⟨c,_,e⟩:=h p (mem_cons_self ..);obtain ⟨cs,aq⟩:=WT r ts fun q hq=>h q (mem_cons_of_mem _ hq);exact ⟨c::cs,.cons e aq⟩
theorem oM {f C:Addr}{fd:FuncData}(F:CB K "feeds" "feeds" XO f fd)(T:Br K C)(ba:mg "any"=none):AR P w K mg base As 1 f fd ["giver","taker"] (Rc C):=by
 refine F.ok ZU (fun vs H Q E h=>?_) (fun BM A outer s H vs Q E hr h=>?_)
 ·obtain ⟨g,t,og,ot,rfl,_⟩:=h;rfl
 ·obtain ⟨g,t,og,ot,rfl,hg,ht,q⟩:=h;isplit;obtain ⟨dg,lrg,dZ,fsg,krg,rY,g1,g2,g3,g4,g5,g6,g7,g8,g9⟩:=hg.ex;kl_no;isplit;obtain ⟨dt,lrt,lwt,fst,krt,kwt,t1,t2,t3,t4,t5,t6,t7,t8,t9⟩:=ht.ex;kl_no;have nd:=ZU.nd;have hu:=N7 hr;refine ⟨_,AG (AQ (Aa (qp rfl) (by rfl) ba boot_any (AA (tG
   (GD (own:= [("thing",2)]) rfl nd (tF (Ap (pv 0) rfl)) (Bn (by kernel_rfl)) (fun _ _ _ _ _=>A2 (i:=2) nd rfl (Or.inl rfl)) (fun _ _ _ _ _=>Ez)
    (fun _ _ _ _ _=>ny (n9 (ck (by exact hu) (pv 2) (Xg K (pv 1))) (by rfl)) (GC (n9 (ck (by exact hu) (pv 2) (Xg K (pv 1))) (by rfl)))))) AC))),?_⟩
  refine ⟨dZ,_,g5,trivial,fun od=>?_⟩;have ngw:g≠dZ:=A7 g1 g5 (by kpt_eq);have ntw:t≠dZ:=A7 t1 g5 (by kpt_eq);have l1:(upd H dZ (.EA od (.dT rY))) g=some (.ins C dg fsg):=by rw[AI ngw];exact g1
  have l2:(upd H dZ (.EA od (.dT rY))) t=some (.ins C dt fst):=by rw[AI ntw];exact t1
  have l3:Rd (upd H dZ (.EA od (.dT rY))) lrt (.dT krt):=fj g5 t4;have l4:Rd (upd H dZ (.EA od (.dT rY))) lwt (.dT kwt):=fj g5 t5;have l5:(upd H dZ (.EA od (.dT rY))) dZ=some (.EA od (.dT rY)):=AB;have l6:∀b o,H b=some o->b≠dZ->(upd H dZ (.EA od (.dT rY))) b=some o:=fun b o e n=>by rw[AI n];exact e
  generalize upd H dZ (.EA od (.dT rY))=Hl at l1 l2 l3 l4 l5 l6;obtain ⟨cs,aq⟩:=WT rY _ g7.only;have hlen:=BZ aq;refine ⟨_,rfl,g,C,dg,fsg,_,rfl,l1,T.cl,T.nW,g3,dZ,od,rfl,.inr ⟨rY,l5,fun D hD=>?_⟩⟩;refine pB (fun i H'=>H' D=some (.lst (((cs.take i).map fun c=>decide (c∈readsOf ot)||decide (c∈writesOf ot)).map V.bl))/\AW Hl H') ⟨AB,fun b o e=>by rw[AI (AH e hD)];exact e⟩
   (fun i H' _ ⟨_,s'⟩=>s' _ _ l5) ?_ ?_
  ·rintro i k v b H' hk hb ⟨Ct,s'⟩;obtain ⟨c,hc,ec⟩:=Az aq hk;have ec:k=A8 c:=ec;subst ec;have hi:i<24:=by
    have:=(List.getElem?_eq_some_iff.mp hk).1;omega
   have fin:∀z:Bool,z=(decide (c∈readsOf ot)||decide (c∈writesOf ot))->∃acc,H' D=some (.lst acc)/\acc.length<sizeLine/\(upd H' D (.lst (acc ++ [V.bl z]))) D=some (.lst (((cs.take (i+1)).map fun c=>decide (c∈readsOf ot)||decide (c∈writesOf ot)).map V.bl))/\AW Hl (upd H' D (.lst (acc ++ [V.bl z]))):=fun z hz=>by
    refine ⟨_,Ct,?_,?_,fun b o e=>?_⟩
    ·rw[length_map,length_map,length_take];exact Nat.lt_of_le_of_lt (Nat.min_le_left _ _) (by rw[sizeLine_eq];omega)
    ·rw[AB,hz,take_add_one,hc];simp
    ·rw[AI (AH e hD)];exact s' b o e
   refine ⟨rfl,Ut ?_⟩;refine ⟨_,rfl,_,rfl,t,C,dt,fst,_,rfl,s' _ _ l2,T.cl,T.nR,t2,lrt,_,rfl,.inr ⟨krt,A8 c,b,Rd.same s' l3,rfl,hb,rfl⟩,_,rfl,?_⟩;rw[t6.has c];kpt_hd
   ·exact fin true (by rw[z];rfl)
   ·refine ⟨_,rfl,_,rfl,t,C,dt,fst,_,rfl,s' _ _ l2,T.cl,T.nW,t3,lwt,_,rfl,.inr ⟨kwt,A8 c,b,Rd.same s' l4,rfl,hb,rfl⟩,?_⟩;rw[t7.has c];refine fin _ ?_;rw[Bool.eq_false_iff.mpr z,Bool.false_or]
  ·rintro H' ⟨Ct,s'⟩;rw[hlen,take_length]at Ct;have hw':=s' _ _ l5;have nDw:D≠dZ:=A7 Ct hw' (by kpt_eq);refine ⟨hw',D,cs.map fun c=>decide (c∈readsOf ot)||decide (c∈writesOf ot),rfl,Ao.of (by rw[AI nDw];exact Ct),?_⟩;rw[kO g7 aq];refine q _ fun b o e=>?_;by_cases n:b=dZ
   ·subst n;rw[g5]at e;cases e;exact AB
   ·rw[AI n];exact s' _ _ (l6 b o e n)
def QO (c:Nat):Int:=reduceHash (Builtin.Tuple.tupleHashOf [hashInt ((c / 10:Nat):Int),hashInt ((c % 10:Nat):Int)])
noncomputable def gg:List Int:= [1258,723,964,562,567,165,406,411,9,28,269,1279,1284,882,347,588,726,191,329,1167,1172,770,1011,609,614,79,453,1330,56,947,952,786,791,796,394,635,233,238,1248,436,441,275,280,1290,1295,1129,1134,1139,737,163,301,1178,1183,1017,1022,620,625,866,464,483,1360,86,327,1337,802,807,1181,646,784,210,215,1225,690,1064,1069,534,672,373,511,1402,1407,1005,1246,1251,849,854,688,693,291,891,896,494,735,333,338,1348,1353,182,1192,1211,676,1050,515,653,118,123,497,1374,972,938,403,541,6,380,1257,1262,860,1101,1239,429,670,268,1145,1283,112,989,1127,592,966,207,212,1222,51,1061,1066,664,905,910,508,1346,1351,949,954,552,793,391,396,1273,235,254,1131,1269,734,1108,573,578,176,417,15,1157,858,996,461,599,840,305,1315,1320,282,935,940,538,779,377,382,1259,221,1098,1236,662,667,265,270,104,109,1119,1124,589,963,153,158,1404,1409,1007,1012,846,851,316,454]
theorem qB:(range' 11 199).map (fun c=>QO c % 1412)=gg:=by decide+kernel
theorem dv:gg.Nodup:=by decide+kernel
theorem map_inj {α β:Type}{f:α->β}:∀{l:List α},(l.map f).Nodup->∀{a b:α},a∈l->b∈l->f a=f b->a=b
 | [],_,_,_,h,_,_=>by cases h
 |x::l,h,a,b,ha,hb,e=>by
  rw[map_cons,nodup_cons]at h;rcases mem_cons.mp ha with z | z
  ·rcases mem_cons.mp hb with y | y
   ·rw[z,y]
   ·subst z;exact absurd (mem_map.mpr ⟨b,y,e.symm⟩) h.1
  ·rcases mem_cons.mp hb with y | y
   ·subst y;exact absurd (mem_map.mpr ⟨a,z,e⟩) h.1
   ·exact map_inj h.2 z y e
theorem Wf {c d:Nat}(hc:Aw c)(hd:Aw d)(h:QO c=QO d):c=d:=by
 have r:∀{c:Nat},Aw c->c∈range' 11 199:=fun {c} h=>by
  have:=h.parts;rw[List.mem_range'_1];omega
 exact map_inj (f:=fun c=>QO c % 1412) (by rw[qB];exact dv) (r hc) (r hd) (by show QO c % _=QO d % _;rw[h])
theorem Tk (P:Program)(w:World)(c:Nat):(tupleKind (Ah P w)).hash (A8 c)=QO c:=rfl
structure FG (n:Nat)(AV:List (List Key×V))(l:Values):Prop where
 val:∀c,Aw c->(C3 AV (A8 c)).getD (.str (S []))= .str (S (valueOf l c))
 only:∀p∈AV, ∃c w,Aw c/\p.1=A8 c/\p.2= .str (S w)
 nd:(AV.map (·.1)).Nodup
 len:AV.length<=n
 ok:Ue l
theorem FG.nil (n:Nat):FG n [] []:=⟨fun c _=>by rw[Y3];rfl,by simp,by simp,by simp,Ue.nil⟩
theorem FG.mono {n m:Nat}{AV:List (List Key×V)}{l:Values}(h:FG n AV l)(e:n<=m):FG m AV l:=⟨h.val,h.only,h.nd,Nat.le_trans h.len e,h.ok⟩
theorem FG.hashes {n:Nat}{AV:List (List Key×V)}{l:Values}(h:FG n AV l)(P:Program)(w:World):(AV.map fun p=>(tupleKind (Ah P w)).hash p.1).Nodup:=by
 have ho:=h.only;have hn:=h.nd;clear h;induction AV with
 |nil=>simp
 |cons p r ih=>
  rw[map_cons,nodup_cons]at hn ⊢;refine ⟨fun q=>?_,ih (fun x hx=>ho x (mem_cons_of_mem _ hx)) hn.2⟩;obtain ⟨x,hx,e⟩:=mem_map.mp q;obtain ⟨c,_,hc,e1,_⟩:=ho p (mem_cons_self ..);obtain ⟨d,_,hd,e2,_⟩:=ho x (mem_cons_of_mem _ hx);rw[e1,e2,Tk,Tk]at e;have:=Wf hd hc e;subst this;exact hn.1 (mem_map.mpr ⟨x,hx,by rw[e1,e2]⟩)
theorem xc {AV:List (List Key×V)}{k:List Key}(v:V)(hn:(AV.map (·.1)).Nodup):((putK AV k v).map (·.1)).Nodup:=by
 cases e:C3 AV k with
 |none=>exact uA v hn e
 |some y=>
  unfold putK;rw[if_pos (by rw[E6,e];rfl),map_map];have:(AV.map ((fun x=>x.1)∘fun kv=>if kv.1=k then (kv.1,v)else kv))=AV.map (·.1):=map_congr_left fun p _=>by
   simp only[Function.comp];split <;> rfl
  rw[this];exact hn
theorem ni {AV:List (List Key×V)}{k:List Key}{v:V}{p:List Key×V}(h:p∈putK AV k v):(p.1=k/\p.2=v)\/p∈AV:=by
 unfold putK at h;split at h
 ·obtain ⟨q,hq,e⟩:=mem_map.mp h;by_cases z:q.1=k
  ·rw[if_pos z]at e;exact .inl (by rw[<- e];exact ⟨z,rfl⟩)
  ·rw[if_neg z]at e;exact .inr (by rw[<- e];exact hq)
 ·rcases mem_append.mp h with z | z
  ·exact .inr z
  ·simp at z;exact .inl (by rw[z];exact ⟨rfl,rfl⟩)
theorem FG.put {n:Nat}{AV:List (List Key×V)}{l:Values}(h:FG n AV l){c:Nat}{w:List Nat}(hc:Aw c)(hw:w.length<=20):FG (n+1) (putK AV (A8 c) (.str (S w))) (setValue l c w):=by
 refine ⟨fun d hd=>?_,fun p hp=>?_,xc _ h.nd,Nat.le_trans (FB _ _ _) (Nat.succ_le_succ h.len),h.ok.set hc hw⟩
 ·rw[Y1,Y0];by_cases e:c=d
  ·subst e;rw[if_pos rfl,if_pos rfl];rfl
  ·rw[if_neg (fun z=>e (KN z).symm),if_neg e];exact h.val d hd
 ·rcases ni hp with ⟨z1,z2⟩ | z
  ·exact ⟨c,w,hc,z1,z2⟩
  ·exact h.only p z
def HeldAt (H:Hp)(d:Addr)(n:Nat)(l:Values):Prop:=∃AV,H d=some (.dT AV)/\FG n AV l
def fY (C:Addr):Sp:=fun vs H Q _=>∃(g t:Addr) (og ot:List Op),vs=[.ref g,.ref t]/\RW C H g og/\RW C H t ot/\∀H',AW H H'->Q (.bl (meets og ot)) H'
theorem sg:AT ["one","another"] ["one","another"] (AO F6):=⟨rfl,rfl,rfl,by decide+kernel,rfl,by decide+kernel,by decide+kernel⟩
theorem oq (a b:List Op):meets a b=(feeds a b||feeds b a):=rfl
theorem tQ {f g C:Addr}{fd gd:FuncData}(F:CB K "meet" "meet" F6 f fd)(okF:AR P w K mg base As 1 g gd ["giver","taker"] (Rc C))(bF:Binds K gd ["giver","taker"] [])(zC:mg "feeds"=some (.ref g))(kF:keepIn K (.ref g)=true):
  AR P w K mg base As 2 f fd ["one","another"] (fY C):=by
 refine F.ok sg (fun vs H Q E h=>?_) (fun BM A outer s H vs Q E hr h=>?_)
 ·obtain ⟨g,t,og,ot,rfl,_⟩:=h;rfl
 ·obtain ⟨a,b,oa,ob,rfl,ha,hb,q⟩:=h;refine ⟨_,AG (AQ (ny (AX okF hr rfl zC kF bF .nil AU (AA (pv 0) (AA (pv 1) AC))) (GC (AX okF hr rfl zC kF bF .nil AU (AA (pv 1) (AA (pv 0) AC)))))),?_⟩;refine ⟨_,rfl,_,rfl,a,b,oa,ob,rfl,ha,hb,fun H1 s1=>⟨_,rfl,?_⟩⟩;rw[oq]at q;cases e:feeds oa ob with
  |true=>
   rw[e]at q;exact CJ (q H1 s1)
  |false=>
   rw[e,Bool.false_or]at q;refine B1 ⟨_,rfl,_,rfl,b,a,ob,oa,rfl,hb.same s1,ha.same s1,fun H2 s2=>q H2 (s1.trans s2)⟩
theorem Mz {a:List Nat}{s:String}:decide (V.str (S a)=V.str (Str.ofString s))=decide (a=Vbdhae.text s):=by
 apply decide_eq_decide.mpr;rw[ZE];exact ⟨fun h=>Ud (V.str.inj h),fun h=>by rw[h]⟩
def ND:Sp:=fun vs H Q _=>∃(a d:Addr) (o:Op) (n:Nat) (l:Values),vs=[.ref a,.ref d]/\L7 H a o/\Yp o/\HeldAt H d n l/\Q (.bl (doOp l o).isNone) H
theorem NM:AT ["act","held","value"] ["act","held"] (AO J1):=⟨rfl,rfl,rfl,by decide+kernel,rfl,by decide+kernel,by decide+kernel⟩
theorem Se {o:Op}(h:Yp o):Aw (DC o):=by
 cases o with
 |set c w=>exact h.1
 |clear c=>exact h
 |copy c d=>exact h.1
 |join c d=>exact h.1
 |swap c d=>exact h.1
 |need c w=>exact h.1
theorem FG.get {n:Nat}{AV:List (List Key×V)}{l:Values}(h:FG n AV l){c:Nat}(hc:Aw c):(C3 AV (A8 c)).getD (.str "")= .str (S (valueOf l c)):=by
 have e:=h.val c hc;rw[<- Fz]at e;exact e
theorem Xo {f:Addr}{fd:FuncData}(F:CB K "act_fails" "act_fails" J1 f fd):AR P w K mg base As 1 f fd ["act","held"] ND:=by
 refine F.ok NM (fun vs H Q E h=>?_) (fun BM A outer s H vs Q E hr h=>?_)
 ·obtain ⟨a,d,o,n,l,rfl,_⟩:=h;rfl
 ·obtain ⟨a,d,o,n,l,rfl,⟨t,v,a1,a2,a3⟩,ho,⟨AV,hd,hh⟩,q⟩:=h;have nd:=NM.nd;have hu:=N7 hr;refine ⟨_,AF (AZ (i:=2) nd rfl (Or.inl rfl) (EK hu (pv 1) (Ar Cw (pv 0) AK (fun _ _=>rfl)) Bl ⟨rfl,rfl,rfl,rfl⟩))
   (AF (A0 (Al Ea (Ar Cw (pv 0) AK (fun _ _=>rfl)) Bl (Av _)) (AG (AQ (DX SY (pv 2) (Ar Cw (pv 0) AK (fun _ _=>rfl)) (Av _)))) Af)
   (AG (AQ (KE (DX Ea (Ar Cw (pv 0) AK (fun _ _=>rfl)) Bl (Av _)) (GC (DX SY (pv 2) Bl (Av _))))))),?_⟩
  refine ⟨_,rfl,d,rfl,.inr ⟨AV,.inl hd⟩,_,rfl,a,_,1,_,rfl,rfl,Gi.of a1,rfl,_,IA.t (k:=A8 (DC o)) hd a2,?_⟩;rw[hh.get (Se ho)];refine ⟨_,rfl,a,_,0,_,rfl,rfl,Gi.of a1,rfl,rfl,_,rfl,?_⟩;rw[Mz];kpt_hd
  ·have z:=of_decide_eq_true z;cases o with
   |need c w=>
    have hw:w≠ []:=fun e=>by
     subst e;exact absurd z (by show ¬ Vbdhae.text "empty"=Vbdhae.text "need";decide)
    have a3:v=if w=[]then .Bo else .str (S w):=a3;rw[if_neg hw]at a3;subst a3;refine ⟨_,rfl,_,rfl,a,_,2,_,rfl,rfl,Gi.of a1,rfl,rfl,?_⟩;have e:(doOp l (.need c w)).isNone= !decide (V.str (S (valueOf l c))=V.str (S w)):=by
     show (if valueOf l c=w then some l else none).isNone=_;by_cases y:valueOf l c=w
     ·rw[if_pos y,y,decide_eq_true rfl];rfl
     ·rw[if_neg y,decide_eq_false (fun q=>y (Ud (V.str.inj q)))];rfl
    rw[e]at q;exact q
   |set c w=>exact absurd z (show ¬ Vbdhae.text "set"=Vbdhae.text "need" by decide)
   |clear c=>exact absurd z (show ¬ Vbdhae.text "clear"=Vbdhae.text "need" by decide)
   |copy c d=>exact absurd z (show ¬ Vbdhae.text "copy"=Vbdhae.text "need" by decide)
   |join c d=>exact absurd z (show ¬ Vbdhae.text "join"=Vbdhae.text "need" by decide)
   |swap c d=>exact absurd z (show ¬ Vbdhae.text "swap"=Vbdhae.text "need" by decide)
  ·have z:¬ EV o=Vbdhae.text "need":=fun e=>z (decide_eq_true e);refine ⟨_,rfl,a,_,0,_,rfl,rfl,Gi.of a1,rfl,rfl,_,rfl,?_⟩;rw[Mz];refine BG (fun y=>?_) (fun y=>?_)
   ·have y:=of_decide_eq_true y;refine ⟨_,rfl,rfl,?_⟩;cases o with
    |need c w=>
     have hw:w=[]:=by
      by_cases e:w=[]
      ·exact e
      ·exact absurd (by show (if w=[]then Vbdhae.text "empty" else Vbdhae.text "need")=_;rw[if_neg e]) z
     subst hw;have e:(doOp l (.need c [])).isNone= !decide (V.str (S (valueOf l c))=V.str (Str.ofString "")):=by
      show (if valueOf l c=[]then some l else none).isNone=_;rw[Fz];by_cases x:valueOf l c=[]
      ·rw[if_pos x,x,decide_eq_true rfl];rfl
      ·rw[if_neg x,decide_eq_false (fun q=>x (Ud (V.str.inj q)))];rfl
     rw[e]at q;exact q
    |set c w=>exact absurd y (show ¬ Vbdhae.text "set"=Vbdhae.text "empty" by decide)
    |clear c=>exact absurd y (show ¬ Vbdhae.text "clear"=Vbdhae.text "empty" by decide)
    |copy c d=>exact absurd y (show ¬ Vbdhae.text "copy"=Vbdhae.text "empty" by decide)
    |join c d=>exact absurd y (show ¬ Vbdhae.text "join"=Vbdhae.text "empty" by decide)
    |swap c d=>exact absurd y (show ¬ Vbdhae.text "swap"=Vbdhae.text "empty" by decide)
   ·have y:¬ EV o=Vbdhae.text "empty":=fun e=>y (decide_eq_true e);have e:(doOp l o).isNone=false:=by
     cases o with
     |need c w=>
      by_cases x:w=[]
      ·exact absurd (by show (if w=[]then Vbdhae.text "empty" else Vbdhae.text "need")=_;rw[if_pos x]) y
      ·exact absurd (by show (if w=[]then Vbdhae.text "empty" else Vbdhae.text "need")=_;rw[if_neg x]) z
     |set c w=>rfl
     |clear c=>rfl
     |copy c d=>rfl
     |join c d=>rfl
     |swap c d=>rfl
    rw[e]at q;exact q
theorem Yw {a:List Nat}{s:String}{A B:Prop}(h:a=Vbdhae.text s)(hA:A):if decide (V.str (S a)=V.str (Str.ofString s))=true then A else B:=by
 rw[Mz,decide_eq_true h];exact CJ hA
theorem L9 {a:List Nat}{s:String}{A B:Prop}(h:a≠Vbdhae.text s)(hB:B):if decide (V.str (S a)=V.str (Str.ofString s))=true then A else B:=by
 rw[Mz,decide_eq_false h];exact B1 hB
theorem bq (a b:List Nat):S a++S b=S (a++b):=by
 apply TL.Ms;rw[TL.Oc]
theorem vT (a:List Nat):qo (S a) none (some 20)=S (a.take 20):=by
 unfold qo;rw[HT.R0,drop_zero,Nat.sub_zero];show S (a.take (HT.Fh (S a).length (S a).length (some ((20:Nat):Int))))=_;rw[HT.RE,Hx];by_cases h:20<=a.length
 ·rw[Nat.min_eq_left h]
 ·rw[Nat.min_eq_right (by omega),take_length,take_of_length_le (by omega)]
def Vl:Sp:=fun vs H Q _=>∃(a d:Addr) (o:Op) (n:Nat) (l l':Values),vs=[.ref a,.ref d]/\L7 H a o/\Yp o/\HeldAt H d n l/\n<=10000/\doOp l o=some l'/\
 ∀H',HeldAt H' d (n+2) l'->(∀b x,H b=some x->b≠d->H' b=some x)->Q .Bo H'
theorem Vv:AT ["act","held","word","thing","before"] ["act","held"] (AO Rz):=⟨rfl,rfl,rfl,by decide+kernel,rfl,by decide+kernel,by decide+kernel⟩
theorem jV {f:Addr}{fd:FuncData}(F:CB K "do_act" "do_act" Rz f fd)(longest:Gv mg "LONGEST_VALUE" (.int 20)):AR P w K mg base As 1 f fd ["act","held"] Vl:=by
 refine F.ok Vv (fun vs H Q E h=>?_) (fun BM A outer s H vs Q E hr h=>?_)
 ·obtain ⟨a,d,o,n,l,l',rfl,_⟩:=h;rfl
 ·obtain ⟨a,d,o,n,l,l',rfl,⟨t,v,a1,a2,a3⟩,ho,⟨AV,hd,hh⟩,hn,hl,q⟩:=h;obtain ⟨uV,mV,rV⟩:=longest;have nd:=Vv.nd;have hu:=N7 hr;refine ⟨_,AF (AZ (i:=2) nd rfl (Or.inl rfl) (Ar Cw (pv 0) AK (fun _ _=>rfl)))
   (AF (AZ (i:=3) nd rfl (Or.inl rfl) (Ar Cw (pv 0) AK (fun _ _=>rfl)))
   (AF (AZ (i:=4) nd rfl (Or.inl rfl) (EK hu (pv 1) (pv 3) Bl ⟨rfl,rfl,rfl,rfl⟩))
   (AG (A0 (Al Ea (pv 2) Bl (Av _)) (AG (Gq hu (pv 1) (pv 3) (Ar Cw (pv 0) AK (fun _ _=>rfl)) rfl))
    (AG (A0 (Al Ea (pv 2) Bl (Av _)) (AG (Gq hu (pv 1) (pv 3) Bl rfl))
    (AG (A0 (Al Ea (pv 2) Bl (Av _)) (AG (Gq hu (pv 1) (pv 3) (EK hu (pv 1) (Ar Cw (pv 0) AK (fun _ _=>rfl)) Bl ⟨rfl,rfl,rfl,rfl⟩) rfl))
    (AG (A0 (Al Ea (pv 2) Bl (Av _)) (AG (Gq hu (pv 1) (pv 3) (Nj xJ (CI cp (pv 4) (EK hu (pv 1) (Ar Cw (pv 0) AK (fun _ _=>rfl)) Bl ⟨rfl,rfl,rfl,rfl⟩)) Xe (Nh (Ad rfl mV rV))) rfl))
    (AG (A0 (Al Ea (pv 2) Bl (Av _)) (AF (Gq hu (pv 1) (pv 3) (EK hu (pv 1) (Ar Cw (pv 0) AK (fun _ _=>rfl)) Bl ⟨rfl,rfl,rfl,rfl⟩) rfl)
      (AG (Gq hu (pv 1) (Ar Cw (pv 0) AK (fun _ _=>rfl)) (pv 4) rfl))) Af)))))))))))),?_⟩
  have hf:=Se ho;have C2:AV.length<sizeLine:=Nat.lt_of_le_of_lt hh.len (by rw[sizeLine_eq];omega);refine ⟨_,rfl,a,_,0,_,rfl,rfl,Gi.of a1,rfl,?_⟩;refine ⟨_,rfl,a,_,1,_,rfl,rfl,Gi.of a1,rfl,?_⟩;refine ⟨_,rfl,d,rfl,.inr ⟨AV,.inl hd⟩,_,rfl,_,IA.t (k:=A8 (DC o)) hd a2,?_⟩;rw[hh.get hf];have keep:∀{o':HO} (b:Addr) (x:HO),H b=some x->b≠d->(upd H d o') b=some x:=fun {o'} b x e hb=>by rw[AI hb];exact e
  have vA:∀(w':List Nat),w'.length<=20->l'=setValue l (DC o) w'->Q .Bo (upd H d (.dT (putK AV (A8 (DC o)) (.str (S w'))))):=fun w' hw el=>
   q _ ⟨_,AB,by rw[el];exact (hh.put hf hw).mono (by omega)⟩ fun b x e hb=>keep b x e hb
  cases o with
  |set c w'=>
   obtain rfl:v= .str (S w'):=a3;have hl:some (setValue l c w')=some l':=hl;refine ⟨_,rfl,rfl,_,rfl,Yw rfl ?_⟩;refine ⟨_,rfl,a,_,2,_,rfl,rfl,Gi.of a1,rfl,_,rfl,_,rfl,d,_,rfl,RA.t (k:=A8 c) hd a2 C2,?_⟩;exact vA w' (af ho.2) (Option.some.inj hl).symm
  |clear c=>
   have hl:some (setValue l c [])=some l':=hl;refine ⟨_,rfl,rfl,_,rfl,L9 (by show Vbdhae.text "clear"≠_;decide) ?_⟩;refine ⟨_,rfl,rfl,_,rfl,Yw rfl ?_⟩;refine ⟨_,rfl,_,rfl,d,_,rfl,RA.t (k:=A8 c) hd a2 C2,?_⟩;have:=vA [] (by simp) (Option.some.inj hl).symm;rw[<- Fz]at this;exact this
  |copy c e=>
   obtain ⟨u,rfl,gW⟩:=a3;have hl:some (setValue l c (valueOf l e))=some l':=hl;refine ⟨_,rfl,rfl,_,rfl,L9 (by show Vbdhae.text "copy"≠_;decide) ?_⟩;refine ⟨_,rfl,rfl,_,rfl,L9 (by show Vbdhae.text "copy"≠_;decide) ?_⟩;refine ⟨_,rfl,rfl,_,rfl,Yw rfl ?_⟩;refine ⟨_,rfl,d,rfl,.inr ⟨AV,.inl hd⟩,_,rfl,a,_,2,_,rfl,rfl,Gi.of a1,rfl,_,IA.t (k:=A8 e) hd gW,?_⟩;rw[hh.get ho.2.1];refine ⟨_,rfl,_,rfl,d,_,rfl,RA.t (k:=A8 c) hd a2 C2,?_⟩;exact vA _ (Bu hh.ok e) (Option.some.inj hl).symm
  |join c e=>
   obtain ⟨u,rfl,gW⟩:=a3;have hl:some (setValue l c ((valueOf l c++valueOf l e).take LENGTH))=some l':=hl;refine ⟨_,rfl,rfl,_,rfl,L9 (by show Vbdhae.text "join"≠_;decide) ?_⟩;refine ⟨_,rfl,rfl,_,rfl,L9 (by show Vbdhae.text "join"≠_;decide) ?_⟩;refine ⟨_,rfl,rfl,_,rfl,L9 (by show Vbdhae.text "join"≠_;decide) ?_⟩;refine ⟨_,rfl,rfl,_,rfl,Yw rfl ?_⟩;have l1:=Bu hh.ok c;have l2:=Bu hh.ok e;refine ⟨_,rfl,_,rfl,d,rfl,.inr ⟨AV,.inl hd⟩,_,rfl,a,_,2,_,rfl,rfl,Gi.of a1,rfl,_,IA.t (k:=A8 e) hd gW,?_⟩;rw[hh.get ho.2.1];refine ⟨_,_,rfl,rfl,by rw[Hx,Hx,sizeLine_eq];show (valueOf l c).length+_<=_;omega,?_⟩;refine ⟨20,rfl,_,rfl,?_,?_⟩
   ·rw[bq,Hx,length_append,sizeLine_eq];show (valueOf l c).length+_<=_;omega
   rw[bq,vT];refine ⟨_,rfl,_,rfl,d,_,rfl,RA.t (k:=A8 c) hd a2 C2,?_⟩;exact vA _ (length_take_le _ _) (Option.some.inj hl).symm
  |swap c e=>
   obtain ⟨u,rfl,gW⟩:=a3;have hl:some (setValue (setValue l c (valueOf l e)) e (valueOf l c))=some l':=hl;refine ⟨_,rfl,rfl,_,rfl,L9 (by show Vbdhae.text "swap"≠_;decide) ?_⟩;refine ⟨_,rfl,rfl,_,rfl,L9 (by show Vbdhae.text "swap"≠_;decide) ?_⟩;refine ⟨_,rfl,rfl,_,rfl,L9 (by show Vbdhae.text "swap"≠_;decide) ?_⟩;refine ⟨_,rfl,rfl,_,rfl,L9 (by show Vbdhae.text "swap"≠_;decide) ?_⟩;refine ⟨_,rfl,rfl,_,rfl,Yw rfl ?_⟩;refine ⟨_,rfl,d,rfl,.inr ⟨AV,.inl hd⟩,_,rfl,a,_,2,_,rfl,rfl,Gi.of a1,rfl,_,IA.t (k:=A8 e) hd gW,?_⟩;rw[hh.get ho.2.1];refine ⟨_,rfl,_,rfl,d,_,rfl,RA.t (k:=A8 c) hd a2 C2,?_⟩;have hh1:=hh.put (c:=c) (w:=valueOf l e) ho.1 (Bu hh.ok e);have tu:Fx H (upd H d (.dT (putK AV (A8 c) (.str (S (valueOf l e)))))):=Fx.upd hd (by intro xs z;cases z);refine ⟨_,rfl,_,rfl,_,rfl,a,_,2,_,rfl,rfl,Gi.of (tu _ _ a1),rfl,d,_,rfl,RA.t (k:=A8 e) AB (tu _ _ gW) (Nat.lt_of_le_of_lt hh1.len (by rw[sizeLine_eq];omega)),?_⟩;refine q _ ⟨_,AB,?_⟩ fun b x e' hb=>?_
   ·rw[<- Option.some.inj hl];exact (hh1.put ho.2.1 (Bu hh.ok c)).mono (by omega)
   ·rw[AI hb,AI hb];exact e'
  |need c w'=>
   have hw:EV (.need c w')=Vbdhae.text "empty"\/EV (.need c w')=Vbdhae.text "need":=by
    show (if w'=[]then Vbdhae.text "empty" else Vbdhae.text "need")=_\/(if w'=[]then Vbdhae.text "empty" else Vbdhae.text "need")=_;by_cases x:w'=[]
    ·rw[if_pos x];exact .inl rfl
    ·rw[if_neg x];exact .inr rfl
   refine ⟨_,rfl,rfl,_,rfl,L9 (by rcases hw with z | z <;> rw[z] <;> decide) ?_⟩;refine ⟨_,rfl,rfl,_,rfl,L9 (by rcases hw with z | z <;> rw[z] <;> decide) ?_⟩;refine ⟨_,rfl,rfl,_,rfl,L9 (by rcases hw with z | z <;> rw[z] <;> decide) ?_⟩;refine ⟨_,rfl,rfl,_,rfl,L9 (by rcases hw with z | z <;> rw[z] <;> decide) ?_⟩;refine ⟨_,rfl,rfl,_,rfl,L9 (by rcases hw with z | z <;> rw[z] <;> decide) ?_⟩;have hl:(if valueOf l c=w' then some l else none)=some l':=hl;have el:l=l':=by
    by_cases x:valueOf l c=w'
    ·rw[if_pos x]at hl;exact Option.some.inj hl
    ·rw[if_neg x]at hl;cases hl
   subst el;exact q H ⟨AV,hd,hh.mono (by omega)⟩ fun b x e _=>e
theorem Ij:∀(p q:List Op) (l:Values),doOps (p++q) l=(doOps p l).bind (doOps q)
 | [],q,l=>rfl
 |o::r,q,l=>by
  show (doOp l o).bind (doOps (r++q))=((doOp l o).bind (doOps r)).bind (doOps q);cases doOp l o with
  |none=>rfl
  |some m=>exact Ij r q m
theorem kY (o:Op)(l:Values):doOps [o] l=doOp l o:=by
 show (doOp l o).bind (fun l=>some l)=_;cases doOp l o <;> rfl
abbrev AY (l:List Nat):List V:=l.map fun (n:Nat)=>V.int (n:Int)
structure fO (C:Addr)(H:Hp)(av:List Addr)(a:Addr)(c:Change):Prop where
 ex:∃(dx lx:Addr) (fs:List (Str×V)),H a=some (.ins C dx fs)/\fs.lookup ("editor":Str)=some (.int (c.editor:Nat))/\fs.lookup ("text":Str)=some (.ref lx)/\H lx=some (.lst (AY (printed c.ops)))/\lx∉av/\(printed c.ops).length<=600
theorem fO.keep {C:Addr}{H H':Hp}{av:List Addr}{a:Addr}{c c':Change}(h:fO C H av a c)(e1:c'.editor=c.editor)(e2:c'.ops=c.ops)
  (ha:∀dx fs,H a=some (.ins C dx fs)->∃GW,H' a=some (.ins C dx GW)/\GW.lookup ("editor":Str)=fs.lookup ("editor":Str)/\GW.lookup ("text":Str)=fs.lookup ("text":Str))
  (hl:∀b xs,H b=some (.lst xs)->b∉av->H' b=some (.lst xs)):fO C H' av a c':=by
 obtain ⟨dx,lx,fs,h1,h2,h3,h4,h5,h6⟩:=h.ex;obtain ⟨GW,g1,g2,g3⟩:=ha dx fs h1;exact ⟨dx,lx,GW,g1,by rw[g2,e1];exact h2,by rw[g3];exact h3,by rw[e2];exact hl _ _ h4 h5,h5,by rw[e2];exact h6⟩
theorem fO.same {C:Addr}{H H':Hp}{av:List Addr}{a:Addr}{c:Change}(s:AW H H')(h:fO C H av a c):fO C H' av a c:=
 h.keep rfl rfl (fun dx fs e=>⟨fs,s _ _ e,rfl,rfl⟩) fun b xs e _=>s _ _ e
structure An (C:Addr)(H:Hp)(av:List Addr)(a:Addr)(c:Change):Prop where
 rw:RW C H a c.ops
 ex:∃(dx la ls lt:Addr) (fs:List (Str×V)) (as:List Addr),H a=some (.ins C dx fs)/\fs.lookup ("acts":Str)=some (.ref la)/\fs.lookup ("seen":Str)=some (.ref ls)/\fs.lookup ("stands":Str)=some (.ref lt)/\
  fs.lookup ("condition":Str)=some (.int (c.status:Nat))/\fs.length<=20/\H la=some (.lst (as.map V.ref))/\Iw H as c.ops/\H ls=some (.lst (AY c.seen))/\H lt=some (.lst (AY c.on))/\la∉av/\ls∉av/\lt∉av
 ok:∀o∈c.ops,Yp o
 len:c.ops.length<=12
 kn:∀dx fs,H a=some (.ins C dx fs)->fs.lookup ("known":Str)=none
 ed:fO C H av a c
theorem An.same {C:Addr}{H H':Hp}{av:List Addr}{a:Addr}{c:Change}(s:AW H H')(h:An C H av a c):An C H' av a c:=by
 obtain ⟨dx,la,ls,lt,fs,as,h1,h2,h3,h4,h5,h6,h7,h8,h9,cF,Yt⟩:=h.ex;exact ⟨h.rw.same s,⟨dx,la,ls,lt,fs,as,s _ _ h1,h2,h3,h4,h5,h6,s _ _ h7,h8.CW (Fx.of s),s _ _ h9,s _ _ cF,Yt⟩,h.ok,h.len,fun K8 GW e=>h.kn K8 GW (by rw[s _ _ h1]at e;cases e;exact h1),h.ed.same s⟩
def EE (C:Addr):Sp:=fun vs H Q _=>∃(c d:Addr) (ch:Change) (av:List Addr) (n:Nat) (l:Values),vs=[.ref c,.ref d]/\An C H av c ch/\HeldAt H d n l/\n<=9000/\
 (∀H',AW H H'->doOps ch.ops l=none->Q .Bo H')/\∀H' d' l',AW H H'->doOps ch.ops l=some l'->HeldAt H' d' (n+24) l'->Q (.ref d') H'
theorem Gn:AT ["change","held","after","act"] ["change","held"] (AO Ed):=⟨rfl,rfl,rfl,by decide+kernel,rfl,by decide+kernel,by decide+kernel⟩
theorem Nq {f g a C:Addr}{fd gd ad:FuncData}(F:CB K "values_if_done" "values_if_done" Ed f fd)(T:Br K C)(bd:mg "dict"=none)
  (okF:AR P w K mg base As 1 g gd ["act","held"] ND) (bF:Binds K gd ["act","held"] []) (zC:mg "act_fails"=some (.ref g)) (kF:keepIn K (.ref g)=true)
  (okD:AR P w K mg base As 1 a ad ["act","held"] Vl) (bD:Binds K ad ["act","held"] []) (mgD:mg "do_act"=some (.ref a)) (kD:keepIn K (.ref a)=true):
  AR P w K mg base As 2 f fd ["change","held"] (EE C):=by
 refine F.ok Gn (fun vs H Q E h=>?_) (fun BM A outer s H vs Q E hr h=>?_)
 ·obtain ⟨c,d,ch,av,n,l,rfl,_⟩:=h;rfl
 ·obtain ⟨c,d,ch,av,n,l,rfl,hc,⟨AV,hd,hh⟩,hn,qN,qS⟩:=h;isplit;obtain ⟨dx,la,ls,lt,fs,as,h1,h2,h3,h4,h5,h6,h7,h8,h9,cF,Yt⟩:=hc.ex;kl_no;have nd:=Gn.nd;refine ⟨_,AF (AZ (i:=2) nd rfl (Or.inl rfl) (Cr eu (by rfl) bd boot_dict (AA (pv 1) AC)))
   (AF (Du PassesOwn.never rfl (BF (Ap (pv 0) rfl)) (A2 (i:=3) nd rfl (Or.inl rfl))
    (AF (A0 (CD (AX okF hr rfl zC kF bF .nil AU (AA (pv 3) (AA (pv 2) AC)))) (AG (AQ Ek)) Af)
    (AG (Bt (AX okD hr rfl mgD kD bD .nil AU (AA (pv 3) (AA (pv 2) AC)))))))
   (AG (AQ (pv 2)))),?_⟩
  refine ⟨_,rfl,d,AV,rfl,hd,hh.hashes _ _,fun p hp=>?_⟩;have s1:AW H (upd H p (.dT AV)):=fun b o e=>by rw[AI (AH e hp)];exact e
  have Qv:=BZ h8;let J:Nat->L2.St->Hp->Prop:=fun i σ H'=>∃(va:Option V) (li:Values),σ=[some (.ref c),some (.ref d),some (.ref p),va]/\AW H H'/\HeldAt H' p (n+2*i) li/\doOps (ch.ops.take i) l=some li;refine ⟨_,rfl,c,C,dx,fs,_,rfl,s1 _ _ h1,T.cl,T.nA,h2,la,rfl,⟨_,Ao.of (s1 _ _ h7)⟩,Ch (K:=K) (a:=la) (xs:=as.map V.ref) J ⟨none,l,rfl,s1,⟨AV,AB,hh⟩,rfl⟩ ?_ ?_ ?_⟩
  ·intro i σ H' _ zz;isplit;obtain ⟨va,li,rfl,s',k1,k2⟩:=zz;kl_no;exact Ao.of (s' _ _ h7)
  ·intro i x σ H' hx zz;isplit;obtain ⟨va,li,rfl,s',k1,k2⟩:=zz;kl_no;obtain ⟨a,ha,rfl⟩:∃a,as[i]? =some a/\x=V.ref a:=by
    rw[getElem?_map]at hx;cases e:as[i]? with
    |none=>rw[e]at hx;cases hx
    |some b=>rw[e]at hx;exact ⟨b,rfl,(Option.some.inj hx).symm⟩
   obtain ⟨o,ho,uq⟩:=Az h8 ha;have hom:o∈ch.ops:=mem_of_getElem? ho;have hlen:=hc.len;have hi:=(List.getElem?_eq_some_iff.mp ho).1;refine ⟨_,rfl,_,rfl,a,p,o,_,li,rfl,uq.same s',hc.ok o hom,k1,_,rfl,?_⟩;have zL:doOps (ch.ops.take (i+1)) l=doOp li o:=by
    rw[take_add_one,ho];show doOps (ch.ops.take i ++ [o]) l=_;rw[Ij,k2];exact kY o li
   cases e:doOp li o with
   |none=>
    refine CJ ?_;rw[e]at zL;refine qN H' s' ?_;rw[<- take_append_drop (i+1) ch.ops,Ij,zL];rfl
   |some l2=>
    refine B1 ?_;rw[e]at zL;refine ⟨_,rfl,_,rfl,a,p,o,_,li,l2,rfl,uq.same s',hc.ok o hom,k1,by omega,e,fun H2 k3 k4=>?_⟩;exact ⟨_,l2,rfl,fun b x e=>k4 b x (s' b x e) (AH e hp),k3,zL⟩
  ·intro σ H' zz;isplit;obtain ⟨va,li,rfl,s',⟨kv2,k1,rZ⟩,k2⟩:=zz;kl_no;rw[length_map,Qv,take_length]at k2;have hlen:=hc.len;rw[length_map,Qv]at rZ;exact ⟨_,rfl,qS H' p li s' k2 ⟨kv2,k1,rZ.mono (by omega)⟩⟩
def HW (C:Addr):Sp:=fun vs H Q _=>∃(c d:Addr) (ch:Change) (av:List Addr) (n:Nat) (l:Values),vs=[.ref c,.ref d]/\An C H av c ch/\HeldAt H d n l/\n<=9000/\
 ∀H' d',AW H H'->HeldAt H' d' (n+24) (Vbdhae.done ch.ops l)->Q (.ref d') H'
theorem HY:AT ["change","held","after"] ["change","held"] (AO FJ):=⟨rfl,rfl,rfl,by decide+kernel,rfl,by decide+kernel,by decide+kernel⟩
theorem O5 {f g C:Addr}{fd gd:FuncData}(F:CB K "values_behind" "values_behind" FJ f fd)
  (Bw:AR P w K mg base As 2 g gd ["change","held"] (EE C)) (b1:Binds K gd ["change","held"] []) (Uq:mg "values_if_done"=some (.ref g)) (k1:keepIn K (.ref g)=true):
  AR P w K mg base As 3 f fd ["change","held"] (HW C):=by
 refine F.ok HY (fun vs H Q E h=>?_) (fun BM A outer s H vs Q E hr h=>?_)
 ·obtain ⟨c,d,ch,av,n,l,rfl,_⟩:=h;rfl
 ·obtain ⟨c,d,ch,av,n,l,rfl,hc,hh,hn,q⟩:=h;have nd:=HY.nd;refine ⟨_,AF (AZ (i:=2) nd rfl (Or.inl rfl) (AX Bw hr rfl Uq k1 b1 .nil AU (AA (pv 0) (AA (pv 1) AC))))
   (AG (AQ (KD (Al oB (pv 2) Ek (Av _)) (pv 1) (pv 2)))),?_⟩
  refine ⟨_,rfl,_,rfl,c,d,ch,av,n,l,rfl,hc,hh,hn,fun H' s' e=>?_,fun H' d' l' s' e k=>?_⟩
  ·refine ⟨_,rfl,rfl,_,rfl,CJ ?_⟩;obtain ⟨AV,h1,h2⟩:=hh;refine ⟨_,rfl,q H' d s' ⟨AV,s' _ _ h1,?_⟩⟩;unfold Vbdhae.done;rw[e];exact h2.mono (by omega)
  ·refine ⟨_,rfl,rfl,_,rfl,B1 ?_⟩;refine ⟨_,rfl,q H' d' s' ?_⟩;unfold Vbdhae.done;rw[e];exact k
structure Mv (s:Vbdhae.State):Prop where
 len:s.changes.length<=40
 nd:s.force.Nodup
 Ur:∀m∈s.force,1<=m/\m<=s.changes.length
 st:∀n,1<=n->n<=s.changes.length->((changeAt s n).status=1↔n∈s.force)
 kn:∀c∈s.changes,(∀m∈c.seen++c.on,1<=m/\m<=s.changes.length)/\c.seen.length<=40/\c.on.length<=40
structure Ab (CH CC:Addr)(H:Hp)(h lc lf:Addr)(as:List Addr)(s:Vbdhae.State):Prop where
 ex:∃(dx:Addr) (fs:List (Str×V)),H h=some (.ins CH dx fs)/\fs.lookup ("changes":Str)=some (.ref lc)/\fs.lookup ("in_force":Str)=some (.ref lf)/\fs.length<=20/\(∀m:Str,m≠"changes"->m≠"in_force"->fs.lookup m=none)
 ne:lc≠lf
 Gf:H lc=some (.lst (as.map V.ref))
 Ep:H lf=some (.lst (AY s.force))
 nd:as.Nodup
 all:Paired (An CC H [lc,lf]) as s.changes
 ok:Mv s
theorem Ab.same {CH CC:Addr}{H H':Hp}{h lc lf:Addr}{as:List Addr}{s:Vbdhae.State}(z:AW H H')(a:Ab CH CC H h lc lf as s):Ab CH CC H' h lc lf as s:=by
 obtain ⟨dx,fs,h1,h2⟩:=a.ex;exact ⟨⟨dx,fs,z _ _ h1,h2⟩,a.ne,z _ _ a.Gf,z _ _ a.Ep,a.nd,Paired.TD a.all fun _ _ q=>q.same z,a.ok⟩
theorem Ab.len {CH CC:Addr}{H:Hp}{h lc lf:Addr}{as:List Addr}{s:Vbdhae.State}(a:Ab CH CC H h lc lf as s):as.length=s.changes.length:=BZ a.all
theorem Ik {s:Vbdhae.State}{n:Nat}{c:Change}(h:s.changes[n - 1]? =some c):changeAt s n=c:=by
 unfold changeAt;rw[h];rfl
theorem Ab.at {CH CC:Addr}{H:Hp}{h lc lf:Addr}{as:List Addr}{s:Vbdhae.State}(a:Ab CH CC H h lc lf as s){n:Nat}(h1:1<=n)(h2:n<=s.changes.length):
  ∃b,as[n - 1]? =some b/\An CC H [lc,lf] b (changeAt s n)/\changeAt s n∈s.changes:=by
 have C2:n - 1<as.length:=by rw[a.len];omega
 obtain ⟨c,e1,e2⟩:=Az a.all (getElem?_eq_getElem C2);refine ⟨_,getElem?_eq_getElem C2,?_,?_⟩
 ·rw[Ik e1];exact e2
 ·rw[Ik e1];exact mem_of_getElem? e1
structure Am (K:PySem.W.Frag)(C:Addr):Prop where
 cl:fP K C
 nC:A6 K C "changes"
 nF:A6 K C "in_force"
theorem Bv {l:List Nat}{i:Nat}{x:V}(h:(AY l)[i]? =some x):∃n,l[i]? =some n/\x=V.int (n:Int):=by
 unfold AY at h;rw[getElem?_map]at h;cases e:l[i]? with
 |none=>rw[e]at h;cases h
 |some n=>rw[e]at h;exact ⟨n,rfl,(Option.some.inj h).symm⟩
theorem N6 (n:Nat)(l:List Nat):zI (.int (n:Int)) (AY l)=l.contains n:=by
 unfold zI AY;rw[any_map,Bool.eq_iff_iff,any_eq_true,List.contains_iff_mem];constructor
 ·rintro ⟨m,hm,e⟩;have e:((m:Int)==(n:Int))=true:=e;have:m=n:=by have:=eq_of_beq e;omega
  subst this;exact hm
 ·intro hm;exact ⟨n,hm,beq_self_eq_true (n:Int)⟩
theorem Ho (l:List Nat):(AY l).all G1=true:=by
 unfold AY;rw[all_map,all_eq_true];intro x _;rfl
theorem Ak (l:List Nat):(AY l).length=l.length:=length_map _
theorem Cd (a b:List Nat):AY a++AY b=AY (a++b):=(map_append).symm
def Ra (CC:Addr):Sp:=fun vs H Q _=>∃(a:Addr) (c:Change) (av:List Addr),vs=[.ref a]/\An CC H av a c/\c.seen.length<=40/\c.on.length<=40/\∀p,H p=none->Q (.ref p) (upd H p (.lst (AY (c.seen++c.on))))
theorem nL:AT ["self"] ["self"] (AO F9):=⟨rfl,rfl,rfl,by decide+kernel,rfl,by decide+kernel,by decide+kernel⟩
theorem oJ {f C:Addr}{fd:FuncData}(F:CB K "known" "Change.known" F9 f fd)(T:Br K C):AR P w K mg base As 1 f fd ["self"] (Ra C):=by
 refine F.ok nL (fun vs H Q E h=>?_) (fun BM A outer s H vs Q E hr h=>?_)
 ·obtain ⟨a,c,av,rfl,_⟩:=h;rfl
 ·obtain ⟨a,c,av,rfl,hc,l1,l2,q⟩:=h;obtain ⟨dx,la,ls,lt,fs,as,h1,h2,h3,h4,h5,h6,h7,h8,h9,cF,Yt⟩:=hc.ex;refine ⟨_,AG (AQ (CI DP (Ap (pv 0) rfl) (Ap (pv 0) rfl))),?_⟩;refine ⟨_,rfl,a,C,dx,fs,_,rfl,h1,T.cl,T.nS,h3,_,rfl,a,C,dx,fs,_,rfl,h1,T.cl,T.nT,h4,ls,lt,_,_,rfl,rfl,h9,cF,?_,?_⟩
  ·rw[Ak,Ak,sizeLine_eq];omega
  ·rw[Cd];exact q
def A9 (CH CC:Addr):Sp:=fun vs H Q _=>∃(h lc lf:Addr) (as:List Addr) (s:Vbdhae.State) (n:Nat) (a:Addr),vs=[.ref h,.int (n:Int)]/\Ab CH CC H h lc lf as s/\1<=n/\as[n - 1]? =some a/\Q (.ref a) H
theorem P9:AT ["self","number"] ["self","number"] (AO DF):=⟨rfl,rfl,rfl,by decide+kernel,rfl,by decide+kernel,by decide+kernel⟩
theorem Zz {f C CC:Addr}{fd:FuncData}(F:CB K "numbered" "House.numbered" DF f fd)(T:Am K C):AR P w K mg base As 1 f fd ["self","number"] (A9 C CC):=by
 refine F.ok P9 (fun vs H Q E h=>?_) (fun BM A outer s H vs Q E hr h=>?_)
 ·obtain ⟨h,lc,lf,as,s,n,a,rfl,_⟩:=h;rfl
 ·obtain ⟨h,lc,lf,as,st,n,a,rfl,hA,h1,ha,q⟩:=h;kt_le;refine ⟨_,AG (AQ (Ar Ag (Ap (pv 0) rfl) (CI SX (pv 1) AK) (fun _ _=>rfl))),?_⟩;refine ⟨_,rfl,h,C,dx,fs,_,rfl,e1,T.cl,T.nC,e2,_,rfl,_,_,rfl,rfl,lc,_,_,.ref a,rfl,rfl,Ao.of hA.Gf,at_of (j:=n - 1) (by omega) (by rw[getElem?_map,ha];rfl),q⟩
def Jh (CH CC:Addr):Sp:=fun vs H Q _=>∃(h lc lf:Addr) (as:List Addr) (s:Vbdhae.State) (n:Int),vs=[.ref h,.int n]/\Ab CH CC H h lc lf as s/\Q (.bl (decide (n<=(s.changes.length:Nat)))) H
theorem ZN:AT ["self","number"] ["self","number"] (AO Ef):=⟨rfl,rfl,rfl,by decide+kernel,rfl,by decide+kernel,by decide+kernel⟩
theorem Zt {f C CC:Addr}{fd:FuncData}(F:CB K "there_is" "House.there_is" Ef f fd)(T:Am K C)(bl:mg "len"=none):AR P w K mg base As 1 f fd ["self","number"] (Jh C CC):=by
 refine F.ok ZN (fun vs H Q E h=>?_) (fun BM A outer s H vs Q E hr h=>?_)
 ·obtain ⟨h,lc,lf,as,s,n,rfl,_⟩:=h;rfl
 ·obtain ⟨h,lc,lf,as,st,n,rfl,hA,q⟩:=h;kt_le;refine ⟨_,AG (AQ (DX GH (pv 1) (Aa Ae (by rfl) bl PySem.boot_len (AA (Ap (pv 0) rfl) AC)) (Av _))),?_⟩;refine ⟨_,rfl,_,rfl,h,C,dx,fs,_,rfl,e1,T.cl,T.nC,e2,lc,_,rfl,.inl (Ao.of hA.Gf),_,_,rfl,rfl,?_⟩;rw[length_map,hA.len];exact q
structure MH (K:PySem.W.Frag)(C:Addr)(m:Str)(f:Addr)(fd:FuncData)(ps:List Str):Prop where
 me:Meth K C m f
 bi:Binds K fd ps []
 nm:m≠"changes"/\m≠"in_force"
def Jn (CH CC:Addr):Sp:=fun vs H Q _=>∃(h lc lf:Addr) (as:List Addr) (s:Vbdhae.State) (n:Nat),vs=[.ref h,.int (n:Int)]/\Ab CH CC H h lc lf as s/\1<=n/\Q (.bl (isThere s n&&(changeAt s n).status==0)) H
theorem ZT:AT ["self","number"] ["self","number"] (AO Eh):=⟨rfl,rfl,rfl,by decide+kernel,rfl,by decide+kernel,by decide+kernel⟩
theorem Z1 {f C CC f1 f2:Addr}{fd d1 d2:FuncData}(F:CB K "is_draft" "House.is_draft" Eh f fd)(T:Am K C)(TC:Br K CC)(draft:Gv mg "DRAFT" (.int 0))
  (Bw:AR P w K mg base As 1 f1 d1 ["self","number"] (Jh C CC)) (m1:MH K C "there_is" f1 d1 ["self","number"])
  (HH:AR P w K mg base As 1 f2 d2 ["self","number"] (A9 C CC)) (m2:MH K C "numbered" f2 d2 ["self","number"]):
  AR P w K mg base As 2 f fd ["self","number"] (Jn C CC):=by
 refine F.ok ZT (fun vs H Q E h=>?_) (fun BM A outer s H vs Q E hr h=>?_)
 ·obtain ⟨h,lc,lf,as,s,n,rfl,_⟩:=h;rfl
 ·obtain ⟨h,lc,lf,as,st,n,rfl,hA,h1,q⟩:=h;kt_le;obtain ⟨uD,mD,rD⟩:=draft;refine ⟨_,AG (AQ (KE (Ac (pv 0) T.cl m1.me Bw hr m1.bi .nil AU (AA (pv 1) AC))
   (GC (DX Ea (Ap (Ac (pv 0) T.cl m2.me HH hr m2.bi .nil AU (AA (pv 1) AC)) rfl) (Ad (by rfl) mD rD) (Av _))))),?_⟩
  refine ⟨_,rfl,h,dx,fs,rfl,e1,e5 _ m1.nm.1 m1.nm.2,_,rfl,h,lc,lf,as,st,(n:Int),rfl,hA,_,rfl,?_⟩;by_cases hn:n<=st.changes.length
  ·rw[decide_eq_true (by omega)];refine CJ ?_;isplit;obtain ⟨b,b1,b2,b3⟩:=hA.at h1 hn;kl_no;isplit;obtain ⟨K8,la,ls,lt,GW,My,g1,g2,g3,g4,g5,g6⟩:=b2.ex;kl_no;refine ⟨_,rfl,h,dx,fs,rfl,e1,e5 _ m2.nm.1 m2.nm.2,_,rfl,h,lc,lf,as,st,n,b,rfl,hA,h1,b1,b,CC,K8,GW,_,rfl,g1,TC.cl,TC.nC,g5,rfl,?_⟩;have e:(isThere st n&&(changeAt st n).status==0)=decide (V.int ((changeAt st n).status:Nat)=V.int 0):=by
    unfold isThere;rw[decide_eq_true ⟨h1,hn⟩,Bool.true_and];by_cases z:(changeAt st n).status=0
    ·rw[z];rfl
    ·rw[decide_eq_false (fun q=>z (by have:=V.int.inj q;omega)),beq_eq_false_iff_ne.mpr z]
   rw[e]at q;exact q
  ·rw[decide_eq_false (by omega)];refine B1 ?_;have e:(isThere st n&&(changeAt st n).status==0)=false:=by
    unfold isThere;rw[decide_eq_false (fun z=>hn z.2),Bool.false_and]
   rw[e]at q;exact q
end
end Dj
namespace L2
open PySem PySem.Spec PyProof.Rows
theorem HG {X:Cx}(K:PySem.W.Frag)(hK:X.K=K:=by rfl):Px X (compareOp .NotIn) (rIn K true):=by
 subst hK;exact Np
end L2
namespace Dj
open PySem PySem.Spec PyProof.Rows L2
def GX (s:Vbdhae.State)(n:Nat)(r:List Nat):List Nat:=r.filter fun m=> !((changeAt s n).seen++(changeAt s n).on).contains m&&meets (opsAt s m) (opsAt s n)
def Fp (s:Vbdhae.State)(n:Nat)(r:List Nat):List Nat:=(Vbdhae.needs s n).filter fun m=> !r.contains m
theorem Kf (s:Vbdhae.State)(n:Nat):clashes s n=GX s n s.force:=rfl
theorem Hj (s:Vbdhae.State)(n:Nat):lacks s n=Fp s n s.force:=rfl
theorem DB {α:Type}(p:α->Bool)(l:List α)(x:α):(l ++ [x]).filter p=l.filter p++if p x=true then [x]else []:=by
 rw[List.filter_append,filter_cons];split <;> simp
theorem Ay {α:Type}{l:List α}{i:Nat}{x:α}(h:l[i]? =some x):l.take (i+1)=l.take i ++ [x]:=by
 rw[take_add_one,h];rfl
theorem Hk {H H' H2:Hp}{D:Addr}{r:List Nat}{i m:Nat}{p:Nat->Bool}(hD:H D=none)(hm:r[i]? =some m)(Ct:H' D=some (.lst (AY ((r.take i).filter p))))(s':AW H H')(s2:AW H' H2)(hz:r.length<=1000):
  (p m=true->∃acc,H2 D=some (.lst acc)/\acc.length<sizeLine/\(upd H2 D (.lst (acc ++ [V.int (m:Int)]))) D=some (.lst (AY ((r.take (i+1)).filter p)))/\AW H (upd H2 D (.lst (acc ++ [V.int (m:Int)]))))/\
  (p m=false->H2 D=some (.lst (AY ((r.take (i+1)).filter p)))/\AW H H2):=by
 refine ⟨fun hp=>⟨_,s2 _ _ Ct,?_,?_,fun b o e=>?_⟩,fun hp=>⟨?_,s'.trans s2⟩⟩
 ·rw[Ak];refine Nat.lt_of_le_of_lt (Nat.le_trans (length_filter_le _ _) (length_take_le _ _)) ?_;have:=(List.getElem?_eq_some_iff.mp hm).1;rw[sizeLine_eq];omega
 ·rw[AB,Ay hm,DB,if_pos hp];unfold AY;rw[map_append];rfl
 ·rw[AI (AH e hD)];exact s2 _ _ (s' _ _ e)
 ·rw[Ay hm,DB,if_neg (by rw[hp];decide),append_nil];exact s2 _ _ Ct
section
variable {P:Program}{w:World}{K:PySem.W.Frag}{mg:Str->Option Value}{base:Heap}
def IK (CH CC:Addr):Sp:=fun vs H Q _=>∃(h lc lf:Addr) (as:List Addr) (s:Vbdhae.State) (n m:Nat),vs=[.ref h,.int (n:Int),.int (m:Int)]/\Ab CH CC H h lc lf as s/\(1<=n/\n<=s.changes.length)/\(1<=m/\m<=s.changes.length)/\
 ∀H',AW H H'->Q (.bl (feeds (opsAt s n) (opsAt s m))) H'
theorem cf:AT ["self","first","second"] ["self","first","second"] (AO FO):=⟨rfl,rfl,rfl,by decide+kernel,rfl,by decide+kernel,by decide+kernel⟩
theorem c0 {f C CC f1 f3:Addr}{fd d1 d3:FuncData}(F:CB K "feeding" "House.feeding" FO f fd)(T:Am K C)
  (Bw:AR P w K mg base As 1 f1 d1 ["self","number"] (A9 C CC)) (m1:MH K C "numbered" f1 d1 ["self","number"])
  (JE:AR P w K mg base As 1 f3 d3 ["giver","taker"] (Rc CC)) (b3:Binds K d3 ["giver","taker"] []) (WO:mg "feeds"=some (.ref f3)) (k3:keepIn K (.ref f3)=true):
  AR P w K mg base As 2 f fd ["self","first","second"] (IK C CC):=by
 refine F.ok cf (fun vs H Q E h=>?_) (fun BM A outer s H vs Q E hr h=>?_)
 ·obtain ⟨h,lc,lf,as,s,n,m,rfl,_⟩:=h;rfl
 ·obtain ⟨h,lc,lf,as,st,n,m,rfl,hA,hn,hm,q⟩:=h;kt_le;refine ⟨_,AG (AQ (AX JE hr rfl WO k3 b3 .nil AU (AA (Ac (pv 0) T.cl m1.me Bw hr m1.bi .nil AU (AA (pv 1) AC)) (AA (Ac (pv 0) T.cl m1.me Bw hr m1.bi .nil AU (AA (pv 2) AC)) AC)))),?_⟩;isplit;obtain ⟨b,b1,b2,_⟩:=hA.at hn.1 hn.2;kl_no;isplit;obtain ⟨c,c1,c2,_⟩:=hA.at hm.1 hm.2;kl_no;exact ⟨_,rfl,h,dx,fs,rfl,e1,e5 _ m1.nm.1 m1.nm.2,_,rfl,h,lc,lf,as,st,n,b,rfl,hA,hn.1,b1,_,rfl,h,dx,fs,rfl,e1,e5 _ m1.nm.1 m1.nm.2,_,rfl,h,lc,lf,as,st,m,c,rfl,hA,hm.1,c1,b,c,_,_,rfl,b2.rw,c2.rw,q⟩
def ME (CH CC:Addr):Sp:=fun vs H Q _=>∃(h lc lf:Addr) (as:List Addr) (s:Vbdhae.State) (n m:Nat),vs=[.ref h,.int (n:Int),.int (m:Int)]/\Ab CH CC H h lc lf as s/\(1<=n/\n<=s.changes.length)/\(1<=m/\m<=s.changes.length)/\
 ∀H',AW H H'->Q (.bl (meets (opsAt s n) (opsAt s m))) H'
theorem cZ:AT ["self","first","second"] ["self","first","second"] (AO FM):=⟨rfl,rfl,rfl,by decide+kernel,rfl,by decide+kernel,by decide+kernel⟩
theorem cv {f C CC f1 f3:Addr}{fd d1 d3:FuncData}(F:CB K "meeting" "House.meeting" FM f fd)(T:Am K C)
  (Bw:AR P w K mg base As 1 f1 d1 ["self","number"] (A9 C CC)) (m1:MH K C "numbered" f1 d1 ["self","number"])
  (JE:AR P w K mg base As 2 f3 d3 ["one","another"] (fY CC)) (b3:Binds K d3 ["one","another"] []) (WO:mg "meet_changes"=some (.ref f3)) (k3:keepIn K (.ref f3)=true):
  AR P w K mg base As 3 f fd ["self","first","second"] (ME C CC):=by
 refine F.ok cZ (fun vs H Q E h=>?_) (fun BM A outer s H vs Q E hr h=>?_)
 ·obtain ⟨h,lc,lf,as,s,n,m,rfl,_⟩:=h;rfl
 ·obtain ⟨h,lc,lf,as,st,n,m,rfl,hA,hn,hm,q⟩:=h;kt_le;ktn_lt;refine ⟨_,AG (AQ (AX JE hr rfl WO k3 b3 .nil AU (AA (Ac (pv 0) T.cl m1.me Bw FD m1.bi .nil AU (AA (pv 1) AC)) (AA (Ac (pv 0) T.cl m1.me Bw FD m1.bi .nil AU (AA (pv 2) AC)) AC)))),?_⟩;isplit;obtain ⟨b,b1,b2,_⟩:=hA.at hn.1 hn.2;kl_no;isplit;obtain ⟨c,c1,c2,_⟩:=hA.at hm.1 hm.2;kl_no;exact ⟨_,rfl,h,dx,fs,rfl,e1,e5 _ m1.nm.1 m1.nm.2,_,rfl,h,lc,lf,as,st,n,b,rfl,hA,hn.1,b1,_,rfl,h,dx,fs,rfl,e1,e5 _ m1.nm.1 m1.nm.2,_,rfl,h,lc,lf,as,st,m,c,rfl,hA,hm.1,c1,b,c,_,_,rfl,b2.rw,c2.rw,q⟩
def Gm (K:PySem.W.Frag)(CH CC:Addr):Sp:=fun vs H Q _=>∃(h lc lf:Addr) (as:List Addr) (s:Vbdhae.State) (n:Nat) (lr:Addr) (r:List Nat),vs=[.ref h,.int (n:Int),.ref lr]/\Ab CH CC H h lc lf as s/\1<=n/\n<=s.changes.length/\
 H lr=some (.lst (AY r))/\(∀m∈r,1<=m/\m<=s.changes.length)/\r.length<=1000/\∀H' p,AW H H'->H p=none->H' p=some (.lst (AY (GX s n r)))->Q (.ref p) H'
theorem QA:AT ["self","number","row","known","other"] ["self","number","row"] (AO Ei):=⟨rfl,rfl,rfl,by decide+kernel,rfl,by decide+kernel,by decide+kernel⟩
theorem Z2 {f C CC f1 f2 f3:Addr}{fd d1 d2 d3:FuncData}(F:CB K "clashing" "House.clashing" Ei f fd)(T:Am K C)(TC:Br K CC)
  (Bw:AR P w K mg base As 1 f1 d1 ["self","number"] (A9 C CC)) (m1:MH K C "numbered" f1 d1 ["self","number"])
  (HH:AR P w K mg base As 1 f2 d2 ["self"] (Ra CC)) (m2:Meth K CC "known" f2) (b2:Binds K d2 ["self"] [])
  (JE:AR P w K mg base As 3 f3 d3 ["self","first","second"] (ME C CC)) (m3:MH K C "meeting" f3 d3 ["self","first","second"]):
  AR P w K mg base As 4 f fd ["self","number","row"] (Gm K C CC):=by
 refine F.ok QA (fun vs H Q E h=>?_) (fun BM A outer s H vs Q E hr h=>?_)
 ·obtain ⟨h,lc,lf,as,s,n,lr,r,rfl,_⟩:=h;rfl
 ·obtain ⟨h,lc,lf,as,st,n,lr,r,rfl,hA,h1,hn,HS,JY,Yr,q⟩:=h;kt_le;have nd:=QA.nd;ktn_lt;refine ⟨_,AF (AZ (i:=3) nd rfl (Or.inr rfl) (C8 (Ac (pv 0) T.cl m1.me Bw FD m1.bi .nil AU (AA (pv 1) AC)) TC.cl m2 HH FD b2 .nil AU))
   (AG (AQ (GD (own:= [("other",4)]) rfl nd (BF (pv 2)) (Bn (by kernel_rfl)) (fun _ _ _ _ _=>A2 (i:=4) nd rfl (Or.inl rfl))
    (fun _ _ _ _ _=>IX (ng (Al (HG K) (pv 4) (pv 3) (by rfl)) (fq (CD (Ac (pv 0) T.cl m3.me JE hr m3.bi .nil AU (AA (pv 4) (AA (pv 1) AC)))))).pt)
    (fun _ _ _ _ _=>pv 4)))),?_⟩
  isplit;obtain ⟨c,c1,c2,c3⟩:=hA.at h1 hn;kl_no;obtain ⟨k1,k2,k3⟩:=hA.ok.kn _ c3;isplit;obtain ⟨Hq,la,ls,lt,IB,asc,g1,g2⟩:=c2.ex;kl_no;refine ⟨_,rfl,h,dx,fs,rfl,e1,e5 _ m1.nm.1 m1.nm.2,_,rfl,h,lc,lf,as,st,n,c,rfl,hA,h1,c1,?_⟩;refine ⟨c,Hq,IB,rfl,g1,c2.kn _ _ g1,c,_,_,rfl,c2,k2,k3,fun p hp=>?_⟩;have s1:AW H (upd H p (.lst (AY ((changeAt st n).seen++(changeAt st n).on)))):=fun b o e=>by rw[AI (AH e hp)];exact e
  generalize gh:upd H p (.lst (AY ((changeAt st n).seen++(changeAt st n).on)))=H1 at s1;have D3:H1 p=some (.lst (AY ((changeAt st n).seen++(changeAt st n).on))):=by rw[<- gh];exact AB
  refine ⟨_,rfl,lr,rfl,⟨_,Ao.of (s1 _ _ HS)⟩,fun D hD=>?_⟩;refine DI (K:=K) (a:=lr) (xs:=AY r) (fun i H'=>H' D=some (.lst (AY ((r.take i).filter fun m=> !((changeAt st n).seen++(changeAt st n).on).contains m&&meets (opsAt st m) (opsAt st n))))/\AW H1 H')
   ⟨AB,fun b o e=>by rw[AI (AH e hD)];exact e⟩ (fun i H' _ ⟨_,s'⟩=>Ao.of (s' _ _ (s1 _ _ HS))) ?_ ?_
  ·rintro i x H' hx ⟨Ct,s'⟩;obtain ⟨m,hm,rfl⟩:=Bv hx;have hmr:=JY m (mem_of_getElem? hm);have hs:=s1.trans s';refine ⟨rfl,?_⟩;refine ⟨_,rfl,_,rfl,p,_,rfl,.inl (Ao.of (s' _ _ D3)),rfl,Ho _,_,rfl,?_⟩;rw[if_pos rfl,N6];kpt_hd
   ·refine ⟨_,rfl,h,dx,fs,rfl,hs _ _ e1,e5 _ m3.nm.1 m3.nm.2,_,rfl,_,rfl,h,lc,lf,as,st,m,n,rfl,hA.same hs,hmr,⟨h1,hn⟩,fun H2 s2=>⟨_,rfl,?_⟩⟩;have kt:=Hk (p:=fun m=> !((changeAt st n).seen++(changeAt st n).on).contains m&&meets (opsAt st m) (opsAt st n)) hD hm Ct s' s2 Yr;refine BG (fun y=>?_) (fun y=>?_)
    ·exact ⟨_,rfl,kt.1 (by rw[z];exact y)⟩
    ·exact kt.2 (by rw[z];exact Bool.eq_false_iff.mpr y)
   ·have kt:=Hk (p:=fun m=> !((changeAt st n).seen++(changeAt st n).on).contains m&&meets (opsAt st m) (opsAt st n)) hD hm Ct s' (AW.refl _) Yr;refine B1 (kt.2 ?_);rw[Bool.eq_false_iff.mpr z,Bool.false_and]
  ·rintro H' ⟨Ct,s'⟩;rw[Ak,take_length]at Ct;exact q H' D (s1.trans s') (s1.free hD) Ct
theorem Mv.known {s:Vbdhae.State}(h:Mv s){n:Nat}(h1:1<=n)(h2:n<=s.changes.length):
  (∀m∈(changeAt s n).seen++(changeAt s n).on,1<=m/\m<=s.changes.length)/\(changeAt s n).seen.length<=40/\(changeAt s n).on.length<=40:=by
 have C2:n - 1<s.changes.length:=by omega
 have e:=getElem?_eq_getElem C2;rw[Ik e];exact h.kn _ (getElem_mem C2)
theorem WN {s:Vbdhae.State}(h:Mv s){n:Nat}(h1:1<=n)(h2:n<=s.changes.length):(Vbdhae.needs s n).length<=80:=by
 obtain ⟨_,k2,k3⟩:=h.known h1 h2;refine Nat.le_trans (length_filter_le _ _) ?_;rw[length_append];omega
theorem oe {s:Vbdhae.State}(h:Mv s){n:Nat}(h1:1<=n)(h2:n<=s.changes.length):∀m∈Vbdhae.needs s n,1<=m/\m<=s.changes.length:=fun m hm=>
 (h.known h1 h2).1 m (mem_filter.mp hm).1
def Oi (CH CC:Addr):Sp:=fun vs H Q _=>∃(h lc lf:Addr) (as:List Addr) (s:Vbdhae.State) (n:Nat),vs=[.ref h,.int (n:Int)]/\Ab CH CC H h lc lf as s/\1<=n/\n<=s.changes.length/\
 ∀H' p,AW H H'->H p=none->H' p=some (.lst (AY (Vbdhae.needs s n)))->Q (.ref p) H'
theorem Vs:AT ["self","number","other"] ["self","number"] (AO F8):=⟨rfl,rfl,rfl,by decide+kernel,rfl,by decide+kernel,by decide+kernel⟩
theorem jS {f C CC f1 f2 f3:Addr}{fd d1 d2 d3:FuncData}(F:CB K "needed" "House.needed" F8 f fd)(T:Am K C)(TC:Br K CC)
  (Bw:AR P w K mg base As 1 f1 d1 ["self","number"] (A9 C CC)) (m1:MH K C "numbered" f1 d1 ["self","number"])
  (HH:AR P w K mg base As 1 f2 d2 ["self"] (Ra CC)) (m2:Meth K CC "known" f2) (b2:Binds K d2 ["self"] [])
  (JE:AR P w K mg base As 2 f3 d3 ["self","first","second"] (IK C CC)) (m3:MH K C "feeding" f3 d3 ["self","first","second"]):
  AR P w K mg base As 3 f fd ["self","number"] (Oi C CC):=by
 refine F.ok Vs (fun vs H Q E h=>?_) (fun BM A outer s H vs Q E hr h=>?_)
 ·obtain ⟨h,lc,lf,as,s,n,rfl,_⟩:=h;rfl
 ·obtain ⟨h,lc,lf,as,st,n,rfl,hA,h1,hn,q⟩:=h;kt_le;have nd:=Vs.nd;ktn_lt;refine ⟨_,AG (AQ (GD (own:= [("other",2)]) rfl nd (BF (C8 (Ac (pv 0) T.cl m1.me Bw FD m1.bi .nil AU (AA (pv 1) AC)) TC.cl m2 HH FD b2 .nil AU)) (Bn (by kernel_rfl)) (fun _ _ _ _ _=>A2 (i:=2) nd rfl (Or.inl rfl))
    (fun _ _ _ _ _=>IX (CD (Ac (pv 0) T.cl m3.me JE hr m3.bi .nil AU (AA (pv 2) (AA (pv 1) AC)))))
    (fun _ _ _ _ _=>pv 2))),?_⟩
  isplit;obtain ⟨c,c1,c2,c3⟩:=hA.at h1 hn;kl_no;obtain ⟨k1,k2,k3⟩:=hA.ok.known h1 hn;isplit;obtain ⟨Hq,la,ls,lt,IB,asc,g1,g2⟩:=c2.ex;kl_no;refine ⟨_,rfl,h,dx,fs,rfl,e1,e5 _ m1.nm.1 m1.nm.2,_,rfl,h,lc,lf,as,st,n,c,rfl,hA,h1,c1,?_⟩;refine ⟨c,Hq,IB,rfl,g1,c2.kn _ _ g1,c,_,_,rfl,c2,k2,k3,fun p hp=>?_⟩;have s1:AW H (upd H p (.lst (AY ((changeAt st n).seen++(changeAt st n).on)))):=fun b o e=>by rw[AI (AH e hp)];exact e
  generalize gh:upd H p (.lst (AY ((changeAt st n).seen++(changeAt st n).on)))=H1 at s1;have D3:H1 p=some (.lst (AY ((changeAt st n).seen++(changeAt st n).on))):=by rw[<- gh];exact AB
  generalize gX:(changeAt st n).seen++(changeAt st n).on=r at k1 D3;have Yr:r.length<=1000:=by rw[<- gX,length_append];omega
  refine ⟨p,rfl,⟨_,Ao.of D3⟩,fun D hD=>?_⟩;refine DI (K:=K) (a:=p) (xs:=AY r) (fun i H'=>H' D=some (.lst (AY ((r.take i).filter fun m=>feeds (opsAt st m) (opsAt st n))))/\AW H1 H')
   ⟨AB,fun b o e=>by rw[AI (AH e hD)];exact e⟩ (fun i H' _ ⟨_,s'⟩=>Ao.of (s' _ _ D3)) ?_ ?_
  ·rintro i x H' hx ⟨Ct,s'⟩;obtain ⟨m,hm,rfl⟩:=Bv hx;have hmr:=k1 m (mem_of_getElem? hm);have hs:=s1.trans s';refine ⟨rfl,?_⟩;refine ⟨_,rfl,h,dx,fs,rfl,hs _ _ e1,e5 _ m3.nm.1 m3.nm.2,_,rfl,_,rfl,h,lc,lf,as,st,m,n,rfl,hA.same hs,hmr,⟨h1,hn⟩,fun H2 s2=>⟨_,rfl,?_⟩⟩;have kt:=Hk (p:=fun m=>feeds (opsAt st m) (opsAt st n)) hD hm Ct s' s2 Yr;refine BG (fun y=>?_) (fun y=>?_)
   ·exact ⟨_,rfl,kt.1 y⟩
   ·exact kt.2 (Bool.eq_false_iff.mpr y)
  ·rintro H' ⟨Ct,s'⟩;rw[Ak,take_length]at Ct;refine q H' D (s1.trans s') (s1.free hD) ?_;unfold Vbdhae.needs;rw[gX];exact Ct
def F2 (CH CC:Addr):Sp:=fun vs H Q _=>∃(h lc lf:Addr) (as:List Addr) (s:Vbdhae.State) (n:Nat) (lr:Addr) (r:List Nat),vs=[.ref h,.int (n:Int),.ref lr]/\Ab CH CC H h lc lf as s/\1<=n/\n<=s.changes.length/\
 H lr=some (.lst (AY r))/\∀H' p,AW H H'->H p=none->H' p=some (.lst (AY (Fp s n r)))->Q (.ref p) H'
theorem Ro:AT ["self","number","row","other"] ["self","number","row"] (AO FN):=⟨rfl,rfl,rfl,by decide+kernel,rfl,by decide+kernel,by decide+kernel⟩
theorem cw {f C CC f1:Addr}{fd d1:FuncData}(F:CB K "lacking" "House.lacking" FN f fd)(T:Am K C)
  (Bw:AR P w K mg base As 3 f1 d1 ["self","number"] (Oi C CC)) (m1:MH K C "needed" f1 d1 ["self","number"]):
  AR P w K mg base As 4 f fd ["self","number","row"] (F2 C CC):=by
 refine F.ok Ro (fun vs H Q E h=>?_) (fun BM A outer s H vs Q E hr h=>?_)
 ·obtain ⟨h,lc,lf,as,s,n,lr,r,rfl,_⟩:=h;rfl
 ·obtain ⟨h,lc,lf,as,st,n,lr,r,rfl,hA,h1,hn,HS,q⟩:=h;kt_le;have nd:=Ro.nd;refine ⟨_,AG (AQ (GD (own:= [("other",3)]) rfl nd (BF (Ac (pv 0) T.cl m1.me Bw hr m1.bi .nil AU (AA (pv 1) AC))) (Bn (by kernel_rfl)) (fun _ _ _ _ _=>A2 (i:=3) nd rfl (Or.inl rfl))
    (fun _ _ _ _ _=>IX (Al (HG K) (pv 3) (pv 2) (by rfl)))
    (fun _ _ _ _ _=>pv 3))),?_⟩
  refine ⟨_,rfl,h,dx,fs,rfl,e1,e5 _ m1.nm.1 m1.nm.2,_,rfl,h,lc,lf,as,st,n,rfl,hA,h1,hn,fun H1 p s1 hp D3=>?_⟩;have hl:=WN hA.ok h1 hn;refine ⟨p,rfl,⟨_,Ao.of D3⟩,fun D hD=>?_⟩;refine DI (K:=K) (a:=p) (xs:=AY (Vbdhae.needs st n)) (fun i H'=>H' D=some (.lst (AY (((Vbdhae.needs st n).take i).filter fun m=> !r.contains m)))/\AW H1 H')
   ⟨AB,fun b o e=>by rw[AI (AH e hD)];exact e⟩ (fun i H' _ ⟨_,s'⟩=>Ao.of (s' _ _ D3)) ?_ ?_
  ·rintro i x H' hx ⟨Ct,s'⟩;obtain ⟨m,hm,rfl⟩:=Bv hx;refine ⟨rfl,?_⟩;refine ⟨_,rfl,_,rfl,lr,_,rfl,.inl (Ao.of (s' _ _ (s1 _ _ HS))),rfl,Ho _,_,rfl,?_⟩;rw[if_pos rfl,N6];have kt:=Hk (p:=fun m=> !r.contains m) hD hm Ct s' (AW.refl _) (by omega);refine BG (fun y=>?_) (fun y=>?_)
   ·exact ⟨_,rfl,kt.1 y⟩
   ·exact kt.2 (Bool.eq_false_iff.mpr y)
  ·rintro H' ⟨Ct,s'⟩;rw[Ak,take_length]at Ct;exact q H' D (s1.trans s') (s1.free hD) Ct
def GK (s:Vbdhae.State)(n:Nat)(r:List Nat):Bool:=(isThere s n&&(changeAt s n).status==0)&&((GX s n r).isEmpty&&(Fp s n r).isEmpty)
def G6 (CH CC:Addr):Sp:=fun vs H Q _=>∃(h lc lf:Addr) (as:List Addr) (s:Vbdhae.State) (n:Nat) (lr:Addr) (r:List Nat),vs=[.ref h,.int (n:Int),.ref lr]/\Ab CH CC H h lc lf as s/\1<=n/\n<=s.changes.length/\
 H lr=some (.lst (AY r))/\(∀m∈r,1<=m/\m<=s.changes.length)/\r.length<=1000/\∀H',AW H H'->Q (.bl (GK s n r)) H'
theorem U1:AT ["self","number","row"] ["self","number","row"] (AO Dq):=⟨rfl,rfl,rfl,by decide+kernel,rfl,by decide+kernel,by decide+kernel⟩
theorem Gw (l:List Nat):(AY l).isEmpty=l.isEmpty:=by cases l <;> rfl
theorem U7 {f C CC f1 f2 f3:Addr}{fd d1 d2 d3:FuncData}(F:CB K "can_accept" "House.can_accept" Dq f fd)(T:Am K C)
  (Bw:AR P w K mg base As 2 f1 d1 ["self","number"] (Jn C CC)) (m1:MH K C "is_draft" f1 d1 ["self","number"])
  (HH:AR P w K mg base As 4 f2 d2 ["self","number","row"] (Gm K C CC)) (m2:MH K C "clashing" f2 d2 ["self","number","row"])
  (JE:AR P w K mg base As 4 f3 d3 ["self","number","row"] (F2 C CC)) (m3:MH K C "lacking" f3 d3 ["self","number","row"]):
  AR P w K mg base As 5 f fd ["self","number","row"] (G6 C CC):=by
 refine F.ok U1 (fun vs H Q E h=>?_) (fun BM A outer s H vs Q E hr h=>?_)
 ·obtain ⟨h,lc,lf,as,s,n,lr,r,rfl,_⟩:=h;rfl
 ·obtain ⟨h,lc,lf,as,st,n,lr,r,rfl,hA,h1,hn,HS,JY,Yr,q⟩:=h;kt_le;kxf_eq;refine ⟨_,AG (AQ (KE (Ac (pv 0) T.cl m1.me Bw Gg m1.bi .nil AU (AA (pv 1) AC))
   (KE (gA (Ac (pv 0) T.cl m2.me HH hr m2.bi .nil AU (AA (pv 1) (AA (pv 2) AC)))) (GC (gA (Ac (pv 0) T.cl m3.me JE hr m3.bi .nil AU (AA (pv 1) (AA (pv 2) AC)))))))),?_⟩
  unfold GK at q;refine ⟨_,rfl,h,dx,fs,rfl,e1,e5 _ m1.nm.1 m1.nm.2,_,rfl,h,lc,lf,as,st,n,rfl,hA,h1,_,rfl,?_⟩;generalize (isThere st n&&(changeAt st n).status==0)=b1 at q;cases b1 with
  |false=>exact B1 (q H (AW.refl _))
  |true=>
   refine CJ ?_;refine ⟨_,rfl,h,dx,fs,rfl,e1,e5 _ m2.nm.1 m2.nm.2,_,rfl,_,rfl,h,lc,lf,as,st,n,lr,r,rfl,hA,h1,hn,HS,JY,Yr,fun H1 p s1 hp D3=>?_⟩;refine ⟨_,.inl ⟨_,Ao.of D3,rfl⟩,_,rfl,?_⟩;rw[Gw,Bool.not_not];generalize (GX st n r).isEmpty=b2 at q;cases b2 with
   |false=>exact B1 (q H1 s1)
   |true=>
    refine CJ ?_;refine ⟨_,rfl,h,dx,fs,rfl,s1 _ _ e1,e5 _ m3.nm.1 m3.nm.2,_,rfl,_,rfl,h,lc,lf,as,st,n,lr,r,rfl,hA.same s1,h1,hn,s1 _ _ HS,fun H2 p2 s2 FE Mj=>?_⟩;refine ⟨_,.inl ⟨_,Ao.of Mj,rfl⟩,?_⟩;rw[Gw,Bool.not_not];exact q H2 (s1.trans s2)
end
end Dj
namespace Dj
open Vbdhae
inductive Reach (s:State)(n:Nat):Nat->Prop
 |self:Reach s n n
 |step {m x:Nat}:Reach s n m->x∈lacks s m->Reach s n x
theorem II:∀(l:List Nat) (a b:Nat),l.Pairwise (· < ·)->(∀x∈l,a<=x/\x<b)->l.length<=b - a
 | [],a,b,_,_=>zero_le _
 |x::l,a,b,h,hb=>by
  rw[pairwise_cons]at h;have hx:=hb x (mem_cons_self ..);have ih:=II l (x+1) b h.2 fun y hy=>⟨h.1 y hy,(hb y (mem_cons_of_mem _ hy)).2⟩;rw[length_cons];omega
theorem Hg {l:List Nat}{a b:Nat}(h:l.Nodup)(hb:∀x∈l,a<=x/\x<b):l.length<=b - a:=by
 have:=II (rising l) a b (Cq h) fun x hx=>hb x ((Au l).mem_iff.mp hx);rw[(Au l).length_eq]at this;exact this
theorem V0 {l m:List Nat}(h1:l.Nodup)(h2:m.Nodup)(h:∀x,x∈l↔x∈m):rising l=rising m:=
 MJ (Cq h1) (Cq h2) fun x=>by rw[(Au l).mem_iff,(Au m).mem_iff];exact h x
theorem G7 {l m:List Nat}(hp:m.Perm l)(hs:m.Pairwise (· <= ·)):m=rising l:=
 List.Perm.eq_of_pairwise (le:=(· <= ·)) (fun a b _ _ h1 h2=>Nat.le_antisymm h1 h2) hs (HC l) (hp.trans (Au l).symm)
def more (s:State)(l:List Nat):List Nat:=((l.flatMap (lacks s)).filter fun m=> !l.contains m).eraseDups
theorem S7 {s:State}{l:List Nat}{x:Nat}:x∈more s l↔(∃m∈l,x∈lacks s m)/\x∉l:=by
 unfold more;rw[mem_eraseDups,mem_filter,List.mem_flatMap];simp
theorem dN (s:State){l:List Nat}(h:l.Nodup):(more s l++l).Nodup:=by
 rw[nodup_append];refine ⟨FY _ _ (Nat.le_refl _),h,fun a ha b hb e=>?_⟩;subst e;exact (S7.mp ha).2 hb
def Pz (s:State)(l:List Nat):Prop:=∀m∈l, ∀x∈lacks s m,x∈l
theorem UI {s:State}{l:List Nat}(h:more s l=[]):Pz s l:=fun m hm x hx=>by
 cases q:decide (x∈l)with
 |true=>exact of_decide_eq_true q
 |false=>
  have:x∈more s l:=S7.mpr ⟨⟨m,hm,hx⟩,of_decide_eq_false q⟩;rw[h]at this;cases this
theorem E5 (s:State)(k:Nat)(l:List Nat):wanted s (k+1) l=wanted s k (more s l++l):=rfl
theorem IE (s:State):∀(k:Nat) (l:List Nat),l.Nodup->(wanted s k l).Nodup
 |0,l,h=>h
 |k+1,l,h=>by rw[E5];exact IE s k _ (dN s h)
theorem IC {s:State}{n:Nat}:∀(k:Nat) (l:List Nat),(∀x∈l,Reach s n x)->∀x∈wanted s k l,Reach s n x
 |0,l,h=>h
 |k+1,l,h=>by
  rw[E5];refine IC k _ fun x hx=>?_;rcases mem_append.mp hx with z | z
  ·obtain ⟨⟨m,hm,hx⟩,_⟩:=S7.mp z;exact .step (h m hm) hx
  ·exact h x z
theorem M0 {s:State}:∀(k:Nat) (l:List Nat) (x:Nat),x∈l->x∈wanted s k l
 |0,l,x,h=>h
 |k+1,l,x,h=>by rw[E5];exact M0 k _ x (mem_append_right _ h)
theorem LU {s:State}:∀(k:Nat) (l:List Nat),Pz s (wanted s k l)\/l.length+k<=(wanted s k l).length
 |0,l=> .inr (Nat.le_refl _)
 |k+1,l=>by
  rw[E5];cases e:more s l with
  |nil=>
   rw[nil_append];have hc:=UI e;have:∀(k:Nat),wanted s k l=l:=fun k=>by
    induction k with
    |zero=>rfl
    |succ k ih=>rw[E5,e,nil_append];exact ih
   rw[this];exact .inl hc
  |cons x r=>
   rw[<- e];rcases LU k (more s l++l)with h | h
   ·exact .inl h
   ·right;rw[length_append,e,length_cons]at h;rw[e]at *;omega
theorem Nc {s:State}{n:Nat}{l:List Nat}(hn:n∈l)(hc:Pz s l):∀x,Reach s n x->x∈l:=by
 intro x hx;induction hx with
 |self=>exact hn
 |step h1 h2 ih=>exact hc _ ih _ h2
theorem iN {s:State}{n:Nat}{l:List Nat}(hr:∀x,Reach s n x->1<=x/\x<=40)(gZ:l.Nodup)(hl:∀x∈l,Reach s n x)(hn:n∈l)(hc:Pz s l):rising l=rising (wanted s (CHANGES+1) [n]):=by
 have w1:=IE s (CHANGES+1) [n] (by simp);have w2:∀x∈wanted s (CHANGES+1) [n],Reach s n x:=IC _ _ fun x hx=>by
  simp at hx;subst hx;exact .self
 have w3:n∈wanted s (CHANGES+1) [n]:=M0 _ _ _ (by simp);have w4:Pz s (wanted s (CHANGES+1) [n]):=by
  rcases LU (CHANGES+1) [n] (s:=s)with h | h
  ·exact h
  ·have:=Hg (a:=1) (b:=41) w1 fun x hx=>by have:=hr x (w2 x hx);omega
   have e:([n]:List Nat).length+(CHANGES+1)=42:=rfl;omega
 exact V0 gZ w1 fun x=>⟨fun h=>Nc w3 w4 x (hl x h),fun h=>Nc hn hc x (w2 x h)⟩
end Dj
namespace Dj
open PySem PySem.Spec PyProof.Rows L2
theorem Zd {s:Vbdhae.State}(h:Mv s){n:Nat}(h1:1<=n)(h2:n<=s.changes.length):∀x,Reach s n x->1<=x/\x<=s.changes.length:=by
 intro x hx;induction hx with
 |self=>exact ⟨h1,h2⟩
 |step a b ih=>exact oe h ih.1 ih.2 _ (mem_filter.mp b).1
theorem Jq {cC:List Int}{l:List Nat}(hp:cC.Perm (l.map fun (n:Nat)=>(n:Int)))(hs:cC.Pairwise (· <= ·)):cC.map V.int=AY (rising l):=by
 have hm:∃m:List Nat,cC=m.map fun (n:Nat)=>(n:Int):=by
  have:∀x∈cC,0<=x:=fun x hx=>by
   obtain ⟨n,_,e⟩:=mem_map.mp (hp.mem_iff.mp hx);rw[<- e];exact Int.natCast_nonneg n
  refine ⟨cC.map Int.toNat,?_⟩;rw[map_map];have e:∀x∈cC,((fun (n:Nat)=>(n:Int))∘Int.toNat) x=id x:=fun x hx=>by
   show ((x.toNat:Nat):Int)=x;have:=this x hx;omega
  rw[map_congr_left e,map_id]
 obtain ⟨m,rfl⟩:=hm;have FE:m.Perm l:=by
  have:=hp.map Int.toNat;rw[map_map,map_map]at this;have e:(Int.toNat∘fun (n:Nat)=>(n:Int))=id:=by funext n;rfl
  rw[e,map_id,map_id]at this;exact this
 have pU:m.Pairwise (· <= ·):=by
  rw[pairwise_map]at hs;exact hs.imp fun h=>by omega
 rw[G7 FE pU];unfold AY;rw[map_map];rfl
theorem BJ (l:List Nat):(l.map fun (n:Nat)=>(n:Int)).map V.int=AY l:=by
 unfold AY;rw[map_map];rfl
section
variable {P:Program}{w:World}{K:PySem.W.Frag}{mg:Str->Option Value}{base:Heap}
def Gk (CH CC:Addr):Sp:=fun vs H Q _=>∃(h lc lf:Addr) (as:List Addr) (s:Vbdhae.State) (n:Nat),vs=[.ref h,.int (n:Int)]/\Ab CH CC H h lc lf as s/\1<=n/\n<=s.changes.length/\
 ∀H' p,AW H H'->H p=none->H' p=some (.lst (AY (rising (Vbdhae.wanted s (Vbdhae.CHANGES+1) [n]))))->Q (.ref p) H'
theorem Go:AT ["self","number","found","place","other"] ["self","number"] (AO CZ):=⟨rfl,rfl,rfl,by decide+kernel,rfl,by decide+kernel,by decide+kernel⟩
theorem Nr {f C CC f1:Addr}{fd d1:FuncData}(F:CB K "lacking_in_all" "House.lacking_in_all" CZ f fd)(T:Am K C)(bl:mg "len"=none)(bs:mg "sorted"=none)
  (Bw:AR P w K mg base As 4 f1 d1 ["self","number","row"] (F2 C CC)) (m1:MH K C "lacking" f1 d1 ["self","number","row"]):
  AR P w K mg base As 5 f fd ["self","number"] (Gk C CC):=by
 refine F.ok Go (fun vs H Q E h=>?_) (fun BM A outer s H vs Q E hr h=>?_)
 ·obtain ⟨h,lc,lf,as,s,n,rfl,_⟩:=h;rfl
 ·obtain ⟨h,lc,lf,as,st,n,rfl,hA,h1,hn,q⟩:=h;kt_le;have nd:=Go.nd;refine ⟨_,AF (AZ (i:=2) nd rfl (Or.inl rfl) (Aj (AA (pv 1) AC)))
   (AF (AZ (i:=3) nd rfl (Or.inl rfl) AK)
   (AF (Zk PassesOwn.never (Al Gs (pv 3) (Aa Ae (by rfl) bl PySem.boot_len (AA (pv 2) AC)) (Av _))
    (AF (Du PassesOwn.never rfl (BF (Ac (pv 0) T.cl m1.me Bw hr m1.bi .nil AU (AA (Ar Ag (pv 2) (pv 3) (fun _ _=>rfl)) (AA (Ap (pv 0) rfl) AC)))) (A2 (i:=4) nd rfl (Or.inl rfl))
     (AG (A0 (Al Np (pv 4) (pv 2) rfl) (AG (Bt (JD plainAttrs_list PySem.F.slot_list_append PySem.F.type_list_append D8 (pv 2) (AA (pv 4) AC)))) Af)))
    (AG (xQ (i:=3) nd rfl (Or.inl rfl) AK xx))))
   (AG (AQ (Aa Pl (by rfl) bs boot_sorted (AA (pv 2) AC)))))),?_⟩
  refine ⟨_,rfl,by show 1<=sizeLine;decide,fun pf hpf=>?_⟩;have JY:=Zd hA.ok h1 hn;have hlen:=hA.ok.len;let I0:Nat->List Nat->Hp->Prop:=fun place found H'=>H' pf=some (.lst (AY found))/\AW H H'/\found.Nodup/\n∈found/\(∀m∈found,Reach st n m)/\(∀j,j<place->∀m,found[j]? =some m->∀x∈lacks st m,x∈found)/\place<=found.length;refine Yv (fun σ H'=>∃(vo:Option V) (place:Nat) (found:List Nat),σ=[some (.ref h),some (.int (n:Int)),some (.ref pf),some (.int (place:Int)),vo]/\I0 place found H')
   (fun σ _=>match σ with | [_,_,_,some (.int p),_]=>41 - p.toNat | _=>0) ?_ ?_ ?_
  ·exact ⟨none,0,[n],rfl,AB,fun b o e=>by rw[AI (AH e hpf)];exact e,by simp,by simp,fun m hm=>by simp at hm;subst hm;exact .self,fun j hj=>by omega,by simp⟩
  ·intro σ H1 zz;isplit;obtain ⟨vo,place,found,rfl,i1,i2,i3,i4,i5,i6,i7⟩:=zz;kl_no;have gb:found.length<=40:=by
    have:=Hg (a:=1) (b:=41) i3 fun x hx=>by have:=JY x (i5 x hx);omega
    omega
   refine ⟨_,rfl,_,rfl,pf,_,rfl,.inl (Ao.of i1),_,_,rfl,rfl,_,rfl,?_⟩;rw[Ak];kpt_hd
   ·have z:place<found.length:=by have:=of_decide_eq_true z;omega
    obtain ⟨m,hm⟩:∃m,found[place]? =some m:=⟨_,getElem?_eq_getElem z⟩;have ap:=JY m (i5 m (mem_of_getElem? hm));refine ⟨_,rfl,h,dx,fs,rfl,i2 _ _ e1,e5 _ m1.nm.1 m1.nm.2,_,rfl,_,rfl,pf,_,_,.int (m:Int),rfl,rfl,Ao.of i1,Iq (by unfold AY;rw[getElem?_map,hm];rfl),_,rfl,h,C,dx,fs,_,rfl,i2 _ _ e1,T.cl,T.nF,e3,
     h,lc,lf,as,st,m,lf,st.force,rfl,hA.same i2,ap.1,ap.2,(hA.same i2).Ep,fun H2 pk s2 hpk AA4=>?_⟩
    have npk:pk≠pf:=fun e=>by rw[e,i1]at hpk;cases hpk
    refine ⟨pk,rfl,⟨_,Ao.of AA4⟩,Ch (K:=K) (a:=pk) (xs:=AY (Fp st m st.force)) (fun i σ H'=>∃(vo:Option V) (fo:List Nat),σ=[some (.ref h),some (.int (n:Int)),some (.ref pf),some (.int (place:Int)),vo]/\
      H' pf=some (.lst (AY fo))/\AW H H'/\H' pk=some (.lst (AY (Fp st m st.force)))/\fo.Nodup/\(∃ext,fo=found++ext)/\(∀x∈fo,Reach st n x)/\∀x∈(Fp st m st.force).take i,x∈fo)
     ⟨vo,found,rfl,s2 _ _ i1,i2.trans s2,AA4,i3,⟨[],by simp⟩,i5,by simp⟩ ?_ ?_ ?_⟩
    ·intro i σ H' _ zz;isplit;obtain ⟨vo,fo,rfl,k1,k2,k3,_⟩:=zz;kl_no;exact Ao.of k3
    ·intro i x σ H' hx zz;isplit;obtain ⟨vo,fo,rfl,k1,k2,k3,k4,⟨ext,k5⟩,k6,k7⟩:=zz;kl_no;obtain ⟨y,hy,rfl⟩:=Bv hx;have hyr:Reach st n y:= .step (i5 m (mem_of_getElem? hm)) (by rw[Hj];exact mem_of_getElem? hy);have hfo:fo.length<=40:=by
      have:=Hg (a:=1) (b:=41) k4 fun x hx=>by have:=JY x (k6 x hx);omega
      omega
     refine ⟨_,rfl,_,rfl,pf,_,rfl,.inl (Ao.of k1),rfl,Ho _,_,rfl,?_⟩;rw[if_pos rfl,N6];refine BG (fun u=>?_) (fun u=>?_)
     ·have u:y∉fo:=by simpa using u
      refine ⟨_,rfl,.inl ⟨rfl,_,Ao.of k1⟩,_,rfl,pf,_,_,rfl,rfl,k1,?_,?_⟩
      ·rw[Ak,sizeLine_eq];omega
      ·refine ⟨_,fo ++ [y],rfl,?_,fun b o e=>?_,?_,?_,⟨ext ++ [y],by rw[k5,append_assoc]⟩,?_,?_⟩
       ·rw[AB, <- Cd];rfl
       ·rw[AI (AH e hpf)];exact k2 b o e
       ·rw[AI npk];exact k3
       ·rw[nodup_append];exact ⟨k4,by simp,fun a ha b hb e=>by simp at hb;subst hb;subst e;exact u ha⟩
       ·intro x hx;rcases mem_append.mp hx with v | v
        ·exact k6 x v
        ·simp at v;subst v;exact hyr
       ·intro x hx;rw[Ay hy]at hx;rcases mem_append.mp hx with v | v
        ·exact mem_append_left _ (k7 x v)
        ·exact mem_append_right _ v
     ·have u:y∈fo:=by simpa using u
      refine ⟨_,fo,rfl,k1,k2,k3,k4,⟨ext,k5⟩,k6,fun x hx=>?_⟩;rw[Ay hy]at hx;rcases mem_append.mp hx with v | v
      ·exact k7 x v
      ·simp at v;subst v;exact u
    ·intro σ H' zz;isplit;obtain ⟨vo,fo,rfl,k1,k2,k3,k4,⟨ext,k5⟩,k6,k7⟩:=zz;kl_no;rw[Ak,take_length]at k7;refine ⟨_,rfl,_,_,rfl,rfl,?_⟩;have hfo:found.length<=fo.length:=by rw[k5,length_append];omega
     refine ⟨⟨vo,place+1,fo,rfl,k1,k2,k4,by rw[k5];exact mem_append_left _ i4,k6,fun j hj m' yL x hx=>?_,by omega⟩,?_⟩
     ·by_cases e:j=place
      ·subst e;have:fo[j]? =some m:=by rw[k5,getElem?_append_left z];exact hm
       rw[this]at yL;cases yL;exact k7 x (by rw[Hj]at hx;exact hx)
      ·have hj':j<place:=by omega
       have zO:j<found.length:=by omega
       rw[k5,getElem?_append_left zO]at yL;rw[k5];exact mem_append_left _ (i6 j hj' m' yL x hx)
     ·show 41 - ((place:Int)+1).toNat<41 - (place:Int).toNat;omega
   ·have z:¬ place<found.length:=fun e=>z (decide_eq_true (by omega));have kI:Pz st found:=fun m hm x hx=>by
     obtain ⟨j,hj⟩:=getElem?_of_mem hm;have:=(List.getElem?_eq_some_iff.mp hj).1;exact i6 j (by omega) m hj x hx
    refine ⟨_,rfl,pf,found.map fun (k:Nat)=>(k:Int),rfl,Ao.of (by rw[BJ];exact i1),by rw[length_map];omega,fun cC p D3 FE Mj=>?_⟩;rw[Jq D3 FE];refine q _ p (fun b o e=>by rw[AI (AH (i2 _ _ e) Mj)];exact i2 b o e) (i2.free Mj) ?_;rw[AB,iN (fun x hx=>by have:=JY x hx;omega) i3 i5 i4 kI]
  ·intro σ H' Q' Q'' hq zz;isplit;obtain ⟨x,hx,y,hy,p,ys,ey,hs,i,j,ei,ej,k,ek,qk⟩:=zz;kl_no;exact ⟨x,hx,y,hy,p,ys,ey,hs,i,j,ei,ej,k,ek,hq _ _ qk⟩
end
end Dj
namespace Dj
open Vbdhae
theorem K2 {α:Type}(g:α->α):∀(i:Nat) (l:List α) (j:Nat),(mapAt g i l)[j]? =if i=j then (l[j]?).map g else l[j]?
 |i,[],j=>by cases i <;> simp[mapAt]
 |0,x::r,0=>by simp[mapAt]
 |0,x::r,j+1=>by simp[mapAt]
 |i+1,x::r,0=>by simp[mapAt]
 |i+1,x::r,j+1=>by
  simp only[mapAt,getElem?_cons_succ];rw[K2 g i r j];by_cases h:i=j
  ·rw[if_pos h,if_pos (by omega)]
  ·rw[if_neg h,if_neg (by omega)]
theorem DH {α:Type}(g:α->α):∀(i:Nat) (l:List α),(mapAt g i l).length=l.length
 |i,[]=>by cases i <;> rfl
 |0,x::r=>rfl
 |i+1,x::r=>by simp[mapAt,DH g i r]
theorem K1 {α:Type}{g:α->α}:∀{i:Nat} {l:List α} {y:α},y∈mapAt g i l->y∈l\/∃x∈l,y=g x
 |i,[],y,h=>by cases i <;> cases h
 |0,x::r,y,h=>by
  rcases mem_cons.mp h with z | z
  ·exact .inr ⟨x,mem_cons_self ..,z⟩
  ·exact .inl (mem_cons_of_mem _ z)
 |i+1,x::r,y,h=>by
  rcases mem_cons.mp h with z | z
  ·exact .inl (by rw[z];exact mem_cons_self ..)
  ·rcases K1 z with q | ⟨u,hu,e⟩
   ·exact .inl (mem_cons_of_mem _ q)
   ·exact .inr ⟨u,mem_cons_of_mem _ hu,e⟩
theorem Fw {s:State}{n m:Nat}(g:Change->Change)(hn:1<=n)(hm:1<=m)(yK:m<=s.changes.length):changeAt (setChange s n g) m=if m=n then g (changeAt s m)else changeAt s m:=by
 unfold changeAt setChange;simp only;rw[K2];have C2:m - 1<s.changes.length:=by omega
 by_cases h:m=n
 ·rw[if_pos (by omega),if_pos h,getElem?_eq_getElem C2];rfl
 ·rw[if_neg (by omega),if_neg h]
structure bp (s t:State):Prop where
 len:s.changes.length=t.changes.length
 ops:∀n,opsAt s n=opsAt t n
 kn:∀n,(changeAt s n).seen=(changeAt t n).seen/\(changeAt s n).on=(changeAt t n).on
theorem bp.trans {s t u:State}(a:bp s t)(b:bp t u):bp s u:=⟨a.len.trans b.len,fun n=>(a.ops n).trans (b.ops n),fun n=>⟨(a.kn n).1.trans (b.kn n).1,(a.kn n).2.trans (b.kn n).2⟩⟩
theorem bp.ABj {s t:State}(h:bp s t)(n:Nat)(r:List Nat):GX s n r=GX t n r:=by
 unfold GX;rw[(h.kn n).1,(h.kn n).2]
 congr 1
 funext m
 rw[h.ops m,h.ops n]
theorem bp.needs {s t:State}(h:bp s t)(n:Nat):Vbdhae.needs s n=Vbdhae.needs t n:=by
 unfold Vbdhae.needs;rw[(h.kn n).1,(h.kn n).2]
 congr 1
 funext m
 rw[h.ops m,h.ops n]
theorem bp.ADj {s t:State}(h:bp s t)(n:Nat)(r:List Nat):Fp s n r=Fp t n r:=by
 unfold Fp;rw[h.needs n]
theorem Il {s:State}{n:Nat}{g:Change->Change}(hg:∀c,(g c).ops=c.ops/\(g c).seen=c.seen/\(g c).on=c.on)(m:Nat):
  (changeAt (setChange s n g) m).ops=(changeAt s m).ops/\(changeAt (setChange s n g) m).seen=(changeAt s m).seen/\(changeAt (setChange s n g) m).on=(changeAt s m).on:=by
 unfold changeAt setChange;simp only;rw[K2];by_cases h:n - 1=m - 1
 ·rw[if_pos h];cases s.changes[m - 1]? with
  |none=>exact ⟨rfl,rfl,rfl⟩
  |some c=>exact hg c
 ·rw[if_neg h];exact ⟨rfl,rfl,rfl⟩
theorem bp.set {s:State}{n:Nat}{g:Change->Change}(hg:∀c,(g c).ops=c.ops/\(g c).seen=c.seen/\(g c).on=c.on):bp s (setChange s n g):=
 ⟨(DH _ _ _).symm,fun m=>(Il hg m).1.symm,fun m=>⟨(Il hg m).2.1.symm,(Il hg m).2.2.symm⟩⟩
theorem bp.accepted (s:State)(n:Nat):bp s (accepted s n):=
 (bp.set (s:=s) (n:=n) (g:=fun c=>{ c with status:=1 }) fun c=>⟨rfl,rfl,rfl⟩).trans ⟨rfl,fun _=>rfl,fun _=>⟨rfl,rfl⟩⟩
theorem Mv.accepted {s:State}(h:Mv s){n:Nat}(h1:1<=n)(h2:n<=s.changes.length)(h3:n∉s.force):Mv (accepted s n):=by
 have hl:(Vbdhae.accepted s n).changes.length=s.changes.length:=DH _ _ _;refine ⟨by rw[hl];exact h.len,?_,?_,?_,?_⟩
 ·show (s.force ++ [n]).Nodup;rw[nodup_append];exact ⟨h.nd,by simp,fun a ha b hb e=>by simp at hb;subst hb;subst e;exact h3 ha⟩
 ·intro m hm;rw[hl];rcases mem_append.mp (show m∈s.force ++ [n]from hm)with z | z
  ·exact h.Ur m z
  ·simp at z;subst z;exact ⟨h1,h2⟩
 ·intro m m1 m2;rw[hl]at m2;have e:changeAt (Vbdhae.accepted s n) m=if m=n then { changeAt s m with status:=1 } else changeAt s m:=Fw (s:=s) (n:=n) (fun c=>{ c with status:=1 }) h1 m1 m2;rw[e];show _↔m∈s.force ++ [n];by_cases z:m=n
  ·rw[if_pos z];simp[z]
  ·rw[if_neg z,h.st m m1 m2];simp[z]
 ·intro c hc;rw[hl];rcases K1 (show c∈mapAt (fun c=>{ c with status:=1 }) (n - 1) s.changes from hc)with z | ⟨x,hx,e⟩
  ·exact h.kn c z
  ·rw[e];exact h.kn x hx
theorem Mv.refused {s:State}(h:Mv s){n:Nat}(h1:1<=n)(h2:n<=s.changes.length)(h3:n∉s.force):Mv (setChange s n fun c=>{ c with status:=2 }):=by
 have hl:(setChange s n fun c=>{ c with status:=2 }).changes.length=s.changes.length:=DH _ _ _;refine ⟨by rw[hl];exact h.len,h.nd,?_,?_,?_⟩
 ·intro m hm;rw[hl];exact h.Ur m hm
 ·intro m m1 m2;rw[hl]at m2;rw[Fw (fun c=>{ c with status:=2 }) h1 m1 m2];by_cases z:m=n
  ·rw[if_pos z];subst z;exact ⟨fun q=>absurd q (by simp),fun q=>absurd q h3⟩
  ·rw[if_neg z];exact h.st m m1 m2
 ·intro c hc;rw[hl];rcases K1 (show c∈mapAt (fun c=>{ c with status:=2 }) (n - 1) s.changes from hc)with z | ⟨x,hx,e⟩
  ·exact h.kn c z
  ·rw[e];exact h.kn x hx
theorem Mv.B4 {s:State}(h:Mv s):s.force.length<=40:=by
 have:=Hg (a:=1) (b:=41) h.nd fun x hx=>by have:=h.Ur x hx;have:=h.len;omega
 omega
theorem Mv.looked {s:State}(h:Mv s){n:Nat}(h1:1<=n)(h2:n<=s.changes.length):Mv (setChange s n fun c=>{ c with seen:=s.force,on:= [] }):=by
 have hl:(setChange s n fun c=>{ c with seen:=s.force,on:= [] }).changes.length=s.changes.length:=DH _ _ _;refine ⟨by rw[hl];exact h.len,h.nd,?_,?_,?_⟩
 ·intro m hm;rw[hl];exact h.Ur m hm
 ·intro m m1 m2;rw[hl]at m2;rw[Fw (fun c=>{ c with seen:=s.force,on:= [] }) h1 m1 m2];by_cases z:m=n
  ·rw[if_pos z];exact h.st m m1 m2
  ·rw[if_neg z];exact h.st m m1 m2
 ·intro c hc;rw[hl];rcases K1 (show c∈mapAt (fun c=>{ c with seen:=s.force,on:= [] }) (n - 1) s.changes from hc)with z | ⟨x,hx,e⟩
  ·exact h.kn c z
  ·rw[e];refine ⟨fun m hm=>h.Ur m (by simpa using hm),h.B4,by simp⟩
def CN (s:State):List Nat->List Nat->Bool
 | [],_=>true
 |n::r,row=>GK s n row&&CN s r (row ++ [n])
theorem Nz {s:State}{n:Nat}(h1:1<=n)(h2:n<=s.changes.length):GK s n s.force=decide ((changeAt s n).status=0/\mayAccept s n=true):=by
 unfold GK mayAccept isThere;rw[decide_eq_true ⟨h1,h2⟩,Bool.true_and, <- Kf, <- Hj,Bool.decide_and]
 congr 1
 exact Bool.decide_eq_true.symm
theorem QQ {s t:State}(h:bp s t):∀(l row:List Nat),(∀n∈l,(changeAt s n).status=(changeAt t n).status)->CN s l row=CN t l row
 | [],row,_=>rfl
 |n::r,row,hs=>by
  unfold CN;rw[QQ h r _ fun m hm=>hs m (mem_cons_of_mem _ hm)]
  congr 1
  unfold GK isThere;rw[hs n (mem_cons_self ..),h.ABj n row,h.ADj n row,h.len]
theorem Kl:∀(l:List Nat) (s:State),(∀n∈l,1<=n/\n<=s.changes.length)->l.Nodup->Vbdhae.acceptAll s l=if CN s l s.force=true then some (l.foldl accepted s)else none
 | [],s,_,_=>rfl
 |n::r,s,JY,gZ=>by
  rw[nodup_cons]at gZ;have hn:=JY n (mem_cons_self ..);have hl:(accepted s n).changes.length=s.changes.length:=DH _ _ _;unfold Vbdhae.acceptAll CN;rw[Nz hn.1 hn.2];by_cases z:(changeAt s n).status=0/\mayAccept s n=true
  ·rw[if_pos z,decide_eq_true z,Bool.true_and,Kl r (accepted s n) (fun m hm=>by rw[hl];exact JY m (mem_cons_of_mem _ hm)) gZ.2];have e:CN (accepted s n) r (accepted s n).force=CN s r (s.force ++ [n]):=by
    refine (QQ (bp.accepted s n) r _ fun m hm=>?_).symm;have yL:=JY m (mem_cons_of_mem _ hm);have e:changeAt (accepted s n) m=if m=n then { changeAt s m with status:=1 } else changeAt s m:=Fw (s:=s) (n:=n) (fun c=>{ c with status:=1 }) hn.1 yL.1 yL.2;rw[e,if_neg (fun q=>gZ.1 (by rw[<- q];exact hm))]
   rw[e];rfl
  ·rw[if_neg z,decide_eq_false z,Bool.false_and];rfl
end Dj
namespace Dj
open PySem PySem.Spec PyProof.Rows L2
theorem He {f:Str}{v w:V}:∀{fs:List (Str×V)},fs.lookup f=some v->(BX f w fs).length=fs.length
 | [],h=>by cases h
 | (g,x)::r,h=>by
  unfold BX;by_cases e:g=f
  ·rw[if_pos e];rfl
  ·rw[if_neg e,length_cons,length_cons];rw[lookup_cons,beq_eq_false_iff_ne.mpr (fun z=>e z.symm)]at h;rw[He h]
theorem RW.keep {C:Addr}{H H':Hp}{a:Addr}{ops:List Op}(h:RW C H a ops)(ha:∀dx fs,H a=some (.ins C dx fs)->∃GW,H' a=some (.ins C dx GW)/\GW.lookup ("reads":Str)=fs.lookup ("reads":Str)/\GW.lookup ("writes":Str)=fs.lookup ("writes":Str))
  (hd:∀b AV,H b=some (.dT AV)->H' b=some (.dT AV)):RW C H' a ops:=by
 obtain ⟨dx,lr,lw,fs,kr,kw,h1,h2,h3,h4,h5,h6⟩:=h.ex;obtain ⟨GW,g1,g2,g3⟩:=ha dx fs h1;exact ⟨dx,lr,lw,GW,kr,kw,g1,by rw[g2];exact h2,by rw[g3];exact h3,hd _ _ h4,hd _ _ h5,h6⟩
def Keeps (H H':Hp)(x:Addr)(av:List Addr):Prop:=∀b o,H b=some o->b≠x->b∉av->H' b=some o
theorem Keeps.dt {H H':Hp}{x C dx:Addr}{fs:List (Str×V)}{av:List Addr}(k:Keeps H H' x av)(hx:H x=some (.ins C dx fs))(ay:∀y∈av, ∃xs,H y=some (.lst xs)):∀b AV,H b=some (.dT AV)->H' b=some (.dT AV):=fun b AV e=>
 k b _ e (A7 e hx (by kpt_eq)) fun hb=>by
  obtain ⟨xs,e2⟩:=ay b hb;rw[e]at e2;cases e2
theorem Keeps.CW {H H':Hp}{x C dx:Addr}{fs:List (Str×V)}{av:List Addr}(k:Keeps H H' x av)(hx:H x=some (.ins C dx fs))(ay:∀y∈av, ∃xs,H y=some (.lst xs)):Fx H H':=fun b ys e=>
 k b _ e (A7 e hx (by kpt_eq)) fun hb=>by
  obtain ⟨xs,e2⟩:=ay b hb;rw[e]at e2;cases e2
theorem Keeps.lst {H H':Hp}{x C dx:Addr}{fs:List (Str×V)}{av:List Addr}(k:Keeps H H' x av)(hx:H x=some (.ins C dx fs)){b:Addr}{xs:List V}(e:H b=some (.lst xs))(hb:b∉av):H' b=some (.lst xs):=
 k b _ e (A7 e hx (by kpt_eq)) hb
theorem An.keep {C C' x K8:Addr}{GW:List (Str×V)}{H H':Hp}{av:List Addr}{a:Addr}{c:Change}(h:An C H av a c)(hx:H x=some (.ins C' K8 GW))(ay:∀y∈av, ∃xs,H y=some (.lst xs))(k:Keeps H H' x av)(hax:a≠x):An C H' av a c:=by
 isplit;obtain ⟨dx,la,ls,lt,fs,as,h1,h2,h3,h4,h5,h6,h7,h8,h9,cF,Yt,uv,wa⟩:=h.ex;kl_no;have ha:H' a=some (.ins C dx fs):=k a _ h1 hax fun hb=>by
  obtain ⟨xs,e2⟩:=ay a hb;rw[h1]at e2;cases e2
 refine ⟨h.rw.keep (fun qY qJ e=>?_) (k.dt hx ay),⟨dx,la,ls,lt,fs,as,ha,h2,h3,h4,h5,h6,k.lst hx h7 Yt,h8.CW (k.CW hx ay),k.lst hx h9 uv,k.lst hx cF wa,Yt,uv,wa⟩,h.ok,h.len,fun qY qJ e=>?_,h.ed.keep rfl rfl (fun qY qJ e=>?_) fun b xs e hb=>k.lst hx e hb⟩
 ·rw[h1]at e;cases e;exact ⟨fs,ha,rfl,rfl⟩
 ·rw[ha]at e;cases e;exact h.kn _ _ h1
 ·rw[h1]at e;cases e;exact ⟨fs,ha,rfl,rfl⟩
theorem An.cond {C:Addr}{H H':Hp}{av:List Addr}{a dx:Addr}{fs:List (Str×V)}{c:Change}(h:An C H av a c)(ha:H a=some (.ins C dx fs))(ay:∀y∈av, ∃xs,H y=some (.lst xs))(k:Keeps H H' a av)(m:Nat)
  (YD:H' a=some (.ins C dx (BX "condition" (.int (m:Int)) fs))):An C H' av a { c with status:=m }:=by
 isplit;obtain ⟨dx0,la,ls,lt,fs0,as,h1,h2,h3,h4,h5,h6,h7,h8,h9,cF,Yt,uv,wa⟩:=h.ex;kl_no;rw[ha]at h1;cases h1;have lk:∀f:Str,f≠"condition"->(BX "condition" (.int (m:Int)) fs).lookup f=fs.lookup f:=fun f hf=>by rw[A4,if_neg hf]
 refine ⟨h.rw.keep (fun qY qJ e=>?_) (k.dt ha ay),⟨dx,la,ls,lt,_,as,YD,by rw[lk _ (by decide+kernel)];exact h2,by rw[lk _ (by decide+kernel)];exact h3,by rw[lk _ (by decide+kernel)];exact h4,by rw[A4,if_pos rfl],?_,k.lst ha h7 Yt,h8.CW (k.CW ha ay),k.lst ha h9 uv,k.lst ha cF wa,Yt,uv,wa⟩,h.ok,h.len,fun qY qJ e=>?_,h.ed.keep rfl rfl (fun qY qJ e=>?_) fun b xs e hb=>k.lst ha e hb⟩
 ·rw[ha]at e;cases e;exact ⟨_,YD,lk "reads" (by decide+kernel),lk "writes" (by decide+kernel)⟩
 ·rw[He h5];exact h6
 ·rw[YD]at e;cases e;rw[lk _ (by decide+kernel)];exact h.kn _ _ ha
 ·rw[ha]at e;cases e;exact ⟨_,YD,lk "editor" (by decide+kernel),lk "text" (by decide+kernel)⟩
theorem An.look {C:Addr}{H H':Hp}{av av':List Addr}{a dx ls' lt':Addr}{fs:List (Str×V)}{c:Change}{f:List Nat}(h:An C H av a c)(ha:H a=some (.ins C dx fs))(ay:∀y∈av, ∃xs,H y=some (.lst xs))(k:Keeps H H' a av)
  (YD:H' a=some (.ins C dx (BX "stands" (.ref lt') (BX "seen" (.ref ls') fs)))) (hs:H' ls'=some (.lst (AY f))) (ht:H' lt'=some (.lst [])) (n1:ls'∉av) (n2:lt'∉av):An C H' av a { c with seen:=f,on:= [] }:=by
 isplit;obtain ⟨dx0,la,ls,lt,fs0,as,h1,h2,h3,h4,h5,h6,h7,h8,h9,cF,Yt,uv,wa⟩:=h.ex;kl_no;rw[ha]at h1;cases h1;have lk:∀g:Str,g≠"stands"->g≠"seen"->(BX "stands" (.ref lt') (BX "seen" (.ref ls') fs)).lookup g=fs.lookup g:=fun g e1 e2=>by rw[A4,if_neg e1,A4,if_neg e2]
 have wQ:(BX "seen" (V.ref ls') fs).lookup ("stands":Str)=some (.ref lt):=by rw[A4,if_neg (by decide+kernel)];exact h4
 refine ⟨h.rw.keep (fun qY qJ e=>?_) (k.dt ha ay),⟨dx,la,ls',lt',_,as,YD,by rw[lk _ (by decide+kernel) (by decide+kernel)];exact h2,by rw[A4,if_neg (by decide+kernel),A4,if_pos rfl],by rw[A4,if_pos rfl],by rw[lk _ (by decide+kernel) (by decide+kernel)];exact h5,?_,k.lst ha h7 Yt,h8.CW (k.CW ha ay),hs,ht,Yt,n1,n2⟩,h.ok,h.len,fun qY qJ e=>?_,h.ed.keep rfl rfl (fun qY qJ e=>?_) fun b xs e hb=>k.lst ha e hb⟩
 ·rw[ha]at e;cases e;exact ⟨_,YD,lk "reads" (by decide+kernel) (by decide+kernel),lk "writes" (by decide+kernel) (by decide+kernel)⟩
 ·rw[He wQ,He h3];exact h6
 ·rw[YD]at e;cases e;rw[lk _ (by decide+kernel) (by decide+kernel)];exact h.kn _ _ ha
 ·rw[ha]at e;cases e;exact ⟨_,YD,lk "editor" (by decide+kernel) (by decide+kernel),lk "text" (by decide+kernel) (by decide+kernel)⟩
theorem EL {α β:Type}{F G:α->β->Prop}:∀{l:List α} {m:List β},Paired F l m->(∀(i:Nat) a b,l[i]? =some a->F a b->G a b)->Paired G l m
 |_,_,.nil,_=> .nil
 |_,_,.cons r t,h=> .cons (h 0 _ _ rfl r) (EL t fun i a b e q=>h (i+1) a b e q)
theorem IY {α β:Type}{F G:α->β->Prop}{g:β->β}:∀{l:List α} {m:List β} (j:Nat),Paired F l m->(∀i a b,l[i]? =some a->F a b->i≠j->G a b)->(∀a b,l[j]? =some a->F a b->m[j]? =some b->G a (g b))->Paired G l (Vbdhae.mapAt g j m)
 |_,_,j,.nil,_,_=>by cases j <;> exact .nil
 |_,_,0,.cons (a:=a) (b:=b) (l₁:=l) (l₂:=m) r t,h1,h2=>by
  show Paired G (a::l) (g b::m);refine .cons (h2 a b rfl r rfl) ?_;exact EL t fun i x y hx q=>h1 (i+1) x y hx q (by omega)
 |_,_,j+1,.cons (a:=a) (b:=b) (l₁:=l) (l₂:=m) r t,h1,h2=>by
  show Paired G (a::l) (b::Vbdhae.mapAt g j m);exact .cons (h1 0 a b rfl r (by omega)) (IY j t (fun i x y hx q hi=>h1 (i+1) x y hx q (by omega)) fun x y hx q hy=>h2 x y hx q hy)
theorem Ab.OS {CH CC:Addr}{H H':Hp}{h lc lf:Addr}{as:List Addr}{st:Vbdhae.State}{n:Nat}{c Hq:Addr}{IB:List (Str×V)}{g:Change->Change}(hA:Ab CH CC H h lc lf as st)(hc:as[n - 1]? =some c)(dq:H c=some (.ins CC Hq IB))(k:Keeps H H' c [lc,lf])
  (ao:∀b,An CC H [lc,lf] c b->st.changes[n - 1]? =some b->An CC H' [lc,lf] c (g b)):Paired (An CC H' [lc,lf]) as (Vbdhae.mapAt g (n - 1) st.changes):=by
 have ay:∀y∈ [lc,lf], ∃xs,H y=some (.lst xs):=fun y hy=>by
  rcases mem_cons.mp hy with z | z
  ·subst z;exact ⟨_,hA.Gf⟩
  ·simp at z;subst z;exact ⟨_,hA.Ep⟩
 refine IY (n - 1) hA.all (fun i a b e q hi=>q.keep dq ay k fun z=>?_) fun a b e q hb=>?_
 ·subst z;exact hi (gJ hA.nd e hc)
 ·rw[hc]at e;cases e;exact ao b q hb
theorem Ab.av {CH CC:Addr}{H:Hp}{h lc lf:Addr}{as:List Addr}{st:Vbdhae.State}(hA:Ab CH CC H h lc lf as st):∀y∈ [lc,lf], ∃xs,H y=some (.lst xs):=fun y hy=>by
 rcases mem_cons.mp hy with z | z
 ·subst z;exact ⟨_,hA.Gf⟩
 ·simp at z;subst z;exact ⟨_,hA.Ep⟩
def Frame (H H':Hp)(h lf:Addr)(as:List Addr):Prop:=∀b o,H b=some o->b≠h->b≠lf->b∉as->H' b=some o
def Loose (CC:Addr)(H:Hp)(as:List Addr)(p:Addr):Prop:=∀a∈as, ∀dx fs,H a=some (.ins CC dx fs)->fs.lookup ("acts":Str)≠some (.ref p)/\fs.lookup ("seen":Str)≠some (.ref p)/\fs.lookup ("stands":Str)≠some (.ref p)/\fs.lookup ("text":Str)≠some (.ref p)
section
variable {P:Program}{w:World}{K:PySem.W.Frag}{mg:Str->Option Value}{base:Heap}
def DV (CH CC:Addr):Sp:=fun vs H Q _=>∃(h lc lf:Addr) (as:List Addr) (s:Vbdhae.State) (n:Nat),vs=[.ref h,.int (n:Int)]/\Ab CH CC H h lc lf as s/\1<=n/\n<=s.changes.length/\n∉s.force/\
 ∀H',Ab CH CC H' h lc lf as (Vbdhae.accepted s n)->Frame H H' h lf as->(∀p,Loose CC H as p->Loose CC H' as p)->Q .Bo H'
theorem JB:AT ["self","number","change"] ["self","number"] (AO C6):=⟨rfl,rfl,rfl,by decide+kernel,rfl,by decide+kernel,by decide+kernel⟩
theorem Qk {f C CC f1:Addr}{fd d1:FuncData}(F:CB K "put_in_force" "House.put_in_force" C6 f fd)(T:Am K C)(TC:Br K CC)(inf:Gv mg "IN_FORCE" (.int 1))
  (Bw:AR P w K mg base As 1 f1 d1 ["self","number"] (A9 C CC)) (m1:MH K C "numbered" f1 d1 ["self","number"]):
  AR P w K mg base As 2 f fd ["self","number"] (DV C CC):=by
 refine F.ok JB (fun vs H Q E h=>?_) (fun BM A outer s H vs Q E hr h=>?_)
 ·obtain ⟨h,lc,lf,as,s,n,rfl,_⟩:=h;rfl
 ·obtain ⟨h,lc,lf,as,st,n,rfl,hA,h1,hn,ph,q⟩:=h;kt_le;obtain ⟨uI,mI,rI⟩:=inf;have nd:=JB.nd;refine ⟨_,AF (AZ (i:=2) nd rfl (Or.inl rfl) (Ac (pv 0) T.cl m1.me Bw hr m1.bi .nil AU (AA (pv 1) AC)))
   (AF (CV (pv 2) (Ad rfl mI rI) rfl)
   (AG (Bt (JD plainAttrs_list PySem.F.slot_list_append PySem.F.type_list_append D8 (Ap (pv 0) rfl) (AA (pv 1) AC))))),?_⟩
  isplit;obtain ⟨c,c1,c2,c3⟩:=hA.at h1 hn;kl_no;isplit;obtain ⟨Hq,la,ls,lt,IB,asc,g1,g2,g3,g4,g5,g6,g7⟩:=c2.ex;kl_no;have Ys:c∈as:=mem_of_getElem? c1;have gK:h≠c:=fun z=>by
   subst z;have hk:=e5 "condition" (by decide+kernel) (by decide+kernel);rw[e1]at g1;cases g1;rw[g5]at hk;cases hk
  have rT:lf≠c:=A7 hA.Ep g1 (by kpt_eq);have wG:lc≠c:=A7 hA.Gf g1 (by kpt_eq);refine ⟨_,rfl,h,dx,fs,rfl,e1,e5 _ m1.nm.1 m1.nm.2,_,rfl,h,lc,lf,as,st,n,c,rfl,hA,h1,c1,?_⟩;refine ⟨_,rfl,c,CC,Hq,IB,rfl,g1,TC.cl,TC.nC,Nat.lt_of_le_of_lt g6 (by decide),?_⟩;have hh1:(upd H c (.ins CC Hq (BX "condition" (.int 1) IB))) h=some (.ins C dx fs):=by rw[AI gK];exact e1
  have ga:(upd H c (.ins CC Hq (BX "condition" (.int 1) IB))) lf=some (.lst (AY st.force)):=by rw[AI rT];exact hA.Ep
  refine ⟨_,rfl,h,C,dx,fs,_,rfl,hh1,T.cl,T.nF,e3,.inl ⟨rfl,_,Ao.of ga⟩,_,rfl,lf,_,_,rfl,rfl,ga,?_,?_⟩
  ·rw[Ak];exact Nat.lt_of_le_of_lt hA.ok.B4 (by decide)
  generalize Wj:upd (upd H c (.ins CC Hq (BX "condition" (.int 1) IB))) lf (.lst (AY st.force ++ [.int (n:Int)]))=H2;have k:∀b o,H b=some o->b≠c->b≠lf->H2 b=some o:=fun b o e n1 n2=>by rw[<- Wj,AI n2,AI n1];exact e
  have kk:Keeps H H2 c [lc,lf]:=fun b o e n1 n2=>k b o e n1 fun z=>n2 (by rw[z];simp);have nhf:h≠lf:=A7 e1 hA.Ep (by kpt_eq);refine q H2 ⟨⟨dx,fs,k h _ e1 gK nhf,e2,e3,e4,e5⟩,hA.ne,k lc _ hA.Gf wG hA.ne,?_,hA.nd,?_,hA.ok.accepted h1 hn ph⟩ (fun b o e n1 n2 n3=>k b o e (fun z=>n3 (by rw[z];exact Ys)) n2) fun p hp a ha dxa fsa e=>?_
  ·rw[<- Wj,AB];show _=some (HO.lst (AY (st.force ++ [n])));rw[<- Cd];rfl
  ·refine hA.OS c1 g1 kk fun b hb _=>hb.cond g1 hA.av kk 1 ?_;rw[<- Wj,AI rT.symm,AB];rfl
  ·by_cases z:a=c
   ·subst z;rw[<- Wj,AI rT.symm,AB]at e;cases e;isplit;obtain ⟨p1,p2,p3,p4⟩:=hp a ha _ _ g1;kl_no;refine ⟨by rw[A4,if_neg (by decide+kernel)];exact p1,by rw[A4,if_neg (by decide+kernel)];exact p2,by rw[A4,if_neg (by decide+kernel)];exact p3,by rw[A4,if_neg (by decide+kernel)];exact p4⟩
   ·obtain ⟨j,hj⟩:=getElem?_of_mem ha;obtain ⟨cc,_,dq⟩:=Az hA.all hj;isplit;obtain ⟨K8,la',ls',lt',GW,My,y1,_⟩:=dq.ex;kl_no;have nal:a≠lf:=A7 y1 hA.Ep (by intro q;cases q);rw[k a _ y1 z nal]at e;cases e;exact hp a ha _ _ y1
def Jk (CH CC:Addr):Sp:=fun vs H Q _=>∃(h lc lf:Addr) (as:List Addr) (s:Vbdhae.State) (n:Nat),vs=[.ref h,.int (n:Int)]/\Ab CH CC H h lc lf as s/\1<=n/\n<=s.changes.length/\n∉s.force/\
 ∀H',Ab CH CC H' h lc lf as (setChange s n fun c=>{ c with status:=2 })->Frame H H' h lf as->Q .Bo H'
theorem Jt:AT ["self","number","change"] ["self","number"] (AO DL):=⟨rfl,rfl,rfl,by decide+kernel,rfl,by decide+kernel,by decide+kernel⟩
theorem Si {f C CC f1:Addr}{fd d1:FuncData}(F:CB K "put_refused" "House.put_refused" DL f fd)(T:Am K C)(TC:Br K CC)(inf:Gv mg "REFUSED" (.int 2))
  (Bw:AR P w K mg base As 1 f1 d1 ["self","number"] (A9 C CC)) (m1:MH K C "numbered" f1 d1 ["self","number"]):
  AR P w K mg base As 2 f fd ["self","number"] (Jk C CC):=by
 refine F.ok Jt (fun vs H Q E h=>?_) (fun BM A outer s H vs Q E hr h=>?_)
 ·obtain ⟨h,lc,lf,as,s,n,rfl,_⟩:=h;rfl
 ·obtain ⟨h,lc,lf,as,st,n,rfl,hA,h1,hn,ph,q⟩:=h;kt_le;obtain ⟨uI,mI,rI⟩:=inf;have nd:=Jt.nd;refine ⟨_,AF (AZ (i:=2) nd rfl (Or.inl rfl) (Ac (pv 0) T.cl m1.me Bw hr m1.bi .nil AU (AA (pv 1) AC)))
   (AG (CV (pv 2) (Ad rfl mI rI) rfl)),?_⟩
  isplit;obtain ⟨c,c1,c2,c3⟩:=hA.at h1 hn;kl_no;isplit;obtain ⟨Hq,la,ls,lt,IB,asc,g1,g2,g3,g4,g5,g6,g7⟩:=c2.ex;kl_no;have Ys:c∈as:=mem_of_getElem? c1;have gK:h≠c:=fun z=>by
   subst z;have hk:=e5 "condition" (by decide+kernel) (by decide+kernel);rw[e1]at g1;cases g1;rw[g5]at hk;cases hk
  have rT:lf≠c:=A7 hA.Ep g1 (by kpt_eq);have wG:lc≠c:=A7 hA.Gf g1 (by kpt_eq);refine ⟨_,rfl,h,dx,fs,rfl,e1,e5 _ m1.nm.1 m1.nm.2,_,rfl,h,lc,lf,as,st,n,c,rfl,hA,h1,c1,?_⟩;refine ⟨_,rfl,c,CC,Hq,IB,rfl,g1,TC.cl,TC.nC,Nat.lt_of_le_of_lt g6 (by decide),?_⟩;generalize Wj:upd H c (.ins CC Hq (BX "condition" (.int 2) IB))=H2;have k:∀b o,H b=some o->b≠c->H2 b=some o:=fun b o e n1=>by rw[<- Wj,AI n1];exact e
  have kk:Keeps H H2 c [lc,lf]:=fun b o e n1 n2=>k b o e n1;refine q H2 ⟨⟨dx,fs,k h _ e1 gK,e2,e3,e4,e5⟩,hA.ne,k lc _ hA.Gf wG,k lf _ hA.Ep rT,hA.nd,?_,hA.ok.refused h1 hn ph⟩ fun b o e n1 n2 n3=>k b o e (fun z=>n3 (by rw[z];exact Ys));refine hA.OS c1 g1 kk fun b hb _=>hb.cond g1 hA.av kk 2 ?_;rw[<- Wj,AB];rfl
def LZ (CH CC:Addr):Sp:=fun vs H Q _=>∃(h lc lf:Addr) (as:List Addr) (s:Vbdhae.State) (n:Nat),vs=[.ref h,.int (n:Int)]/\Ab CH CC H h lc lf as s/\1<=n/\n<=s.changes.length/\
 ∀H',Ab CH CC H' h lc lf as (setChange s n fun c=>{ c with seen:=s.force,on:= [] })->Frame H H' h lf as->Q .Bo H'
theorem Lf:AT ["self","number","change"] ["self","number"] (AO Do):=⟨rfl,rfl,rfl,by decide+kernel,rfl,by decide+kernel,by decide+kernel⟩
theorem U6 {f C CC f1:Addr}{fd d1:FuncData}(F:CB K "look_again" "House.look_again" Do f fd)(T:Am K C)(TC:Br K CC)(bl:mg "list"=none)
  (Bw:AR P w K mg base As 1 f1 d1 ["self","number"] (A9 C CC)) (m1:MH K C "numbered" f1 d1 ["self","number"]):
  AR P w K mg base As 2 f fd ["self","number"] (LZ C CC):=by
 refine F.ok Lf (fun vs H Q E h=>?_) (fun BM A outer s H vs Q E hr h=>?_)
 ·obtain ⟨h,lc,lf,as,s,n,rfl,_⟩:=h;rfl
 ·obtain ⟨h,lc,lf,as,st,n,rfl,hA,h1,hn,q⟩:=h;kt_le;have nd:=Lf.nd;refine ⟨_,AF (AZ (i:=2) nd rfl (Or.inl rfl) (Ac (pv 0) T.cl m1.me Bw hr m1.bi .nil AU (AA (pv 1) AC)))
   (AF (CV (pv 2) (Cr ER (by rfl) bl boot_list (AA (Ap (pv 0) rfl) AC)) rfl)
   (AG (CV (pv 2) (Aj AC) rfl))),?_⟩
  isplit;obtain ⟨c,c1,c2,c3⟩:=hA.at h1 hn;kl_no;isplit;obtain ⟨Hq,la,ls,lt,IB,asc,g1,g2,g3,g4,g5,g6,g7⟩:=c2.ex;kl_no;have Ys:c∈as:=mem_of_getElem? c1;have gK:h≠c:=fun z=>by
   subst z;have hk:=e5 "condition" (by decide+kernel) (by decide+kernel);rw[e1]at g1;cases g1;rw[g5]at hk;cases hk
  have rT:lf≠c:=A7 hA.Ep g1 (by kpt_eq);have wG:lc≠c:=A7 hA.Gf g1 (by kpt_eq);refine ⟨_,rfl,h,dx,fs,rfl,e1,e5 _ m1.nm.1 m1.nm.2,_,rfl,h,lc,lf,as,st,n,c,rfl,hA,h1,c1,?_⟩;refine ⟨_,rfl,h,C,dx,fs,_,rfl,e1,T.cl,T.nF,e3,lf,_,rfl,.inl (Ao.of hA.Ep),fun p hp=>?_⟩;have s1:AW H (upd H p (.lst (AY st.force))):=fun b o e=>by rw[AI (AH e hp)];exact e
  refine ⟨_,rfl,c,CC,Hq,IB,rfl,s1 _ _ g1,TC.cl,TC.nS,Nat.lt_of_le_of_lt g6 (by decide),?_⟩;refine ⟨zero_le _,fun p2 FE=>?_⟩;generalize gh:upd (upd H p (.lst (AY st.force))) c (.ins CC Hq (BX "seen" (.ref p) IB))=H1 at FE;have npc:p≠c:=fun z=>by rw[z,g1]at hp;cases hp
  have D3:H1 p=some (.lst (AY st.force)):=by rw[<- gh,AI npc,AB]
  have hc1:H1 c=some (.ins CC Hq (BX "seen" (.ref p) IB)):=by rw[<- gh,AB]
  have AAY:p2≠c:=fun z=>by rw[z,hc1]at FE;cases FE
  have k1:∀b o,H b=some o->b≠c->H1 b=some o:=fun b o e n1=>by rw[<- gh,AI n1];exact s1 b o e
  have hc2:(upd H1 p2 (.lst [])) c=some (.ins CC Hq (BX "seen" (.ref p) IB)):=by rw[AI AAY.symm];exact hc1
  refine ⟨_,rfl,c,CC,Hq,_,rfl,hc2,TC.cl,TC.nT,Nat.lt_of_le_of_lt (by rw[He g3];exact g6) (by decide),?_⟩;generalize Wj:upd (upd H1 p2 (.lst [])) c (.ins CC Hq (BX "stands" (.ref p2) (BX "seen" (.ref p) IB)))=H2;have k:∀b o,H b=some o->b≠c->H2 b=some o:=fun b o e n1=>by
   have e':=k1 b o e n1;rw[<- Wj,AI n1,AI (AH e' FE)];exact e'
  have kk:Keeps H H2 c [lc,lf]:=fun b o e n1 n2=>k b o e n1;have pp2:p≠p2:=AH D3 FE;refine q H2 ⟨⟨dx,fs,k h _ e1 gK,e2,e3,e4,e5⟩,hA.ne,k lc _ hA.Gf wG,k lf _ hA.Ep rT,hA.nd,?_,hA.ok.looked h1 hn⟩ fun b o e n1 n2 n3=>k b o e (fun z=>n3 (by rw[z];exact Ys));refine hA.OS c1 g1 kk fun b hb _=>hb.look (av':= []) (ls':=p) (lt':=p2) g1 hA.av kk (by rw[<- Wj,AB]) ?_ ?_ ?_ ?_
  ·rw[<- Wj,AI npc,AI pp2];exact D3
  ·rw[<- Wj,AI AAY,AB]
  ·intro z;rcases mem_cons.mp z with y | y
   ·rw[y,hA.Gf]at hp;cases hp
   ·simp at y;rw[y,hA.Ep]at hp;cases hp
  ·intro z;rcases mem_cons.mp z with y | y
   ·rw[y,k1 lc _ hA.Gf wG]at FE;cases FE
   ·simp at y;rw[y,k1 lf _ hA.Ep rT]at FE;cases FE
theorem T9 {α:Type}{l:List α}{i:Nat}{x:α}(h:l[i]? =some x):l.drop i=x::l.drop (i+1):=by
 obtain ⟨hi,e⟩:=List.getElem?_eq_some_iff.mp h;rw[<- e];exact drop_eq_getElem_cons hi
theorem lD (xs:List V)(k:Nat)(hk:k<=xs.length):UG xs (some (k:Int)) none=xs.drop k:=by
 unfold UG;rw[HT.RE,HT.R0,Nat.min_eq_left hk];exact take_of_length_le (by rw[length_drop];omega)
theorem lI {pre post:List Nat}{n:Nat}(h:n∉pre):behind (pre++n::post) n=post:=by
 unfold behind;induction pre with
 |nil=>simp[List.dropWhile]
 |cons a r ih=>
  have ha:a≠n:=fun z=>h (by rw[z];exact mem_cons_self ..);rw[cons_append,List.dropWhile_cons,if_pos (by simpa using ha)];exact ih fun z=>h (mem_cons_of_mem _ z)
theorem d9 {s:Vbdhae.State}{l r:List Nat}{m:Nat}(hm:m∉l):fallsFrom s l (m::r)=fallsFrom s (if (l.any fun x=>feeds (opsAt s x) (opsAt s m))=true then l ++ [m]else l) r:=by
 have hc:¬ l.contains m=true:=by simpa using hm
 conv=>lhs;unfold fallsFrom
 by_cases z:(l.any fun x=>feeds (opsAt s x) (opsAt s m))=true
 ·rw[if_pos (.inr z),if_neg hc,if_pos z]
 ·rw[if_neg (by rintro (q | q);exact hc q;exact z q),if_neg z]
def EY (CH CC:Addr):Sp:=fun vs H Q _=>∃(h lc lf:Addr) (as:List Addr) (s:Vbdhae.State) (ln:Addr) (l:List Nat),vs=[.ref h,.ref ln]/\Ab CH CC H h lc lf as s/\H ln=some (.lst (AY l))/\(∀m∈l,1<=m/\m<=s.changes.length)/\l.length<=100/\
 ∀H',AW H H'->Q (.bl (CN s l s.force)) H'
theorem EZ:AT ["self","numbers","row","number"] ["self","numbers"] (AO By):=⟨rfl,rfl,rfl,by decide+kernel,rfl,by decide+kernel,by decide+kernel⟩
theorem JV {f C CC f1:Addr}{fd d1:FuncData}(F:CB K "can_accept_in_turn" "House.can_accept_in_turn" By f fd)(T:Am K C)(bl:mg "list"=none)
  (Bw:AR P w K mg base As 5 f1 d1 ["self","number","row"] (G6 C CC)) (m1:MH K C "can_accept" f1 d1 ["self","number","row"]):
  AR P w K mg base As 6 f fd ["self","numbers"] (EY C CC):=by
 refine F.ok EZ (fun vs H Q E h=>?_) (fun BM A outer s H vs Q E hr h=>?_)
 ·obtain ⟨h,lc,lf,as,s,ln,l,rfl,_⟩:=h;rfl
 ·obtain ⟨h,lc,lf,as,st,ln,l,rfl,hA,Bs,JY,hl,q⟩:=h;kt_le;have nd:=EZ.nd;refine ⟨_,AF (AZ (i:=2) nd rfl (Or.inl rfl) (Cr ER (by rfl) bl boot_list (AA (Ap (pv 0) rfl) AC)))
   (AF (Du PassesOwn.never rfl (BF (pv 1)) (A2 (i:=3) nd rfl (Or.inl rfl))
    (AF (A0 (EJ (CD (Ac (pv 0) T.cl m1.me Bw hr m1.bi .nil AU (AA (pv 3) (AA (pv 2) AC))))) (AG (AQ Zr)) Af)
    (AG (Bt (JD plainAttrs_list PySem.F.slot_list_append PySem.F.type_list_append D8 (pv 2) (AA (pv 3) AC))))))
   (AG (AQ Zr))),?_⟩
  refine ⟨_,rfl,h,C,dx,fs,_,rfl,e1,T.cl,T.nF,e3,lf,_,rfl,.inl (Ao.of hA.Ep),fun p hp=>?_⟩;have s1:AW H (upd H p (.lst (AY st.force))):=fun b o e=>by rw[AI (AH e hp)];exact e
  have gb:=hA.ok.B4;refine ⟨_,rfl,ln,rfl,⟨_,Ao.of (s1 _ _ Bs)⟩,Ch (K:=K) (a:=ln) (xs:=AY l) (fun i σ H'=>∃va:Option V,σ=[some (.ref h),some (.ref ln),some (.ref p),va]/\AW H H'/\H' p=some (.lst (AY (st.force++l.take i)))/\CN st l st.force=CN st (l.drop i) (st.force++l.take i))
   ⟨none,rfl,s1,by rw[AB];simp,by simp⟩ ?_ ?_ ?_⟩
  ·intro i σ H' _ zz;isplit;obtain ⟨va,rfl,s',k1,k2⟩:=zz;kl_no;exact Ao.of (s' _ _ Bs)
  ·intro i x σ H' hx zz;isplit;obtain ⟨va,rfl,s',k1,k2⟩:=zz;kl_no;obtain ⟨m,hm,rfl⟩:=Bv hx;have ap:=JY m (mem_of_getElem? hm);have Yr:(st.force++l.take i).length<=1000:=by rw[length_append];have:=length_take_le i l;have:=length_take_le' i l;omega
   refine ⟨_,rfl,h,dx,fs,rfl,s' _ _ e1,e5 _ m1.nm.1 m1.nm.2,_,rfl,_,rfl,h,lc,lf,as,st,m,p,_,rfl,hA.same s',ap.1,ap.2,k1,fun y hy=>?_,Yr,fun H2 s2=>⟨_,rfl,?_⟩⟩
   ·rcases mem_append.mp hy with z | z
    ·exact hA.ok.Ur y z
    ·exact JY y (List.mem_of_mem_take z)
   rw[T9 hm]at k2;unfold CN at k2;cases e:GK st m (st.force++l.take i)with
   |false=>
    rw[e,Bool.false_and]at k2;refine CJ ?_;rw[show CN st l st.force=false from by rw[<- k2];cases l <;> rfl]at q;exact q H2 (s'.trans s2)
   |true=>
    rw[e,Bool.true_and]at k2;refine B1 ?_;have rZ:=s2 _ _ k1;refine ⟨_,rfl,.inl ⟨rfl,_,Ao.of rZ⟩,_,rfl,p,_,_,rfl,rfl,rZ,?_,?_⟩
    ·rw[Ak,sizeLine_eq];omega
    ·refine ⟨_,rfl,fun b o e=>?_,?_,?_⟩
     ·rw[AI (AH e hp)];exact s2 _ _ (s' _ _ e)
     ·rw[AB,Ay hm, <- append_assoc, <- Cd (st.force++l.take i)];rfl
     ·rw[Ay hm, <- append_assoc, <- k2];cases l <;> rfl
  ·intro σ H' zz;isplit;obtain ⟨va,rfl,s',k1,k2⟩:=zz;kl_no;rw[Ak,drop_length]at k2;rw[k2]at q;exact q H' s'
def IL (CH CC:Addr):Sp:=fun vs H Q _=>∃(h lc lf:Addr) (as:List Addr) (s:Vbdhae.State) (n:Nat),vs=[.ref h,.int (n:Int)]/\Ab CH CC H h lc lf as s/\n∈s.force/\
 ∀H' p,AW H H'->H p=none->H' p=some (.lst (AY (falls s n)))->(∀m∈falls s n,m∈s.force)->(falls s n).length<=41->Q (.ref p) H'
theorem Rr:AT ["self","number","fallen","other","one"] ["self","number"] (AO FP):=⟨rfl,rfl,rfl,by decide+kernel,rfl,by decide+kernel,by decide+kernel⟩
theorem dB {f C CC f3:Addr}{fd d3:FuncData}(F:CB K "falling" "House.falling" FP f fd)(T:Am K C)(ba:mg "any"=none)
  (JE:AR P w K mg base As 2 f3 d3 ["self","first","second"] (IK C CC)) (m3:MH K C "feeding" f3 d3 ["self","first","second"]):
  AR P w K mg base As 3 f fd ["self","number"] (IL C CC):=by
 refine F.ok Rr (fun vs H Q E h=>?_) (fun BM A outer s H vs Q E hr h=>?_)
 ·obtain ⟨h,lc,lf,as,s,n,rfl,_⟩:=h;rfl
 ·obtain ⟨h,lc,lf,as,st,n,rfl,hA,ph,q⟩:=h;kt_le;have nd:=Rr.nd;refine ⟨_,AF (AZ (i:=2) nd rfl (Or.inl rfl) (Aj (AA (pv 1) AC)))
   (AF (Du PassesOwn.never rfl (BF (Nj XJ (Ap (pv 0) rfl) (Nh (CI Sd (JD plainAttrs_list PySem.F.slot_list_index PySem.F.type_list_index oj (Ap (pv 0) rfl) (AA (pv 1) AC)) AK)) Xe)) (A2 (i:=3) nd rfl (Or.inr rfl))
    (AG (A0 (CD (Aa (qp rfl) (by rfl) ba boot_any (AA
     (GD (own:= [("one",4)]) rfl nd (BF (pv 2)) (Bn (by kernel_rfl)) (fun _ _ _ _ _=>A2 (i:=4) nd rfl (Or.inl rfl)) (fun _ _ _ _ _=>Ez)
      (fun _ _ _ _ _=>Ac (pv 0) T.cl m3.me JE hr m3.bi .nil AU (AA (pv 4) (AA (pv 3) AC)))) AC)))
     (AG (Bt (JD plainAttrs_list PySem.F.slot_list_append PySem.F.type_list_append D8 (pv 2) (AA (pv 3) AC)))) Af)))
   (AG (AQ (pv 2)))),?_⟩
  obtain ⟨pre,post,YB,hnp⟩:∃pre post,st.force=pre++n::post/\n∉pre:=by
   obtain ⟨pre,post,e⟩:=List.append_of_mem ph;refine ⟨pre,post,e,fun z=>?_⟩;have:=hA.ok.nd;rw[e,nodup_append]at this;exact this.2.2 n z n (mem_cons_self ..) rfl
  have gZ:=hA.ok.nd;rw[YB,nodup_append,nodup_cons]at gZ;have gb:=hA.ok.B4;rw[YB,length_append,length_cons]at gb;refine ⟨_,rfl,by show 1<=sizeLine;decide,fun p hp=>?_⟩;have s1:AW H (upd H p (.lst [V.int (n:Int)])):=fun b o e=>by rw[AI (AH e hp)];exact e
  have D3:(upd H p (.lst [V.int (n:Int)])) p=some (.lst (AY [n])):=AB;generalize upd H p (.lst [V.int (n:Int)])=H1 at s1 D3;have yM:H1 lf=some (.lst (AY (pre++n::post))):=by rw[<- YB];exact s1 _ _ hA.Ep
  have AEP:(AY (pre++n::post))[pre.length]? =some (V.int (n:Int)):=by
   unfold AY;rw[getElem?_map,getElem?_append_right (Nat.le_refl _),Nat.sub_self];rfl
  refine ⟨_,rfl,h,C,dx,fs,_,rfl,s1 _ _ e1,T.cl,T.nF,e3,_,rfl,h,C,dx,fs,_,rfl,s1 _ _ e1,T.cl,T.nF,e3,.inl ⟨rfl,_,Ao.of yM⟩,_,rfl,lf,_,_,pre.length,_,rfl,rfl,Ao.of yM,rfl,Ho _,AEP,beq_self_eq_true (n:Int),fun m z' hm rc=>?_,_,_,rfl,rfl,_,rfl,lf,_,rfl,Ao.of yM,fun ps dl=>?_⟩
  ·obtain ⟨k,hk,rfl⟩:=Bv rc;rw[getElem?_append_left hm]at hk;show ((k:Int)==(n:Int))=false;refine beq_eq_false_iff_ne.mpr fun z=>hnp ?_;have:k=n:=by omega
   subst this;exact mem_of_getElem? hk
  have AE0:UG (AY (pre++n::post)) (some ((pre.length:Int)+1)) none=AY post:=by
   have:=lD (AY (pre++n::post)) (pre.length+1) (by rw[Ak,length_append,length_cons];omega);rw[show ((pre.length+1:Nat):Int)=(pre.length:Int)+1 by omega]at this;rw[this];unfold AY;rw[<- map_drop]
   congr 1
   rw[List.drop_append,List.drop_eq_nil_of_le (by omega)];rw[show pre.length+1 - pre.length=1 by omega];rfl
  rw[AE0];have s2:AW H1 (upd H1 ps (.lst (AY post))):=fun b o e=>by rw[AI (AH e dl)];exact e
  have yC:(upd H1 ps (.lst (AY post))) ps=some (.lst (AY post)):=AB;generalize upd H1 ps (.lst (AY post))=H2 at s2 yC;have nps:ps≠p:=fun z=>by rw[z,D3]at dl;cases dl
  have e0:falls st n=fallsFrom st [n] post:=by unfold falls;rw[YB,lI hnp]
  rw[e0]at q;refine ⟨ps,rfl,⟨_,Ao.of yC⟩,Ch (K:=K) (a:=ps) (xs:=AY post) (fun i σ H'=>∃(va:Option V) (fa:List Nat),σ=[some (.ref h),some (.int (n:Int)),some (.ref p),va,none]/\AW H H'/\H' ps=some (.lst (AY post))/\H' p=some (.lst (AY fa))/\
    fallsFrom st [n] post=fallsFrom st fa (post.drop i)/\(∀m∈fa,m∈n::post.take i)/\fa.length<=i+1)
   ⟨none,[n],rfl,s1.trans s2,yC,s2 _ _ D3,rfl,by simp,by simp⟩ ?_ ?_ ?_⟩
  ·intro i σ H' _ zz;isplit;obtain ⟨va,fa,rfl,k1,k2,k3,k4,k5,k6⟩:=zz;kl_no;exact Ao.of k2
  ·intro i x σ H' hx zz;isplit;obtain ⟨va,fa,rfl,k1,k2,k3,k4,k5,k6⟩:=zz;kl_no;obtain ⟨m,hm,rfl⟩:=Bv hx;have hmp:m∈post:=mem_of_getElem? hm;have hil:=(List.getElem?_eq_some_iff.mp hm).1;have hmf:m∉fa:=fun z=>by
    rcases mem_cons.mp (k5 m z)with y | y
    ·subst y;exact gZ.2.1.1 hmp
    ·obtain ⟨j,hj⟩:=getElem?_of_mem y;have hji:j<i:=by
      have:=(List.getElem?_eq_some_iff.mp hj).1;rw[length_take]at this;omega
     rw[getElem?_take_of_lt hji]at hj;have:=gJ gZ.2.1.2 hj hm;omega
   have Ur:∀y∈n::post,1<=y/\y<=st.changes.length:=fun y hy=>hA.ok.Ur y (by rw[YB];exact mem_append_right _ hy);have ap:=Ur m (mem_cons_of_mem _ hmp);rw[T9 hm,d9 hmf]at k4;refine ⟨_,rfl,p,rfl,⟨_,Ao.of k3⟩,fun D hD=>?_⟩;refine DI (K:=K) (a:=p) (xs:=AY fa) (fun j H3=>H3 D=some (.lst (((fa.take j).map fun x=>feeds (opsAt st x) (opsAt st m)).map V.bl))/\AW H' H3)
    ⟨AB,fun b o e=>by rw[AI (AH e hD)];exact e⟩ (fun j H3 _ ⟨_,s'⟩=>Ao.of (s' _ _ k3)) ?_ ?_
   ·rintro j x H3 hx ⟨Ct,s'⟩;obtain ⟨y,hy,rfl⟩:=Bv hx;have hyi:=Ur y (by
     rcases mem_cons.mp (k5 y (mem_of_getElem? hy))with z | z
     ·rw[z];exact mem_cons_self ..
     ·exact mem_cons_of_mem _ (List.mem_of_mem_take z))
    have hs:=k1.trans s';refine ⟨rfl,Ut ?_⟩;refine ⟨_,rfl,h,dx,fs,rfl,hs _ _ e1,e5 _ m3.nm.1 m3.nm.2,_,rfl,_,rfl,h,lc,lf,as,st,y,m,rfl,hA.same hs,hyi,ap,fun H4 s4=>⟨_,s4 _ _ Ct,?_,?_,fun b o e=>?_⟩⟩
    ·rw[length_map,length_map,length_take,sizeLine_eq];omega
    ·rw[AB,Ay hy];simp
    ·rw[AI (AH e hD)];exact s4 _ _ (s' _ _ e)
   ·rintro H3 ⟨Ct,s'⟩;rw[Ak,take_length]at Ct;refine ⟨D,_,rfl,Ao.of Ct,_,rfl,?_⟩;rw[any_map];have xt:=s' _ _ k3;kpt_hd
    ·refine ⟨_,rfl,.inl ⟨rfl,_,Ao.of xt⟩,_,rfl,p,_,_,rfl,rfl,xt,?_,?_⟩
     ·rw[Ak,sizeLine_eq];omega
     ·have z:(fa.any fun x=>feeds (opsAt st x) (opsAt st m))=true:=z;rw[if_pos z]at k4;refine ⟨_,fa ++ [m],rfl,fun b o e=>?_,?_,?_,k4,fun y hy=>?_,?_⟩
      ·rw[AI (AH e hp)];exact s' _ _ (k1 b o e)
      ·rw[AI nps];exact s' _ _ k2
      ·rw[AB, <- Cd];rfl
      ·rw[Ay hm];rcases mem_append.mp hy with v | v
       ·rcases mem_cons.mp (k5 y v)with u | u
        ·rw[u];exact mem_cons_self ..
        ·exact mem_cons_of_mem _ (mem_append_left _ u)
       ·exact mem_cons_of_mem _ (mem_append_right _ v)
      ·rw[length_append];show fa.length+1<=_;omega
    ·have z:¬ (fa.any fun x=>feeds (opsAt st x) (opsAt st m))=true:=z;rw[if_neg z]at k4;refine ⟨_,fa,rfl,k1.trans s',s' _ _ k2,xt,k4,fun y hy=>?_,by omega⟩;rw[Ay hm];rcases mem_cons.mp (k5 y hy)with u | u
     ·rw[u];exact mem_cons_self ..
     ·exact mem_cons_of_mem _ (mem_append_left _ u)
  ·intro σ H' zz;isplit;obtain ⟨va,fa,rfl,k1,k2,k3,k4,k5,k6⟩:=zz;kl_no;rw[Ak,drop_length]at k4;rw[Ak,take_length]at k5;rw[Ak]at k6;have k4:fallsFrom st [n] post=fa:=k4;rw[k4]at q;refine ⟨_,rfl,q H' p k1 hp k3 (fun y hy=>by rw[YB];exact mem_append_right _ (k5 y hy)) (by omega)⟩
structure Ev (CH CC:Addr)(H:Hp)(h lc lf:Addr)(as:List Addr)(cs:List Change)(force:List Nat):Prop where
 ex:∃(dx:Addr) (fs:List (Str×V)),H h=some (.ins CH dx fs)/\fs.lookup ("changes":Str)=some (.ref lc)/\fs.lookup ("in_force":Str)=some (.ref lf)/\fs.length<=20/\(∀m:Str,m≠"changes"->m≠"in_force"->fs.lookup m=none)
 ne:lc≠lf
 Gf:H lc=some (.lst (as.map V.ref))
 Ep:H lf=some (.lst (AY force))
 nd:as.Nodup
 all:Paired (An CC H [lc,lf]) as cs
end
theorem Ab.w {CH CC:Addr}{H:Hp}{h lc lf:Addr}{as:List Addr}{s:Vbdhae.State}(a:Ab CH CC H h lc lf as s):Ev CH CC H h lc lf as s.changes s.force:=⟨a.ex,a.ne,a.Gf,a.Ep,a.nd,a.all⟩
theorem Ev.a {CH CC:Addr}{H:Hp}{h lc lf:Addr}{as:List Addr}{s:Vbdhae.State}(a:Ev CH CC H h lc lf as s.changes s.force)(ok:Mv s):Ab CH CC H h lc lf as s:=⟨a.ex,a.ne,a.Gf,a.Ep,a.nd,a.all,ok⟩
theorem Ev.same {CH CC:Addr}{H H':Hp}{h lc lf:Addr}{as:List Addr}{cs:List Change}{fo:List Nat}(z:AW H H')(a:Ev CH CC H h lc lf as cs fo):Ev CH CC H' h lc lf as cs fo:=by
 obtain ⟨dx,fs,h1,h2⟩:=a.ex;exact ⟨⟨dx,fs,z _ _ h1,h2⟩,a.ne,z _ _ a.Gf,z _ _ a.Ep,a.nd,Paired.TD a.all fun _ _ q=>q.same z⟩
theorem Ev.av {CH CC:Addr}{H:Hp}{h lc lf:Addr}{as:List Addr}{cs:List Change}{fo:List Nat}(hA:Ev CH CC H h lc lf as cs fo):∀y∈ [lc,lf], ∃xs,H y=some (.lst xs):=fun y hy=>by
 rcases mem_cons.mp hy with z | z
 ·subst z;exact ⟨_,hA.Gf⟩
 ·simp at z;subst z;exact ⟨_,hA.Ep⟩
theorem Ev.OS {CH CC:Addr}{H H':Hp}{h lc lf:Addr}{as:List Addr}{cs:List Change}{fo:List Nat}{n:Nat}{c Hq:Addr}{IB:List (Str×V)}{g:Change->Change}(hA:Ev CH CC H h lc lf as cs fo)(hc:as[n - 1]? =some c)(dq:H c=some (.ins CC Hq IB))(k:Keeps H H' c [lc,lf])
  (ao:∀b,An CC H [lc,lf] c b->An CC H' [lc,lf] c (g b)):Paired (An CC H' [lc,lf]) as (Vbdhae.mapAt g (n - 1) cs):=by
 refine IY (n - 1) hA.all (fun i a b e q hi=>q.keep dq hA.av k fun z=>?_) fun a b e q hb=>?_
 ·subst z;exact hi (gJ hA.nd e hc)
 ·rw[hc]at e;cases e;exact ao b q
theorem An.AC4 {C:Addr}{H:Hp}{av av':List Addr}{a:Addr}{c:Change}(h:An C H av a c)(hn:∀b xs,H b=some (.lst xs)->b∉av->b∉av'):An C H av' a c:=by
 obtain ⟨dx,la,ls,lt,fs,as,h1,h2,h3,h4,h5,h6,h7,h8,h9,cF,Yt,uv,wa⟩:=h.ex;exact ⟨h.rw,⟨dx,la,ls,lt,fs,as,h1,h2,h3,h4,h5,h6,h7,h8,h9,cF,hn _ _ h7 Yt,hn _ _ h9 uv,hn _ _ cF wa⟩,h.ok,h.len,h.kn,by
  obtain ⟨dx,lx,fs,j1,j2,j3,j4,j5,j6⟩:=h.ed.ex;exact ⟨dx,lx,fs,j1,j2,j3,j4,hn _ _ j4 j5,j6⟩⟩
def Ht:Change->Change:=fun c=>{ c with status:=3 }
def Fk (l:List Nat)(cs:List Change):List Change:=l.foldl (fun cs m=>Vbdhae.mapAt Ht (m - 1) cs) cs
theorem LI (l:List Nat):∀cs,(Fk l cs).length=cs.length:=by
 induction l with
 |nil=>intro cs;rfl
 |cons m l ih=>
  intro cs;show (Fk l (Vbdhae.mapAt Ht (m - 1) cs)).length=_;rw[ih,DH]
theorem e9 (l:List Nat)(m:Nat)(cs:List Change):Fk (l ++ [m]) cs=Vbdhae.mapAt Ht (m - 1) (Fk l cs):=by
 unfold Fk;rw[foldl_append];rfl
theorem M8 (s:Vbdhae.State)(l:List Nat):takenBack s l=⟨Fk l s.changes,s.force.filter fun m=> !l.contains m⟩:=by
 have h:∀(l:List Nat) (s:Vbdhae.State),(l.foldl (fun t m=>setChange t m fun c=>{ c with status:=3 }) s)=⟨Fk l s.changes,s.force⟩:=by
  intro l;induction l with
  |nil=>intro s;rfl
  |cons m l ih=>
   intro s;rw[foldl_cons,ih];rfl
 unfold takenBack;rw[h]
theorem Wv (l:List Nat):∀(cs:List Change) (j:Nat),(∀m∈l,1<=m)->(Fk l cs)[j]? =(cs[j]?).map fun c=>if j+1∈l then Ht c else c:=by
 induction l with
 |nil=>intro cs j _;show cs[j]? =_;cases cs[j]? <;> simp
 |cons m l ih=>
  intro cs j h;show (Fk l (Vbdhae.mapAt Ht (m - 1) cs))[j]? =_;rw[ih _ _ fun x hx=>h x (mem_cons_of_mem _ hx),K2];have hm:=h m (mem_cons_self ..);cases cs[j]? with
  |none=>
   by_cases e:m - 1=j
   ·rw[if_pos e];rfl
   ·rw[if_neg e];rfl
  |some c=>
   by_cases e:m - 1=j
   ·have e':j+1=m:=by omega
    rw[if_pos e];show some (if j+1∈l then Ht (Ht c)else Ht c)=some (if j+1∈m::l then Ht c else c);rw[if_pos (show j+1∈m::l by rw[e'];exact mem_cons_self ..)];split <;> rfl
   ·have e':¬ j+1=m:=by omega
    rw[if_neg e];show some (if j+1∈l then Ht c else c)=some (if j+1∈m::l then Ht c else c);by_cases z:j+1∈l
    ·rw[if_pos z,if_pos (mem_cons_of_mem _ z)]
    ·rw[if_neg z,if_neg (by simp[e',z])]
theorem Mv.taken {s:Vbdhae.State}(h:Mv s){l:List Nat}(hl:∀m∈l,m∈s.force):Mv (takenBack s l):=by
 rw[M8];have ga:∀m∈l,1<=m:=fun m hm=>(h.Ur m (hl m hm)).1;refine ⟨by show (Fk l s.changes).length<=40;rw[LI];exact h.len,h.nd.filter _,fun m hm=>?_,fun n h1 h2=>?_,fun c hc=>?_⟩
 ·show 1<=m/\m<=(Fk l s.changes).length;rw[LI];exact h.Ur m (mem_filter.mp hm).1
 ·have h2:n<=(Fk l s.changes).length:=h2;rw[LI]at h2;show _↔n∈s.force.filter fun m=> !l.contains m;have C2:n - 1<s.changes.length:=by omega
  have e:changeAt ⟨Fk l s.changes,s.force.filter fun m=> !l.contains m⟩ n=if n∈l then Ht (changeAt s n)else changeAt s n:=by
   unfold changeAt;simp only;rw[Wv l _ _ ga,getElem?_eq_getElem C2,show n - 1+1=n by omega];rfl
  rw[e,mem_filter];by_cases z:n∈l
  ·rw[if_pos z];constructor
   ·intro q;exact absurd q (by show ¬ (3:Nat)=1;decide)
   ·intro q;simp[z]at q
  ·rw[if_neg z,h.st n h1 h2];simp[z]
 ·show (∀m∈c.seen++c.on,1<=m/\m<=(Fk l s.changes).length)/\_;rw[LI];obtain ⟨j,hj⟩:=getElem?_of_mem (show c∈Fk l s.changes from hc);rw[Wv l _ _ ga]at hj;cases e:s.changes[j]? with
  |none=>rw[e]at hj;cases hj
  |some x=>
   rw[e]at hj;have:=h.kn x (mem_of_getElem? e);have hj:(if j+1∈l then Ht x else x)=c:=Option.some.inj hj;rw[<- hj];split <;> exact this
section
variable {P:Program}{w:World}{K:PySem.W.Frag}{mg:Str->Option Value}{base:Heap}
def NB (CH CC:Addr):Sp:=fun vs H Q _=>∃(h lc lf:Addr) (as:List Addr) (cs:List Change) (fo:List Nat) (n:Nat) (a:Addr),vs=[.ref h,.int (n:Int)]/\Ev CH CC H h lc lf as cs fo/\1<=n/\as[n - 1]? =some a/\Q (.ref a) H
theorem Xl {f C CC:Addr}{fd:FuncData}(F:CB K "numbered" "House.numbered" DF f fd)(T:Am K C):AR P w K mg base As 1 f fd ["self","number"] (NB C CC):=by
 refine F.ok P9 (fun vs H Q E h=>?_) (fun BM A outer s H vs Q E hr h=>?_)
 ·obtain ⟨h,lc,lf,as,cs,fo,n,a,rfl,_⟩:=h;rfl
 ·obtain ⟨h,lc,lf,as,cs,fo,n,a,rfl,hA,h1,ha,q⟩:=h;kt_le;refine ⟨_,AG (AQ (Ar Ag (Ap (pv 0) rfl) (CI SX (pv 1) AK) (fun _ _=>rfl))),?_⟩;refine ⟨_,rfl,h,C,dx,fs,_,rfl,e1,T.cl,T.nC,e2,_,rfl,_,_,rfl,rfl,lc,_,_,.ref a,rfl,rfl,Ao.of hA.Gf,at_of (j:=n - 1) (by omega) (by rw[getElem?_map,ha];rfl),q⟩
def Jl (CH CC:Addr):Sp:=fun vs H Q _=>∃(h lc lf:Addr) (as:List Addr) (s:Vbdhae.State) (ln:Addr) (l:List Nat),vs=[.ref h,.ref ln]/\Ab CH CC H h lc lf as s/\H ln=some (.lst (AY l))/\ln≠lf/\(∀m∈l,m∈s.force)/\l.length<=100/\
 ∀H' cD,Ab CH CC H' h lc cD as (takenBack s l)->H cD=none->Frame H H' h lf as->Q .Bo H'
theorem P8:AT ["self","numbers","number","change"] ["self","numbers"] (AO Eg):=⟨rfl,rfl,rfl,by decide+kernel,rfl,by decide+kernel,by decide+kernel⟩
theorem Zy {f C CC f1:Addr}{fd d1:FuncData}(F:CB K "put_back" "House.put_back" Eg f fd)(T:Am K C)(TC:Br K CC)(inf:Gv mg "TAKEN_BACK" (.int 3))
  (Bw:AR P w K mg base As 1 f1 d1 ["self","number"] (NB C CC)) (m1:MH K C "numbered" f1 d1 ["self","number"]):
  AR P w K mg base As 2 f fd ["self","numbers"] (Jl C CC):=by
 refine F.ok P8 (fun vs H Q E h=>?_) (fun BM A outer s H vs Q E hr h=>?_)
 ·obtain ⟨h,lc,lf,as,s,ln,l,rfl,_⟩:=h;rfl
 ·obtain ⟨h,lc,lf,as,st,ln,l,rfl,hA,Bs,nln,JY,hl,q⟩:=h;obtain ⟨uI,mI,rI⟩:=inf;have nd:=P8.nd;refine ⟨_,AF (Du PassesOwn.never rfl (BF (pv 1)) (A2 (i:=2) nd rfl (Or.inl rfl))
    (AF (AZ (i:=3) nd rfl (Or.inl rfl) (Ac (pv 0) T.cl m1.me Bw hr m1.bi .nil AU (AA (pv 2) AC)))
    (AG (CV (pv 3) (Ad rfl mI rI) rfl))))
   (AG (CV (pv 0) (GD (own:= [("number",2)]) rfl nd (BF (Ap (pv 0) rfl)) (Bn (by kernel_rfl)) (fun _ _ _ _ _=>A2 (i:=2) nd rfl (Or.inl rfl))
    (fun _ _ _ _ _=>IX (Al (HG K) (pv 2) (pv 1) (by rfl))) (fun _ _ _ _ _=>pv 2)) rfl)),?_⟩
  let I0:Nat->Hp->Prop:=fun i H'=>Ev C CC H' h lc lf as (Fk (l.take i) st.changes) st.force/\(∀b o,H b=some o->b∉as->H' b=some o);have AAn:ln∉as:=fun z=>by
   obtain ⟨j,hj⟩:=getElem?_of_mem z;obtain ⟨c,_,hc⟩:=Az hA.all hj;isplit;obtain ⟨dx,la,ls,lt,fs,My,g1,_⟩:=hc.ex;kl_no;rw[Bs]at g1;cases g1
  refine ⟨_,rfl,ln,rfl,⟨_,Ao.of Bs⟩,Ch (K:=K) (a:=ln) (xs:=AY l) (fun i σ H'=>∃(v2 v3:Option V),σ=[some (.ref h),some (.ref ln),v2,v3]/\I0 i H') ⟨none,none,rfl,hA.w,fun b o e _=>e⟩ ?_ ?_ ?_⟩
  ·intro i σ H' _ zz;isplit;obtain ⟨v2,v3,rfl,w1,w2⟩:=zz;kl_no;exact Ao.of (w2 _ _ Bs AAn)
  ·intro i x σ H' hx zz;isplit;obtain ⟨v2,v3,rfl,w1,w2⟩:=zz;kl_no;obtain ⟨m,hm,rfl⟩:=Bv hx;have ap:=hA.ok.Ur m (JY m (mem_of_getElem? hm));isplit;obtain ⟨dx,fs,e1,e2,e3,e4,e5⟩:=w1.ex;kl_no;have C2:m - 1<as.length:=by rw[hA.len];omega
   obtain ⟨c,c1⟩:∃c,as[m - 1]? =some c:=⟨_,getElem?_eq_getElem C2⟩;obtain ⟨cc,_,c2⟩:=Az w1.all c1;isplit;obtain ⟨Hq,la,ls,lt,IB,asc,g1,g2,g3,g4,g5,g6,g7⟩:=c2.ex;kl_no;have Ys:c∈as:=mem_of_getElem? c1;have gK:h≠c:=fun z=>by
    subst z;have hk:=e5 "condition" (by decide+kernel) (by decide+kernel);rw[e1]at g1;cases g1;rw[g5]at hk;cases hk
   have rT:lf≠c:=A7 w1.Ep g1 (by kpt_eq);have wG:lc≠c:=A7 w1.Gf g1 (by kpt_eq);refine ⟨_,rfl,h,dx,fs,rfl,e1,e5 _ m1.nm.1 m1.nm.2,_,rfl,h,lc,lf,as,_,_,m,c,rfl,w1,ap.1,c1,?_⟩;refine ⟨_,rfl,c,CC,Hq,IB,rfl,g1,TC.cl,TC.nC,Nat.lt_of_le_of_lt g6 (by decide),?_⟩;generalize Wj:upd H' c (.ins CC Hq (BX "condition" (.int 3) IB))=H2;have k:∀b o,H' b=some o->b≠c->H2 b=some o:=fun b o e n1=>by rw[<- Wj,AI n1];exact e
   have kk:Keeps H' H2 c [lc,lf]:=fun b o e n1 n2=>k b o e n1;refine ⟨_,_,rfl,⟨⟨dx,fs,k h _ e1 gK,e2,e3,e4,e5⟩,w1.ne,k lc _ w1.Gf wG,k lf _ w1.Ep rT,w1.nd,?_⟩,fun b o e n1=>k b o (w2 b o e n1) fun z=>n1 (by rw[z];exact Ys)⟩;rw[Ay hm,e9];refine w1.OS c1 g1 kk fun b hb=>hb.cond g1 w1.av kk 3 ?_;rw[<- Wj,AB];rfl
  ·intro σ H' zz;isplit;obtain ⟨v2,v3,rfl,w1,w2⟩:=zz;kl_no;rw[Ak,take_length]at w1;isplit;obtain ⟨dx,fs,e1,e2,e3,e4,e5⟩:=w1.ex;kl_no;refine ⟨_,rfl,h,C,dx,fs,_,rfl,e1,T.cl,T.nF,e3,lf,rfl,⟨_,Ao.of w1.Ep⟩,fun D hD=>?_⟩;have AEH:=w2 _ _ Bs AAn;refine DI (K:=K) (a:=lf) (xs:=AY st.force) (fun i H3=>H3 D=some (.lst (AY ((st.force.take i).filter fun m=> !l.contains m)))/\AW H' H3)
    ⟨AB,fun b o e=>by rw[AI (AH e hD)];exact e⟩ (fun i H3 _ ⟨_,s'⟩=>Ao.of (s' _ _ w1.Ep)) ?_ ?_
   ·rintro i x H3 hx ⟨Ct,s'⟩;obtain ⟨m,hm,rfl⟩:=Bv hx;refine ⟨rfl,?_⟩;refine ⟨_,rfl,_,rfl,ln,_,rfl,.inl (Ao.of (s' _ _ AEH)),rfl,Ho _,_,rfl,?_⟩;rw[if_pos rfl,N6];have gb:=hA.ok.B4;have kt:=Hk (p:=fun m=> !l.contains m) hD hm Ct s' (AW.refl _) (by omega);refine BG (fun y=>?_) (fun y=>?_)
    ·exact ⟨_,rfl,kt.1 y⟩
    ·exact kt.2 (Bool.eq_false_iff.mpr y)
   ·rintro H3 ⟨Ct,s'⟩;rw[Ak,take_length]at Ct;have w3:=w1.same s';have bE:=s' _ _ e1;refine ⟨_,rfl,h,C,dx,fs,rfl,bE,T.cl,T.nF,Nat.lt_of_le_of_lt e4 (by decide),?_⟩;generalize yS:upd H3 h (.ins C dx (BX "in_force" (.ref D) fs))=H4;have hh4:H4 h=some (.ins C dx (BX "in_force" (.ref D) fs)):=by rw[<- yS,AB]
    have nDh:D≠h:=A7 Ct bE (by kpt_eq);have ADb:D≠lc:=fun z=>by rw[z,w1.Gf]at hD;cases hD
    have k:∀b o,H3 b=some o->b≠h->H4 b=some o:=fun b o e n1=>by rw[<- yS,AI n1];exact e
    have kk:Keeps H3 H4 h [lc,lf]:=fun b o e n1 n2=>k b o e n1;have hD0:H D=none:=by
     cases e:H D with
     |none=>rfl
     |some o=>
      by_cases z:D∈as
      ·obtain ⟨j,hj⟩:=getElem?_of_mem z;obtain ⟨c,_,hc⟩:=Az w3.all hj;isplit;obtain ⟨qY,la,ls,lt,qJ,My,g1,_⟩:=hc.ex;kl_no;rw[Ct]at g1;cases g1
      ·rw[w2 _ _ e z]at hD;cases hD
    have lk:∀g:Str,g≠"in_force"->(BX "in_force" (.ref D) fs).lookup g=fs.lookup g:=fun g e=>by rw[A4,if_neg e]
    refine q H4 D (Ev.a (s:=takenBack st l) ?_ (hA.ok.taken JY)) hD0 fun b o e n1 n2 n3=>k b o (s' _ _ (w2 b o e n3)) n1;rw[M8];refine ⟨⟨dx,_,hh4,by rw[lk _ (by decide+kernel)];exact e2,by rw[A4,if_pos rfl],by rw[He e3];exact e4,fun m n1 n2=>by rw[lk _ n2];exact e5 m n1 n2⟩,ADb.symm,k lc _ w3.Gf (A7 w3.Gf bE (by kpt_eq)),k D _ Ct nDh,w3.nd,?_⟩;refine EL w3.all fun i a b e q'=>?_;have wI:a≠h:=fun z=>by
     subst z;isplit;obtain ⟨Hq,la,ls,lt,IB,asc,g1,g2,g3,g4,g5,g6,g7⟩:=q'.ex;kl_no;have hk:=e5 "condition" (by decide+kernel) (by decide+kernel);rw[bE]at g1;cases g1;rw[g5]at hk;cases hk
    have q2:=q'.keep bE w3.av kk wI;isplit;obtain ⟨Hq,la,ls,lt,IB,asc,g1,g2,g3,g4,g5,g6,g7,g8,g9,yX,zW,g12,g13⟩:=(Az w1.all e).choose_spec.2.ex;kl_no;obtain ⟨c1,c2⟩:=(Az w1.all e).choose_spec;have nn:∀b xs,H' b=some (.lst xs)->b∉ [lc,lf]->b∉ [lc,D]:=fun b xs e n z=>by
     rcases mem_cons.mp z with y | y
     ·exact n (by rw[y];simp)
     ·simp at y;rw[y,hD]at e;cases e
    refine ⟨q2.rw,?_,q2.ok,q2.len,q2.kn,?_⟩
    rotate_left
    ·isplit;obtain ⟨dxe,lx,fse,j1,j2,j3,j4,j5,j6⟩:=q2.ed.ex;kl_no;isplit;obtain ⟨dxf,ly,fsf,i1,i2,i3,i4,i5,i6⟩:=c2.ed.ex;kl_no;have f1':=k a _ (s' _ _ i1) wI;rw[j1]at f1';cases f1';rw[j3]at i3;cases i3;exact ⟨dxe,lx,fse,j1,j2,j3,j4,nn _ _ i4 i5,j6⟩
    isplit;obtain ⟨K8,la',ls',lt',GW,My,f1,f2,f3,f4,f5,f6,f7,f8,f9,f10,f11,f12,f13⟩:=q2.ex;kl_no;have f1':H4 a=some (.ins CC Hq IB):=k a _ (s' _ _ g1) wI;rw[f1]at f1';cases f1';rw[g2]at f2;rw[g3]at f3;rw[g4]at f4;cases f2;cases f3;cases f4;exact ⟨_,_,_,_,_,My,f1,g2,g3,g4,f5,f6,f7,f8,f9,f10,nn _ _ g7 zW,nn _ _ g9 g12,nn _ _ yX g13⟩
def Di (CH CC:Addr):Sp:=fun vs H Q _=>∃(h lc lf:Addr) (as:List Addr) (s:Vbdhae.State) (lr:Addr) (r:List Nat),vs=[.ref h,.ref lr]/\Ab CH CC H h lc lf as s/\H lr=some (.lst (AY r))/\(∀m∈r,1<=m/\m<=s.changes.length)/\r.length<=40/\
 ∀H' d,AW H H'->HeldAt H' d 1000 (valuesBy s r)->Q (.ref d) H'
theorem F4:AT ["self","row","held","number"] ["self","row"] (AO CU):=⟨rfl,rfl,rfl,by decide+kernel,rfl,by decide+kernel,by decide+kernel⟩
theorem MT {f C CC f1 f2:Addr}{fd d1 d2:FuncData}(F:CB K "values_in_order" "House.values_in_order" CU f fd)(T:Am K C)
  (Bw:AR P w K mg base As 1 f1 d1 ["self","number"] (A9 C CC)) (m1:MH K C "numbered" f1 d1 ["self","number"])
  (HH:AR P w K mg base As 3 f2 d2 ["change","held"] (HW CC)) (b2:Binds K d2 ["change","held"] []) (ol:mg "values_behind"=some (.ref f2)) (k2:keepIn K (.ref f2)=true):
  AR P w K mg base As 4 f fd ["self","row"] (Di C CC):=by
 refine F.ok F4 (fun vs H Q E h=>?_) (fun BM A outer s H vs Q E hr h=>?_)
 ·obtain ⟨h,lc,lf,as,s,lr,r,rfl,_⟩:=h;rfl
 ·obtain ⟨h,lc,lf,as,st,lr,r,rfl,hA,HS,JY,gb,q⟩:=h;kt_le;have nd:=F4.nd;ktn_lt;refine ⟨_,AF (AZ (i:=2) nd rfl (Or.inl rfl) Zq)
   (AF (Du PassesOwn.never rfl (BF (pv 1)) (A2 (i:=3) nd rfl (Or.inl rfl))
    (AG (AZ (i:=2) nd rfl (Or.inl rfl) (AX HH hr rfl ol k2 b2 .nil AU (AA (Ac (pv 0) T.cl m1.me Bw FD m1.bi .nil AU (AA (pv 3) AC)) (AA (pv 2) AC))))))
   (AG (AQ (pv 2)))),?_⟩
  intro p hp;have s1:AW H (upd H p (.dT [])):=fun b o e=>by rw[AI (AH e hp)];exact e
  refine ⟨_,rfl,lr,rfl,⟨_,Ao.of (s1 _ _ HS)⟩,Ch (K:=K) (a:=lr) (xs:=AY r) (fun i σ H'=>∃(d:Addr) (va:Option V),σ=[some (.ref h),some (.ref lr),some (.ref d),va]/\AW H H'/\HeldAt H' d (24*i) (valuesBy st (r.take i)))
   ⟨p,none,rfl,s1,[],AB,FG.nil _⟩ ?_ ?_ ?_⟩
  ·intro i σ H' _ zz;isplit;obtain ⟨d,va,rfl,s',k⟩:=zz;kl_no;exact Ao.of (s' _ _ HS)
  ·intro i x σ H' hx zz;isplit;obtain ⟨d,va,rfl,s',k⟩:=zz;kl_no;obtain ⟨m,hm,rfl⟩:=Bv hx;have ap:=JY m (mem_of_getElem? hm);have hi:=(List.getElem?_eq_some_iff.mp hm).1;isplit;obtain ⟨b,b1,b2',b3⟩:=(hA.same s').at ap.1 ap.2;kl_no;refine ⟨_,rfl,h,dx,fs,rfl,s' _ _ e1,e5 _ m1.nm.1 m1.nm.2,_,rfl,h,lc,lf,as,st,m,b,rfl,hA.same s',ap.1,b1,_,rfl,b,d,_,_,_,_,rfl,b2',k,by omega,fun H2 d2 s2 k2=>?_⟩;refine ⟨d2,_,rfl,s'.trans s2,?_⟩;rw[Ay hm];have e:valuesBy st (r.take i ++ [m])=Vbdhae.done (changeAt st m).ops (valuesBy st (r.take i)):=by
    unfold valuesBy;rw[foldl_append];rfl
   rw[e];exact k2
  ·intro σ H' zz;isplit;obtain ⟨d,va,rfl,s',⟨AV,k1,k2⟩⟩:=zz;kl_no;rw[Ak,take_length]at k2;exact ⟨_,rfl,q H' d s' ⟨AV,k1,k2.mono (by omega)⟩⟩
def CQ (CH CC:Addr):Sp:=fun vs H Q _=>∃(h lc lf:Addr) (as:List Addr) (s:Vbdhae.State),vs=[.ref h]/\Ab CH CC H h lc lf as s/\∀H' d,AW H H'->HeldAt H' d 1000 (values s)->Q (.ref d) H'
theorem Rq:AT ["self"] ["self"] (AO DM):=⟨rfl,rfl,rfl,by decide+kernel,rfl,by decide+kernel,by decide+kernel⟩
theorem Sj {f C CC f1:Addr}{fd d1:FuncData}(F:CB K "held_values" "House.held_values" DM f fd)(T:Am K C)
  (Bw:AR P w K mg base As 4 f1 d1 ["self","row"] (Di C CC)) (m1:MH K C "values_in_order" f1 d1 ["self","row"]):
  AR P w K mg base As 5 f fd ["self"] (CQ C CC):=by
 refine F.ok Rq (fun vs H Q E h=>?_) (fun BM A outer s H vs Q E hr h=>?_)
 ·obtain ⟨h,lc,lf,as,s,rfl,_⟩:=h;rfl
 ·obtain ⟨h,lc,lf,as,st,rfl,hA,q⟩:=h;kt_le;refine ⟨_,AG (AQ (Ac (pv 0) T.cl m1.me Bw hr m1.bi .nil AU (AA (Ap (pv 0) rfl) AC))),?_⟩;exact ⟨_,rfl,h,dx,fs,rfl,e1,e5 _ m1.nm.1 m1.nm.2,_,rfl,h,C,dx,fs,_,rfl,e1,T.cl,T.nF,e3,h,lc,lf,as,st,lf,st.force,rfl,hA,hA.Ep,hA.ok.Ur,hA.ok.B4,q⟩
def JA (CH CC:Addr):Sp:=fun vs H Q _=>∃(h lc lf:Addr) (as:List Addr) (s:Vbdhae.State) (t:Addr) (c:Nat),vs=[.ref h,.ref t]/\Ab CH CC H h lc lf as s/\Ai H t c/\Q (.int (Vbdhae.writer s c:Nat)) H
theorem JC:AT ["self","thing","found","number"] ["self","thing"] (AO C7):=⟨rfl,rfl,rfl,by decide+kernel,rfl,by decide+kernel,by decide+kernel⟩
theorem Ql {f C CC f1:Addr}{fd d1:FuncData}(F:CB K "last_writing" "House.last_writing" C7 f fd)(T:Am K C)(TC:Br K CC)
  (Bw:AR P w K mg base As 1 f1 d1 ["self","number"] (A9 C CC)) (m1:MH K C "numbered" f1 d1 ["self","number"]):
  AR P w K mg base As 2 f fd ["self","thing"] (JA C CC):=by
 refine F.ok JC (fun vs H Q E h=>?_) (fun BM A outer s H vs Q E hr h=>?_)
 ·obtain ⟨h,lc,lf,as,s,t,c,rfl,_⟩:=h;rfl
 ·obtain ⟨h,lc,lf,as,st,t,c,rfl,hA,ht,q⟩:=h;kt_le;have nd:=JC.nd;have hu:=N7 hr;refine ⟨_,AF (AZ (i:=2) nd rfl (Or.inl rfl) AK)
   (AF (Du PassesOwn.never rfl (BF (Ap (pv 0) rfl)) (A2 (i:=3) nd rfl (Or.inl rfl))
    (AG (A0 (MS (ck hu (pv 1) (Ap (Ac (pv 0) T.cl m1.me Bw hr m1.bi .nil AU (AA (pv 3) AC)) rfl))) (AG (AZ (i:=2) nd rfl (Or.inl rfl) (pv 3))) Af)))
   (AG (AQ (pv 2)))),?_⟩
  have key:∀(l:List Nat) (m:Nat),((((l ++ [m]).filter fun n=>(writesOf (opsAt st n)).contains c).getLast?).getD 0)=if (writesOf (opsAt st m)).contains c=true then m else ((l.filter fun n=>(writesOf (opsAt st n)).contains c).getLast?).getD 0:=fun l m=>by
   rw[DB];by_cases z:(writesOf (opsAt st m)).contains c=true
   ·rw[if_pos z,if_pos z,List.getLast?_append];rfl
   ·rw[if_neg z,if_neg z,append_nil]
  refine ⟨_,rfl,h,C,dx,fs,_,rfl,e1,T.cl,T.nF,e3,lf,rfl,⟨_,Ao.of hA.Ep⟩,Ch (K:=K) (a:=lf) (xs:=AY st.force) (fun i σ H'=>∃va:Option V,σ=[some (.ref h),some (.ref t),some (.int (((((st.force.take i).filter fun n=>(writesOf (opsAt st n)).contains c).getLast?).getD 0:Nat):Int)),va]/\H'=H)
   ⟨none,rfl,rfl⟩ ?_ ?_ ?_⟩
  ·rintro i σ H' _ ⟨va,rfl,rfl⟩;exact Ao.of hA.Ep
  ·rintro i x σ H' hx ⟨va,rfl,rfl⟩;obtain ⟨m,hm,rfl⟩:=Bv hx;have ap:=hA.ok.Ur m (mem_of_getElem? hm);isplit;obtain ⟨b,b1,b2,b3⟩:=hA.at ap.1 ap.2;kl_no;isplit;obtain ⟨dxw,lrw,lww,fsw,kr,kw,h1,h2,h3,h4,h5,h6,h7⟩:=b2.rw.ex;kl_no;have kk:=key (st.force.take i) m;refine ⟨_,rfl,_,rfl,h,dx,fs,rfl,e1,e5 _ m1.nm.1 m1.nm.2,_,rfl,h,lc,lf,as,st,m,b,rfl,hA,ap.1,b1,b,CC,dxw,fsw,_,rfl,h1,TC.cl,TC.nW,h3,lww,_,rfl,IA.t (k:=A8 c) h5 ht.key,?_⟩;refine ⟨_,rfl,?_⟩;have ee:(writesOf (opsAt st m)).contains c=decide (c∈writesOf (changeAt st m).ops):=List.contains_eq_mem _ _;rw[h7.1.has c,Ay hm,kk,ee];kpt_hd
   ·rw[if_pos z];exact ⟨_,rfl,_,rfl,rfl⟩
   ·rw[if_neg z];exact ⟨_,rfl,rfl⟩
  ·rintro σ H' ⟨va,rfl,rfl⟩;rw[Ak,take_length];exact ⟨_,rfl,q⟩
end
end Dj
namespace L2
open PySem PySem.Spec PyProof.Rows
theorem lG {X:Cx}(hc:X.calm=true):Fm X (.type "set") (fun xs H Q=>∃(a:Addr) (ns:List Int),xs=[.ref a]/\Ao X.K H a (ns.map V.int)/\ns.length+1<4096/\∀p S,H p=none->Q (.ref p) (upd H p (.set S (ns.foldl step_dedup []).length))):=by
 intro pins s σ H xs us Q I r h;obtain ⟨a,ns,rfl,hs,hz,q⟩:=h;rw[Vals.Zb r];obtain ⟨A1,rv,pl,_⟩:=I.list hs;have hi:=rv.ints;have hlen:A1.length=ns.length:=hi.length;refine PySem.call_set_list (items:=A1.toArray) (ns:=ns) ?_ pl.isList (by simpa using hi) (by rw[size_toArray,hlen];exact hz) fun h' tk hS hk=>?_
 ·exact I.ok.hd hc
 have hp:=I.BL.fresh (Nat.le_refl _);have e:(firstMet (fun i=>ns.getD i 0) A1.toArray.size)=ns.foldl step_dedup []:=by
  unfold firstMet
  congr 1
  rw[size_toArray,hlen];apply List.ext_getElem
  ·simp
  ·intro i h1 h2;simp at h1;simp[h1]
 rw[e]at hS;refine ⟨.ref _,upd H s.heap.objs.size (.set _ _),I.laid (t':=tk) (fun b u e=>hk b u (lt_size e) e) (Nat.le_refl _) hS,rfl,q _ _ hp⟩
theorem lH {X:Cx}:Fm X (.builtin "len") (fun xs H Q=>∃a S n,xs=[V.ref a]/\H a=some (.set S n)/\n<4096/\Q (.int (n:Nat)) H):=by
 intro pins s σ H xs us Q I r h;obtain ⟨a,S,n,rfl,ha,hn,q⟩:=h;obtain ⟨u,rfl,ru⟩:=vals1 r;cases ru;have hS:s.heap.SetOf (intKind X.prog X.w) a S n:=I.BL a _ ha;obtain ⟨o,es,ep,t,h1,h2,h3,h4,h5,h6,h7,rfl⟩:=hS;exact call_len_set h1 h2 h3 h7 (by omega) ⟨.int _,H,I.tok _,⟨_,rfl⟩,q⟩
theorem K9:∀(ns:List Int) (acc:List Int),acc.Nodup->((ns.foldl step_dedup acc).length=acc.length+ns.length↔(acc++ns).Nodup)/\(ns.foldl step_dedup acc).length<=acc.length+ns.length
 | [],acc,h=>by simp[h]
 |x::r,acc,h=>by
  rw[foldl_cons];unfold step_dedup;by_cases e:acc.any (· == x)=true
  ·rw[if_pos e];have hm:x∈acc:=by simpa using e
   obtain ⟨h1,h2⟩:=K9 r acc h;have zV:(r.foldl step_dedup acc).length<=acc.length+r.length:=h2;refine ⟨⟨fun q=>?_,fun q=>?_⟩,?_⟩
   ·have q:(r.foldl step_dedup acc).length=acc.length+(r.length+1):=q;omega
   ·rw[nodup_append]at q;exact absurd rfl (q.2.2 x hm x (mem_cons_self ..))
   ·show (r.foldl step_dedup acc).length<=acc.length+(r.length+1);omega
  ·rw[if_neg e];have hm:x∉acc:=fun z=>e (by simpa using z);have hn:(acc ++ [x]).Nodup:=by
    rw[nodup_append];exact ⟨h,by simp,fun a ha b hb q=>by simp at hb;subst hb;subst q;exact hm ha⟩
   obtain ⟨h1,h2⟩:=K9 r (acc ++ [x]) hn;rw[length_append,append_assoc]at h1;rw[length_append]at h2;have gi:(r.foldl step_dedup (acc ++ [x])).length=acc.length+1+r.length↔(acc++x::r).Nodup:=h1;have zV:(r.foldl step_dedup (acc ++ [x])).length<=acc.length+1+r.length:=h2;refine ⟨⟨fun q=>gi.mp ?_,fun q=>?_⟩,?_⟩
   ·have q:(r.foldl step_dedup (acc ++ [x])).length=acc.length+(r.length+1):=q;omega
   ·have:=gi.mpr q;show (r.foldl step_dedup (acc ++ [x])).length=acc.length+(r.length+1);omega
   ·show (r.foldl step_dedup (acc ++ [x])).length<=acc.length+(r.length+1);omega
theorem ka (ns:List Int):(ns.foldl step_dedup []).length=ns.length↔ns.Nodup:=by
 have:=(K9 ns [] (by simp)).1;simpa using this
theorem Pj:∀(n:Nat) (ns:List Int),ns.length<=n->(ns.eraseDups.length=ns.length↔ns.Nodup)/\ns.eraseDups.length<=ns.length
 |_,[],_=>by simp
 |0,x::r,h=>by simp at h
 |n+1,x::r,h=>by
  rw[List.eraseDups_cons,length_cons,length_cons,nodup_cons];have hl:(r.filter fun b=> !b==x).length<=r.length:=length_filter_le _ _;have hl':r.length<=n:=by simpa using h
  obtain ⟨h1,h2⟩:=Pj n (r.filter fun b=> !b==x) (by omega);have hf:x∉r->r.filter (fun b=> !b==x)=r:=fun q=>by
   rw[List.filter_eq_self];intro y hy;simp;exact fun e=>q (by rw[<- e];exact hy)
  refine ⟨⟨fun q=>?_,fun q=>?_⟩,by omega⟩
  ·have e1:(r.filter fun b=> !b==x).length=r.length:=by omega
   have hx:x∉r:=fun z=>by
    have:=List.length_filter_eq_length_iff.mp e1 x z;simp at this
   rw[hf hx]at h1 q;exact ⟨hx,h1.mp (by omega)⟩
  ·rw[hf q.1]at h1 ⊢;have:=h1.mpr q.2;omega
section
variable {prog:Program}{w:World}{A:Around}{E:Value->Shared->Prop}{s:Shared}{d:Addr}{o:Obj}{es:Array DictEntry}{ep:Nat}
theorem mG (hh:A.handled=none)(I:Addr)(Ml:d≠I)(Qu:o.data= .dict es ep):
  Walks prog w A I [I,d] [I] es.size (fun i v=>∃en,es[i]? =some en/\v=en.key) (fun i h=>h.IsKeyIter I d i es.size ep/\h.get? d=some o) where
 sub:=fun b hb=>by simp at hb;simp[hb]
 frame:=fun _ _ _ st hk=>⟨st.1.at fun o e=>hk I (by simp) o e,hk d (by simp) o st.2⟩
 item:=fun i s Q E hi st hQ=>by
  obtain ⟨en,hx⟩:∃en,es[i]? =some en:=⟨es[i],by simp[hi]⟩;refine Lp st.1 st.2 Qu rfl hx fun h' kC hs'=>?_;exact hQ en.key h' s.toks ⟨en,hx,rfl⟩ ⟨kC,(hs'.2 d Ml).trans st.2⟩ fun b o hb e=>(hs'.2 b (fun h=>hb (by simp[h]))).trans e
 done:=fun s Q E st hQ=>Ia hh st.1 st.2 Qu rfl (Nat.le_refl _) fun h' he'=>hQ h' s.toks fun b o hb e=>he' b o (fun h=>hb (by simp[h])) e
 self:=fun _ _ _ _ st hQ=>wpAny_pyIter_keyiter st.1 hQ
theorem xo (lo:(d==sysModules)=false)(hc:o.ExactDict)(Qu:o.data= .dict es ep):PySem.W.KdlSrc prog w "dict" d d es.size (fun i v=>∃en,es[i]? =some en/\v=en.key) (fun h=>h.get? d=some o) where
 type:=fun _ hm=>⟨o,hm,hc.1⟩
 there:=fun _ hm=>⟨lt_size hm,lt_size hm⟩
 keep:=fun _ _ hm hk=>hk d (.inl rfl) o hm
 notList:=by decide
 notTuple:=by decide
 hint:=fun _ _ _ _ hm hq=>PySem.W.kdl_hint_dict ⟨o,hm,hc.1⟩ hq
 iter:=fun A s hh hm=>⟨{ cls:= .type "dict_keyiterator",data:= .fields #[.ref d,.int 0 0,.int es.size 0,.int ep 0] },_,fun E Q hq=>PK lo hm hc Qu hq,
  mG hh _ (ne_of_lt (lt_size hm)) Qu,⟨⟨_,get?_push_size _ rfl,rfl,rfl⟩,get?_push_of_some _ hm⟩⟩
theorem eY {R:List Value->Shared->Prop}(hh:A.handled=none)(lo:(d==sysModules)=false)(ho:s.heap.get? d=some o)(hc:o.ExactDict)(Qu:o.data= .dict es ep)(hn:es.size<=sizeLine)
  (h:∀(h':Heap) (tk:Nat) (acc:Array Value),(∀b ob,s.heap.get? b=some ob->h'.get? b=some ob)->s.heap.objs.size<=h'.objs.size->ItemsOf (fun i v=>∃en,es[i]? =some en/\v=en.key) acc es.size->R acc.toList { s with heap:=h',toks:=tk }):
  wpAny (model prog w) A (collect (.ref d)) R E s:=by
 have src:=xo (prog:=prog) (w:=w) lo hc Qu;have hd:=lt_size ho;unfold collect;refine wpAny_bind (wpAny_runValue ?_);refine codeAny_builtin entry_proto_collect' ?_;rw[Around.under_plainId PySem.F.plain_proto_collect _];show wpAny _ A.in1 (do let l <- newList [];again (.builtin "list.__iadd__" ⟨[l,.ref d],[]⟩)) _ _ s;refine wpAny_bind (wpAny_newObj_type (wpAny_pure ⟨plainId_quiet plain_list_iadd _,?_⟩));refine codeAny_builtin entry_list_iadd' ?_;rw[Around.under_plainId plain_list_iadd _];generalize hS:s.heap.objs.size=S at h hd;generalize hg:s.heap.push { cls:= .type "list",data:= .seq ([]:List Value).toArray }=g;have gS:g.get? S=some { cls:= .type "list",data:= .seq #[] }:=by rw[<- hg, <- hS];exact get?_push_size _ rfl
 have gk:∀b ob,s.heap.get? b=some ob->g.get? b=some ob:=fun b ob e=>by rw[<- hg];exact get?_push_of_some _ e
 have nSd:S≠d:=Nat.ne_of_gt hd;show wpAny _ A.in1 (Builtin.List.listExtendWith (.ref S) (.ref d) (.ref S)) _ _ { s with heap:=g };have done:∀(h':Heap) (tk:Nat) (acc:Array Value) (c':Nat),(∀b ob,b≠S->g.get? b=some ob->h'.get? b=some ob)->h'.get? S=some { cls:= .type "list",dict:=none,data:= .seq acc c',slots:= #[] }->
   ItemsOf (fun i v=>∃en,es[i]? =some en/\v=en.key) acc es.size->wpAny (model prog w) A (load S >>= fun ob=>match ob.data with | .seq xs _=>pure xs.toList | _=>unsupported "internal:collect") R E { s with heap:=h',toks:=tk }:=fun h' tk acc c' k1 k2 k3=>
  wpAny_bind (wpAny_load k2 (wpAny_pure (h h' tk acc (fun b ob e=>k1 b ob (by rw[<- hS];exact ne_of_lt (lt_size e)) (gk b ob e)) (Nat.le_of_lt (lt_size k2)) k3)))
 have key:=kdl_extend (A:=A) (s:={ s with heap:=g }) (R:=fun (q:Result) (s':Shared)=>q= .ok (.ret (.ref S))/\wpAny (model prog w) A (load S >>= fun ob=>match ob.data with | .seq xs _=>pure xs.toList | _=>unsupported "internal:collect") R E s')
  src hh (gk d o ho) S nSd nSd (.ref S) 0 gS (fun h' tk acc c' k1 k2 k3=>⟨rfl,done h' tk acc c' k1 k2 k3⟩) hn
 refine wpAny_mono key (fun fin s' x=>?_) fun e s' x=>by cases x.1
 cases fin with
 |done f=>
  obtain ⟨e,x⟩:=x;cases e;exact x
 |again c=>
  refine ⟨x.1,codeAny_mono x.2 fun q s2 y=>?_⟩;obtain ⟨rfl,y⟩:=y;exact y
theorem Fn {h h':Heap}{shape:Nat->Bool}{v:Value}{l:List (Int ⊕ List Nat)}(k:PyProof.Rows.G.KeepsTups h h')(e:PyProof.Rows.G.tupKeyC h shape v=some l):PyProof.Rows.G.tupKeyC h' shape v=some l:=by
 obtain ⟨a,o,xs,n,rfl,ho,hc,hd,hi⟩:=PyProof.Rows.G.tupKeyC_some e;exact PyProof.Rows.G.tupKeyC_of (k a o ho hc) hc hd hi
theorem jD {shape:Nat->Bool}{Q:Value->Shared->Prop}(hh:A.handled=none)(lo:(d==sysModules)=false)(ho:s.heap.get? d=some o)(hc:o.ExactDict)(Qu:o.data= .dict es ep)(hn:es.size<=sizeLine)
  {fs:List Value} (ht:TupsOf s.heap shape (es.toList.map (·.key)) fs) (hk:∀v∈es.toList.map (·.key), ∃l,PyProof.Rows.G.tupKeyC s.heap shape v=some l)
  (h:∀(h':Heap) (tk:Nat) (D:Addr) (out:Array Value) (e':Nat),(∀b ob,s.heap.get? b=some ob->h'.get? b=some ob)->s.heap.objs.size<=D->h'.get? D=some (seqObj "list" out e')->out.toList.Perm (es.toList.map (·.key))->
   (out.toList.Pairwise fun x y=>lexLt itemOrd ((PyProof.Rows.G.tupKeyC s.heap shape y).getD []) ((PyProof.Rows.G.tupKeyC s.heap shape x).getD [])=false)->Q (.ref D) { s with heap:=h',toks:=tk }):
  wpAny (model prog w) A (call (.builtin "sorted") [.ref d]) Q E s:=by
 refine Calls.call_function_entry kind_sorted plain_sorted entry_sorted (args_sorted1 _) ?_;unfold Builtin.«sorted»;refine wpAny_bind (m:=checkCount "sorted" 1 1 _) (wpAny_pure ?_);refine wpAny_bind (eY (A:=A.in1) hh lo ho hc Qu hn fun h1 tk acc keep px qD=>?_);have hl:acc.toList=es.toList.map (·.key):=by
  apply List.ext_getElem?;intro i;rw[getElem?_map,getElem?_toList,getElem?_toList];cases e:acc[i]? with
  |some v=>
   obtain ⟨en,h1,h2⟩:=qD.2 i v e;rw[h1,h2];rfl
  |none=>
   have:es[i]? =none:=by
    rw[Array.getElem?_eq_none_iff]at e ⊢;rw[<- qD.1];exact e
   rw[this];rfl
 rw[hl];generalize hvs:es.toList.map (·.key)=vs at *;have zJ:vs.length<=sizeLine:=by rw[<- hvs,length_map,length_toList];exact hn
 refine wpAny_bind (wpAny_newList ?_ zJ);have um:(h1.push (seqObj "list" vs.toArray 0)).get? h1.objs.size=some (seqObj "list" vs.toArray 0):=get?_push_size _ rfl;have k2:∀b ob,s.heap.get? b=some ob->(h1.push (seqObj "list" vs.toArray 0)).get? b=some ob:=fun b ob e=>get?_push_of_some _ (keep b ob e);have kt:PyProof.Rows.G.KeepsTups s.heap (h1.push (seqObj "list" vs.toArray 0)):=fun b ob e _=>k2 b ob e;show wpAny _ _ _ _ _ { s with heap:=h1.push (seqObj "list" vs.toArray 0),toks:=tk };refine wpAny_bind (wpAny_holding (wpAny_call_entry slot_list_sort ⟨_,um,rfl⟩ entry_list_sort (PyProof.Rows.G.list_sort_tups (s:={ s with heap:=h1.push (seqObj "list" vs.toArray 0),toks:=tk }) (shape:=shape) um (PyProof.Rows.G.TupsOf.keep kt ht)
  (fun v hv=>let ⟨l,e⟩:=hk v hv;⟨l,Fn kt e⟩) zJ fun Ja a1 a2 a3=>⟨_,rfl,?_⟩) (args_list_sort _)))
 refine wpAny_pure ⟨_,rfl,?_⟩;obtain ⟨e',hD⟩:=sortedHeap_at (out:=(arrOf Ja).map (·.2)) um;have C2:∀b ob,s.heap.get? b=some ob->b<h1.objs.size:=fun b ob e=>lt_size (keep b ob e);have hp:(arrOf Ja).toList.Perm (vs.zip vs):=by
  have:=a1;rw[<- pairsOf_toList];exact Array.perm_iff_toList_perm.mp this
 have wU:∀p∈(arrOf Ja).toList,p.1=p.2/\p.1∈vs:=fun p hp'=>mem_zip_self (hp.mem_iff.mp hp');refine h _ tk h1.objs.size _ e' (fun b ob e=>?_) ?_ hD ?_ ?_
 ·rw[sortedHeap_old (ne_of_lt (C2 b ob e)) (lt_size (k2 b ob e))];exact k2 b ob e
 ·exact px
 ·rw[toList_map];have:=hp.map (·.2);rw[List.map_snd_zip (by simp)]at this;exact this
 ·rw[toList_map,pairwise_map,List.pairwise_iff_getElem];intro i j hi hj hij;have hsz:(arrOf Ja).toList.length=vs.length:=by rw[hp.length_eq];simp
  have q:=a2 i j (Nat.le_of_lt hij) (by rw[pairsOf_size, <- hsz];exact hj);have kk:∀(i:Nat) (hi:i<(arrOf Ja).toList.length),KK (PyProof.Rows.G.tupKindC (h1.push (seqObj "list" vs.toArray 0)) shape) (arrOf Ja) i=(PyProof.Rows.G.tupKeyC s.heap shape (arrOf Ja).toList[i].2).getD []:=fun i hi=>by
   unfold KK;have hx:(arrOf Ja)[i]? =some (arrOf Ja).toList[i]:=by
    rw[<- getElem?_toList,getElem?_eq_getElem hi]
   rw[hx];have hm:=wU _ (getElem_mem hi);obtain ⟨l,el⟩:=hk _ hm.2;show ((PyProof.Rows.G.tupKeyC (h1.push (seqObj "list" vs.toArray 0)) shape (arrOf Ja).toList[i].1).getD [])=_;rw[Fn kt el, <- hm.1,el]
  rw[kk i hi,kk j hj]at q;exact q
end
end L2
namespace Dj
open PySem PySem.Spec PyProof.Rows L2
theorem Kx {α β:Type}{f:α->β}{m k:List β}(h:m.Perm k):∀l:List α,k=l.map f->∃l':List α,l'.Perm l/\m=l'.map f:=by
 induction h with
 |nil=>
  intro l e;cases l with
  |nil=>exact ⟨[],.refl _,rfl⟩
  |cons a r=>cases e
 |cons x _ ih=>
  intro l e;cases l with
  |nil=>cases e
  |cons a r=>
   rw[map_cons]at e;injection e with e1 e2
   obtain ⟨l',p,q⟩:=ih r e2;exact ⟨a::l',p.cons a,by rw[map_cons,q,e1]⟩
 |swap x y t=>
  intro l e
  match l,e with
  |a::b::r,e=>
   rw[map_cons,map_cons]at e;injection e with e1 e2
   injection e2 with e2 e3
   exact ⟨b::a::r,.swap a b r,by rw[map_cons,map_cons,e1,e2,e3]⟩
 |trans _ _ ih1 ih2=>
  intro l e;obtain ⟨l2,p2,q2⟩:=ih2 l e;obtain ⟨l1,p1,q1⟩:=ih1 l2 q2;exact ⟨l1,p1.trans p2,q1⟩
theorem TM {c e:Nat}(h:lexLt itemOrd [Sum.inl ((e / 10:Nat):Int),Sum.inl ((e % 10:Nat):Int)] [Sum.inl ((c / 10:Nat):Int),Sum.inl ((c % 10:Nat):Int)]=false):c<=e:=by
 have h:(decide (((e / 10:Nat):Int)<((c / 10:Nat):Int))||(!decide (((c / 10:Nat):Int)<((e / 10:Nat):Int))&&(decide (((e % 10:Nat):Int)<((c % 10:Nat):Int))||(!decide (((c % 10:Nat):Int)<((e % 10:Nat):Int))&&false))))=false:=h;simp only[Bool.or_eq_false_iff,Bool.and_eq_false_iff,decide_eq_false_iff_not,Bool.not_eq_false',decide_eq_true_eq,Bool.and_false,Bool.or_false]at h;omega
theorem Kt {X:Cx}{pins:List (Addr×Obj)}{σ:L2.St}{H:Hp}{s:Shared}{b:Addr}{c:Nat}(I:Inv X pins σ H s)(h:Ai H b c):
  (∃f,TupOf s.heap (fun _=>false) (.ref b) f)/\PyProof.Rows.G.tupKeyC s.heap (fun _=>false) (.ref b)=some [Sum.inl ((c / 10:Nat):Int),Sum.inl ((c % 10:Nat):Int)]:=by
 obtain ⟨_,A1,rv,o,h1,h2,n,h3⟩:=I.BL b _ h;obtain ⟨u,v,rfl,⟨t,rfl⟩,⟨t',rfl⟩⟩:=Vals.two rv;exact ⟨⟨_,b,o,_,n,rfl,h1,h2,h3,rfl,fun _=>⟨_,_,rfl⟩,fun z=>by cases z⟩,PyProof.Rows.G.tupKeyC_of h1 h2 h3 rfl⟩
theorem Yb {X:Cx}(Ys:X.calm=true):Fm X (.builtin "sorted") (fun xs H Q=>∃(a:Addr) (AV:List (List Key×V)) (cs:List Nat),xs=[.ref a]/\H a=some (.dT AV)/\Paired (fun p c=>p.1=A8 c) AV cs/\
  ∀(p:Addr) (bs:List Addr),H p=none->Paired (fun b c=>Ai H b c) bs (rising cs)->Q (.ref p) (upd H p (.lst (bs.map V.ref)))):=by
 intro pins s σ H xs us Q I r h;obtain ⟨a,AV,cs,rfl,ha,aq,q⟩:=h;rw[Vals.Zb r];isplit;obtain ⟨hz,dj,ks,rel,o,es,ep,e1,e2,e3,e4,e5⟩:=I.BL a _ ha;kl_no;obtain ⟨ps,p1,p2,p3⟩:∃ps:List (Addr×Nat),ps.map (·.1)=ks.map (·.2.1)/\ps.map (·.2)=cs/\∀x∈ps,Ai H x.1 x.2:=by
  clear q e5 e4 hz ha;induction rel generalizing cs with
  |nil=>cases aq;exact ⟨[],rfl,rfl,by simp⟩
  |cons x t ih=>
   cases aq with
   |cons y t'=>
    isplit;obtain ⟨ps,q1,q2,q3⟩:=ih _ t';kl_no;refine ⟨(_,_)::ps,by rw[map_cons,map_cons,q1],by rw[map_cons,q2],fun z hz=>?_⟩;rcases mem_cons.mp hz with w | w
    ·subst w;have:=x.2.1;rw[y]at this;exact this
    ·exact q3 z w
 have N9:es.toList.map (·.key)=ps.map fun x=>Value.ref x.1:=by
  rw[e4,map_map];have:=congrArg (map Value.ref) p1;rw[map_map,map_map]at this;exact this.symm
 have hsz:es.size<=sizeLine:=by
  have l1:es.size=ks.length:=by rw[<- length_toList,e4,length_map]
  have l2:AV.length=ks.length:=Paired.length rel;omega
 obtain ⟨fs,ht⟩:∃fs,TupsOf s.heap (fun _=>false) (ps.map fun x=>Value.ref x.1) fs:=by
  clear N9 p1 p2;induction ps with
  |nil=>exact ⟨[],.nil⟩
  |cons x r ih=>
   obtain ⟨fs,hf⟩:=ih fun y hy=>p3 y (mem_cons_of_mem _ hy);obtain ⟨⟨f,ht⟩,_⟩:=Kt I (p3 x (mem_cons_self ..));exact ⟨f::fs,.cons ht hf⟩
 have hk:∀x∈ps,PyProof.Rows.G.tupKeyC s.heap (fun _=>false) (Value.ref x.1)=some [Sum.inl ((x.2 / 10:Nat):Int),Sum.inl ((x.2 % 10:Nat):Int)]:=fun x hx=>(Kt I (p3 x hx)).2;refine jD (shape:=fun _=>false) (I.ok.hd Ys) dj e1 e2 e3 hsz (fs:=fs) (by rw[N9];exact ht) (fun v hv=>?_) fun h' tk D out e' keep hD yH N8 Gy=>?_
 ·rw[N9]at hv;obtain ⟨x,hx,rfl⟩:=mem_map.mp hv;exact ⟨_,hk x hx⟩
 ·rw[N9]at N8;obtain ⟨ys,y1,y2⟩:=Kx N8 ps rfl;have hDn:H D=none:=I.BL.fresh hD;have pR:∀x∈ys,x∈ps:=fun x hx=>y1.mem_iff.mp hx;have dn:ys.map (·.2)=rising cs:=by
   refine G7 (by rw[<- p2];exact y1.map _) ?_;rw[y2,pairwise_map]at Gy;rw[pairwise_map];refine (List.Pairwise.imp_of_mem (R:=fun x y=>lexLt itemOrd ((PyProof.Rows.G.tupKeyC s.heap (fun _=>false) (Value.ref y.1)).getD []) ((PyProof.Rows.G.tupKeyC s.heap (fun _=>false) (Value.ref x.1)).getD [])=false) (fun {x y} hx hy hxy=>?_) Gy);rw[hk x (pR x hx),hk y (pR y hy)]at hxy;exact TM hxy
  have ai:Paired (fun b c=>Ai H b c) (ys.map (·.1)) (rising cs):=by
   rw[<- dn];clear dn y2 y1 Gy;induction ys with
   |nil=>exact .nil
   |cons x r ih=>exact .cons (p3 x (pR x (mem_cons_self ..))) (ih fun z hz=>pR z (mem_cons_of_mem _ hz))
  refine ⟨.ref D,upd H D (.lst ((ys.map (·.1)).map V.ref)),I.laid (t':=tk) keep hD ⟨?_,out.toList,e',?_,?_⟩,rfl,q D _ hDn ai⟩
  ·have l1:=y1.length_eq;have l2:=congrArg length p1;rw[length_map,length_map]at l2;have l3:AV.length=ks.length:=Paired.length rel;rw[length_map,length_map];omega
  ·rw[y2];clear dn y2 y1 Gy ai pR;induction ys with
   |nil=>exact .nil
   |cons x r ih=>exact .cons rfl ih
  ·rw[yH]
theorem ints_get {l:List Int}{i:Nat}{x:V}(h:(l.map V.int)[i]? =some x):∃n,l[i]? =some n/\x=V.int n:=by
 rw[getElem?_map]at h;cases e:l[i]? with
 |none=>rw[e]at h;cases h
 |some n=>rw[e]at h;exact ⟨n,rfl,(Option.some.inj h).symm⟩
section
variable {P:Program}{w:World}{K:PySem.W.Frag}{mg:Str->Option Value}{base:Heap}
def NY (l:List Int)(longest least most:Int):Bool:=decide ((l.length:Int)<=longest)&&l.all fun n=>inside n least most
def Oj:Sp:=fun vs H Q _=>∃(a:Addr) (l:List Int) (lo le mo:Int),vs=[.ref a,.int lo,.int le,.int mo]/\H a=some (.lst (l.map V.int))/\l.length<=20000/\∀H',AW H H'->Q (.bl (NY l lo le mo)) H'
theorem Vt:AT ["row","longest","least","most","number"] ["row","longest","least","most"] (AO Ry):=⟨rfl,rfl,rfl,by decide+kernel,rfl,by decide+kernel,by decide+kernel⟩
theorem jT {f:Addr}{fd:FuncData}(F:CB K "is_row" "is_row" Ry f fd)(bl:mg "len"=none)(ba:mg "all"=none):AR P w K mg base As 1 f fd ["row","longest","least","most"] Oj:=by
 refine F.ok Vt (fun vs H Q E h=>?_) (fun BM A outer s H vs Q E hr h=>?_)
 ·obtain ⟨a,l,lo,le,mo,rfl,_⟩:=h;rfl
 ·obtain ⟨a,l,lo,le,mo,rfl,ha,hz,q⟩:=h;have nd:=Vt.nd;refine ⟨_,AG (AQ (KE (DX GH (Aa Ae (by rfl) bl PySem.boot_len (AA (pv 0) AC)) (pv 1) (Av _))
   (GC (Aa (UH rfl) (by rfl) ba boot_all (AA (GD (own:= [("number",4)]) rfl nd (BF (pv 0)) (Bn (by kernel_rfl)) (fun _ _ _ _ _=>A2 (i:=4) nd rfl (Or.inl rfl)) (fun _ _ _ _ _=>Ez)
    (fun _ _ _ _ _=>Nk GH GH (pv 2) (pv 4) (pv 3))) AC))))),?_⟩
  unfold NY at q;refine ⟨_,rfl,a,_,rfl,.inl (Ao.of ha),_,rfl,_,_,rfl,rfl,_,rfl,?_⟩;rw[length_map];cases e:decide ((l.length:Int)<=lo)with
  |false=>
   rw[e]at q;exact B1 (q H (AW.refl _))
  |true=>
   rw[e,Bool.true_and]at q;refine CJ ?_;refine ⟨_,rfl,a,rfl,⟨_,Ao.of ha⟩,fun D hD=>?_⟩;refine DI (K:=K) (a:=a) (xs:=l.map V.int) (fun i H'=>H' D=some (.lst (((l.take i).map fun n=>inside n le mo).map V.bl))/\AW H H')
    ⟨AB,fun b o e=>by rw[AI (AH e hD)];exact e⟩ (fun i H' _ ⟨_,s'⟩=>Ao.of (s' _ _ ha)) ?_ ?_
   ·rintro i x H' hx ⟨Ct,s'⟩;obtain ⟨n,hn,rfl⟩:=ints_get hx;have fin:∀z:Bool,z=inside n le mo->∃acc,H' D=some (.lst acc)/\acc.length<sizeLine/\(upd H' D (.lst (acc ++ [V.bl z]))) D=some (.lst (((l.take (i+1)).map fun n=>inside n le mo).map V.bl))/\AW H (upd H' D (.lst (acc ++ [V.bl z]))):=fun z rc=>by
     refine ⟨_,Ct,?_,?_,fun b o e=>?_⟩
     ·rw[length_map,length_map,length_take];exact Nat.lt_of_le_of_lt (Nat.min_le_right _ _) (Nat.lt_of_le_of_lt hz (by decide))
     ·rw[AB,rc,Ay hn];simp
     ·rw[AI (AH e hD)];exact s' b o e
    refine ⟨rfl,Ut ?_⟩;refine ⟨_,rfl,_,rfl,_,_,rfl,rfl,_,rfl,?_⟩;kpt_hd
    ·refine ⟨_,rfl,_,_,rfl,rfl,fin _ ?_⟩;unfold inside;rw[z,Bool.true_and]
    ·refine fin false ?_;unfold inside;rw[Bool.eq_false_iff.mpr z,Bool.false_and]
   ·rintro H' ⟨Ct,s'⟩;rw[length_map,take_length]at Ct;refine ⟨D,_,rfl,Ao.of Ct,?_⟩;rw[all_map];exact q H' s'
def MG:Sp:=fun vs H Q _=>∃(a:Addr) (l:List Int),vs=[.ref a]/\H a=some (.lst (l.map V.int))/\l.length<=20000/\∀H',AW H H'->Q (.bl (isText l)) H'
theorem ca:AT ["row"] ["row"] (AO Os):=⟨rfl,rfl,rfl,by decide+kernel,rfl,by decide+kernel,by decide+kernel⟩
theorem dh (l:List Int):isText l=NY l 600 0 255:=by
 unfold isText NY
 congr 1
 apply decide_eq_decide.mpr;show l.length<=600↔_;omega
theorem cy {f g:Addr}{fd gd:FuncData}(F:CB K "is_text" "is_text" Os f fd)(lt:Gv mg "LONGEST_TEXT" (.int 600))(hb:Gv mg "HIGHEST_BYTE" (.int 255))
  (Bw:AR P w K mg base As 1 g gd ["row","longest","least","most"] Oj) (b1:Binds K gd ["row","longest","least","most"] []) (Uq:mg "is_row"=some (.ref g)) (k1:keepIn K (.ref g)=true):
  AR P w K mg base As 2 f fd ["row"] MG:=by
 refine F.ok ca (fun vs H Q E h=>?_) (fun BM A outer s H vs Q E hr h=>?_)
 ·obtain ⟨a,l,rfl,_⟩:=h;rfl
 ·obtain ⟨a,l,rfl,ha,hz,q⟩:=h;obtain ⟨u1,m1,r1⟩:=lt;obtain ⟨u2,m2,r2⟩:=hb;refine ⟨_,AG (AQ (AX Bw hr rfl Uq k1 b1 .nil AU (AA (pv 0) (AA (Ad rfl m1 r1) (AA AK (AA (Ad rfl m2 r2) AC)))))),?_⟩;rw[dh]at q;exact ⟨_,rfl,a,l,600,0,255,rfl,ha,hz,q⟩
def F3:Sp:=fun vs H Q _=>∃(a:Addr) (l:List Int) (n:Nat),vs=[.ref a,.int (n:Int)]/\H a=some (.lst (l.map V.int))/\l.length<=20000/\n<=1000/\∀H',AW H H'->Q (.bl (Vbdhae.few l n)) H'
theorem Rt:AT ["row","longest"] ["row","longest"] (AO G9):=⟨rfl,rfl,rfl,by decide+kernel,rfl,by decide+kernel,by decide+kernel⟩
theorem gn (l:List Int)(n:Nat):Vbdhae.few l n=(NY l n 1 40&&decide (l.eraseDups.length=l.length)):=by
 unfold Vbdhae.few NY;rw[Bool.and_assoc]
 congr 1
 apply decide_eq_decide.mpr;omega
theorem Sl {f g:Addr}{fd gd:FuncData}(F:CB K "are_changes" "are_changes" G9 f fd)(bl:mg "len"=none)(bs:mg "set"=none)(mc:Gv mg "MOST_CHANGES" (.int 40))
  (Bw:AR P w K mg base As 1 g gd ["row","longest","least","most"] Oj) (b1:Binds K gd ["row","longest","least","most"] []) (Uq:mg "is_row"=some (.ref g)) (k1:keepIn K (.ref g)=true):
  AR P w K mg base As 2 f fd ["row","longest"] F3:=by
 refine F.ok Rt (fun vs H Q E h=>?_) (fun BM A outer s H vs Q E hr h=>?_)
 ·obtain ⟨a,l,n,rfl,_⟩:=h;rfl
 ·obtain ⟨a,l,n,rfl,ha,hz,hn,q⟩:=h;obtain ⟨u1,m1,r1⟩:=mc;refine ⟨_,AG (AQ (KE (AX Bw hr rfl Uq k1 b1 .nil AU (AA (pv 0) (AA (pv 1) (AA AK (AA (Ad rfl m1 r1) AC)))))
   (GC (DX Ea (Aa lH (by rfl) bl PySem.boot_len (AA (Cr (lG rfl) (by rfl) bs boot_set (AA (pv 0) AC)) AC)) (Aa Ae (by rfl) bl PySem.boot_len (AA (pv 0) AC)) (Av _))))),?_⟩
  rw[gn]at q;refine ⟨_,rfl,_,rfl,a,l,(n:Int),1,40,rfl,ha,hz,fun H1 s1=>⟨_,rfl,?_⟩⟩;cases e:NY l n 1 40 with
  |false=>
   rw[e]at q;exact B1 (q H1 s1)
  |true=>
   rw[e,Bool.true_and]at q;refine CJ ?_;have hl:l.length<=n:=by
    unfold NY at e;rw[Bool.and_eq_true,decide_eq_true_eq]at e;omega
   refine ⟨_,rfl,a,l,rfl,Ao.of (s1 _ _ ha),by omega,fun p S hp=>?_⟩;have s2:AW H1 (upd H1 p (.set S (l.foldl step_dedup []).length)):=fun b o e=>by rw[AI (AH e hp)];exact e
   have hd:=K9 l [] (by simp);refine ⟨p,S,_,rfl,AB,?_,_,rfl,a,_,rfl,.inl (Ao.of (s2 _ _ (s1 _ _ ha))),rfl,?_⟩
   ·have:=hd.2;simp at this;omega
   ·have e2:decide (V.int ((l.foldl step_dedup []).length:Int)=V.int ((l.map V.int).length:Int))=decide (l.eraseDups.length=l.length):=by
     apply decide_eq_decide.mpr;rw[length_map,(Pj _ l (Nat.le_refl _)).1, <- ka];constructor
     ·intro z;have:=V.int.inj z;omega
     ·intro z;rw[z]
    rw[e2];exact q _ (s1.trans s2)
def Jm:Sp:=fun vs H Q _=>∃(n m:Int),vs=[.int n,.int m]/\Q (.bl (isE n&&isF m)) H
theorem ZS:AT ["entry","field"] ["entry","field"] (AO MM):=⟨rfl,rfl,rfl,by decide+kernel,rfl,by decide+kernel,by decide+kernel⟩
theorem Z0 {f:Addr}{fd:FuncData}(F:CB K "is_thing" "is_thing" MM f fd)(he:Gv mg "HIGHEST_ENTRY" (.int 20))(hf:Gv mg "HIGHEST_FIELD" (.int 9)):AR P w K mg base As 1 f fd ["entry","field"] Jm:=by
 refine F.ok ZS (fun vs H Q E h=>?_) (fun BM A outer s H vs Q E hr h=>?_)
 ·obtain ⟨n,m,rfl,_⟩:=h;rfl
 ·obtain ⟨n,m,rfl,q⟩:=h;obtain ⟨u2,g2,r2⟩:=he;obtain ⟨u3,g3,r3⟩:=hf;refine ⟨_,AG (AQ (KE (Nk GH GH AK (pv 0) (Ad (by rfl) g2 r2)) (GC (Nk GH GH AK (pv 1) (Ad (by rfl) g3 r3))))),?_⟩;have eE:isE n=(decide (1<=n)&&decide (n<=20)):=rfl;have eF:isF m=(decide (1<=m)&&decide (m<=9)):=rfl;rw[eE,eF]at q;refine ⟨_,rfl,_,_,rfl,rfl,_,rfl,?_⟩;refine BG (fun z1=>?_) (fun z1=>?_)
  ·refine ⟨_,_,rfl,rfl,_,rfl,?_⟩;rw[z1,Bool.true_and]at q;refine BG (fun z2=>?_) (fun z2=>?_)
   ·rw[z2,Bool.true_and]at q;refine ⟨_,rfl,_,_,rfl,rfl,_,rfl,?_⟩;refine BG (fun z3=>?_) (fun z3=>?_)
    ·rw[z3,Bool.true_and]at q;exact ⟨_,_,rfl,rfl,q⟩
    ·rw[Bool.eq_false_iff.mpr z3,Bool.false_and]at q;exact q
   ·rw[Bool.eq_false_iff.mpr z2,Bool.false_and]at q;exact q
  ·rw[Bool.eq_false_iff.mpr z1,Bool.false_and,Bool.false_and]at q;refine ⟨_,rfl,B1 ?_⟩;exact q
def BA:Sp:=fun vs H Q _=>∃(a:Addr) (l:List Int),vs=[.ref a]/\H a=some (.lst (l.map V.int))/\l.length<=20000/\∀H' p,AW H H'->H p=none->H' p=some (.lst (((l.length:Int)::l).map V.int))->Q (.ref p) H'
theorem Rj:AT ["row"] ["row"] (AO G8):=⟨rfl,rfl,rfl,by decide+kernel,rfl,by decide+kernel,by decide+kernel⟩
theorem Sf {f:Addr}{fd:FuncData}(F:CB K "with_length" "with_length" G8 f fd)(bl:mg "len"=none):AR P w K mg base As 1 f fd ["row"] BA:=by
 refine F.ok Rj (fun vs H Q E h=>?_) (fun BM A outer s H vs Q E hr h=>?_)
 ·obtain ⟨a,l,rfl,_⟩:=h;rfl
 ·obtain ⟨a,l,rfl,ha,hz,q⟩:=h;refine ⟨_,AG (AQ (CI DP (Aj (AA (Aa Ae (by rfl) bl PySem.boot_len (AA (pv 0) AC)) AC)) (pv 0))),?_⟩;refine ⟨_,rfl,a,_,rfl,.inl (Ao.of ha),by show 1<=sizeLine;decide,fun p hp=>?_⟩;rw[length_map];have s1:AW H (upd H p (.lst [V.int (l.length:Int)])):=fun b o e=>by rw[AI (AH e hp)];exact e
  refine ⟨_,rfl,p,a,_,_,rfl,rfl,AB,s1 _ _ ha,?_,fun p2 FE=>?_⟩
  ·rw[length_map,sizeLine_eq];show 1+l.length<=_;omega
  ·exact q _ p2 (s1.trans fun b o e=>by rw[AI (AH e FE)];exact e) (s1.free FE) AB
def Ji:Sp:=fun vs H Q _=>∃(l:List Nat),vs=[.str (S l)]/\l.length<=20000/\∀H' p,AW H H'->H p=none->H' p=some (.lst (AY l))->Q (.ref p) H'
theorem P6:AT ["word","sign"] ["word"] (AO MK):=⟨rfl,rfl,rfl,by decide+kernel,rfl,by decide+kernel,by decide+kernel⟩
theorem Zw {f:Addr}{fd:FuncData}(F:CB K "signs_of" "signs_of" MK f fd)(bo:mg "ord"=none):AR P w K mg base As 1 f fd ["word"] Ji:=by
 refine F.ok P6 (fun vs H Q E h=>?_) (fun BM A outer s H vs Q E hr h=>?_)
 ·obtain ⟨l,rfl,_⟩:=h;rfl
 ·obtain ⟨l,rfl,hz,q⟩:=h;have nd:=P6.nd;refine ⟨_,AG (AQ (GD (own:= [("sign",1)]) rfl nd (cj (pv 0)) (Bn (by kernel_rfl)) (fun _ _ _ _ _=>A2 (i:=1) nd rfl (Or.inl rfl)) (fun _ _ _ _ _=>Ez)
    (fun _ _ _ _ _=>Aa UJ (by rfl) bo boot_ord (AA (pv 1) AC)))),?_⟩
  refine ⟨_,rfl,S l,rfl,fun D hD=>?_⟩;refine o9 (x:=S l) (fun i H'=>H' D=some (.lst (AY (l.take i)))/\AW H H') ⟨AB,fun b o e=>by rw[AI (AH e hD)];exact e⟩ ?_ ?_
  ·rintro i c H' hc ⟨Ct,s'⟩;have rk:l[i]? =some c:=by simpa using hc
   refine ⟨rfl,Ut ?_⟩;refine ⟨_,rfl,S [c],rfl,rfl,_,Ct,?_,?_,fun b o e=>?_⟩
   ·rw[Ak];exact Nat.lt_of_le_of_lt (length_take_le' _ _) (Nat.lt_of_le_of_lt hz (by decide))
   ·rw[AB,Ay rk, <- Cd];rfl
   ·rw[AI (AH e hD)];exact s' b o e
  ·rintro H' ⟨Ct,s'⟩;rw[show (S l).cps.size=l.length by simp,take_length]at Ct;exact q H' D s' hD Ct
theorem BK (b:Bool)(e:Int)(l:List (Bool×Int))(x:Res):guards ((b,e)::l) x=if b=true then .error e else guards l x:=by
 unfold guards;rw[find?_cons];cases b <;> rfl
theorem Er (x:Res):guards [] x=x:=rfl
def refusal (s:Vbdhae.State)(n c o:Int):Int:=if isN n=true then (if isThere s n.toNat=true then (if ((changeAt s n.toNat).status:Int)=c then 0 else o)else -5)else -1
theorem K4 {n:Int}:isN n=true↔1<=n/\n<=40:=by
 unfold isN inside;simp
theorem FC {s:Vbdhae.State}{n:Nat}:isThere s n=true↔1<=n/\n<=s.changes.length:=by
 unfold isThere;simp
theorem Et {s:Vbdhae.State}{n:Int}{l:List (Bool×Int)}{x:Res}{c:Vbdhae.Call}(hd:does s c=guards (noChange s n.toNat::noDraft s n.toNat::l) x){cs:List (List Int)}(hc:decode cs=Vbdhae.guard (isN n) c):
  stepNumbers s cs=if refusal s n 0 (-6)<0 then (s,[refusal s n 0 (-6)])else match guards l x with
   | .error e=>(s,[e])
   | .ok (t,a)=>(t,0::a):=by
 unfold stepNumbers;rw[hc];unfold Vbdhae.guard;by_cases h1:isN n=true
 ·rw[if_pos h1];show Vbdhae.step s c=_;unfold Vbdhae.step;rw[hd];unfold noChange noDraft;rw[BK];by_cases h2:isThere s n.toNat=true
  ·rw[if_neg (by rw[h2];decide),BK];by_cases h3:(changeAt s n.toNat).status=0
   ·have hv:refusal s n 0 (-6)=0:=by
     unfold refusal;rw[if_pos h1,if_pos h2,h3];rfl
    rw[hv,if_neg (by rw[h3];decide),if_neg (by decide)];rfl
   ·have hv:refusal s n 0 (-6)= -6:=by
     unfold refusal;rw[if_pos h1,if_pos h2,if_neg (by omega)]
    rw[hv,if_pos (by simpa using h3),if_pos (by decide)]
  ·have hv:refusal s n 0 (-6)= -5:=by
    unfold refusal;rw[if_pos h1,if_neg h2]
   rw[hv,if_pos (by simpa using h2),if_pos (by decide)]
 ·have hv:refusal s n 0 (-6)= -1:=by
   unfold refusal;rw[if_neg h1]
  rw[hv,if_neg h1,if_pos (by decide)]
theorem Ca {s:Vbdhae.State}{n c o:Int}(ho:o<0)(h:¬ refusal s n c o<0):1<=n/\n<=40/\1<=n.toNat/\n.toNat<=s.changes.length/\((changeAt s n.toNat).status:Int)=c:=by
 unfold refusal at h;by_cases h1:isN n=true
 ·rw[if_pos h1]at h;by_cases h2:isThere s n.toNat=true
  ·rw[if_pos h2]at h;by_cases h3:((changeAt s n.toNat).status:Int)=c
   ·exact ⟨(K4.mp h1).1,(K4.mp h1).2,(FC.mp h2).1,(FC.mp h2).2,h3⟩
   ·rw[if_neg h3]at h;exact absurd ho h
  ·rw[if_neg h2]at h;exact absurd (by decide) h
 ·rw[if_neg h1]at h;exact absurd (by decide) h
def absent (s:Vbdhae.State)(l:List Int):Int:=if (l.all isN)=true then (if (l.all fun n=>decide (n<=(s.changes.length:Nat)))=true then 0 else -5)else -1
theorem K3 {s:Vbdhae.State}{n:Int}(h:isN n=true):decide (n<=(s.changes.length:Nat))=isThere s n.toNat:=by
 have:=K4.mp h;unfold isThere;exact decide_eq_decide.mpr (by omega)
theorem R3 (s:Vbdhae.State)(n c o:Int):refusal s n c o=if absent s [n]=0/\((changeAt s n.toNat).status:Int)≠c then o else absent s [n]:=by
 unfold refusal absent;simp only[all_cons,all_nil,Bool.and_true];by_cases h1:isN n=true
 ·rw[if_pos h1,if_pos h1,K3 h1];by_cases h2:isThere s n.toNat=true
  ·rw[if_pos h2,if_pos h2];by_cases h3:((changeAt s n.toNat).status:Int)=c
   ·rw[if_pos h3,if_neg (fun z=>z.2 h3)]
   ·rw[if_neg h3,if_pos ⟨rfl,h3⟩]
  ·rw[if_neg h2,if_neg h2,if_neg (fun z=>absurd z.1 (by decide))]
 ·rw[if_neg h1,if_neg h1,if_neg (fun z=>absurd z.1 (by decide))]
structure After (CH CC:Addr)(H H':Hp)(h lc lf:Addr)(as:List Addr)(s:Vbdhae.State):Prop where
 ex:∃(cD:Addr) (My:List Addr),Ab CH CC H' h lc cD My s/\(cD=lf\/H cD=none)/\(∀a∈My,a∈as\/H a=none)
 keep:∀b o,H b=some o->b≠h->b≠lc->b≠lf->b∉as->H' b=some o
theorem After.same {CH CC:Addr}{H H':Hp}{h lc lf:Addr}{as:List Addr}{s:Vbdhae.State}(hA:Ab CH CC H h lc lf as s)(z:AW H H'):After CH CC H H' h lc lf as s:=
 ⟨⟨lf,as,hA.same z,.inl rfl,fun a ha=> .inl ha⟩,fun b o e _ _ _ _=>z b o e⟩
theorem After.more {CH CC:Addr}{H H1 H2:Hp}{h lc lf:Addr}{as:List Addr}{s:Vbdhae.State}(a:After CH CC H H1 h lc lf as s)(z:AW H1 H2):After CH CC H H2 h lc lf as s:=by
 obtain ⟨cD,My,h1,h2,h3⟩:=a.ex;exact ⟨⟨cD,My,h1.same z,h2,h3⟩,fun b o e n1 n2 n3 n4=>z _ _ (a.keep b o e n1 n2 n3 n4)⟩
def BQ (CH CC:Addr)(k:Int)(nn nr:Nat):Sp:=fun vs H Q _=>∃(h lc lf ln lr:Addr) (as:List Addr) (s:Vbdhae.State) (nums:List Int) (EX:List Addr) (rows:List (List Int)),vs=[.ref h,.ref ln,.ref lr]/\Ab CH CC H h lc lf as s/\
 H ln=some (.lst (nums.map V.int))/\H lr=some (.lst (EX.map V.ref))/\Paired (fun a r=>H a=some (.lst (r.map V.int))/\r.length<=2000/\a≠lc/\a≠lf) EX rows/\nums.length=nn/\rows.length=nr/\
 ∀H' p,After CH CC H H' h lc lf as (stepNumbers s ((k::nums)::rows)).1->H' p=some (.lst ((stepNumbers s ((k::nums)::rows)).2.map V.int))->Q (.ref p) H'
theorem Ip {H H' H2:Hp}{D:Addr}{l:List Int}{i:Nat}{n:Int}{p:Int->Bool}{z:Bool}(hD:H D=none)(hn:l[i]? =some n)(Ct:H' D=some (.lst (((l.take i).map p).map V.bl)))(s':AW H H')(s2:AW H' H2)(hz:z=p n)(hl:l.length<=20000):
  ∃acc,H2 D=some (.lst acc)/\acc.length<sizeLine/\(upd H2 D (.lst (acc ++ [V.bl z]))) D=some (.lst (((l.take (i+1)).map p).map V.bl))/\AW H (upd H2 D (.lst (acc ++ [V.bl z]))):=by
 refine ⟨_,s2 _ _ Ct,?_,?_,fun b o e=>?_⟩
 ·rw[length_map,length_map,length_take];exact Nat.lt_of_le_of_lt (Nat.min_le_right _ _) (Nat.lt_of_le_of_lt hl (by decide))
 ·rw[AB,hz,Ay hn];simp
 ·rw[AI (AH e hD)];exact s2 _ _ (s' b o e)
def HX (CH CC:Addr):Sp:=fun vs H Q _=>∃(h lc lf:Addr) (as:List Addr) (s:Vbdhae.State) (ln:Addr) (l:List Int),vs=[.ref h,.ref ln]/\Ab CH CC H h lc lf as s/\H ln=some (.lst (l.map V.int))/\l.length<=100/\∀H',AW H H'->Q (.int (absent s l)) H'
theorem Vy:AT ["house","numbers","number"] ["house","numbers"] (AO DK):=⟨rfl,rfl,rfl,by decide+kernel,rfl,by decide+kernel,by decide+kernel⟩
theorem jY {f C CC f1:Addr}{fd d1:FuncData}(F:CB K "refusal_of_absent" "refusal_of_absent" DK f fd)(T:Am K C)(ba:mg "all"=none)(mc:Gv mg "MOST_CHANGES" (.int 40))(oC:Gv mg "OUT_OF_RANGE" (.int (-1)))(nsc:Gv mg "NO_SUCH_CHANGE" (.int (-5)))
  (Bw:AR P w K mg base As 1 f1 d1 ["self","number"] (Jh C CC)) (m1:MH K C "there_is" f1 d1 ["self","number"]):
  AR P w K mg base As 2 f fd ["house","numbers"] (HX C CC):=by
 refine F.ok Vy (fun vs H Q E h=>?_) (fun BM A outer s H vs Q E hr h=>?_)
 ·obtain ⟨h,lc,lf,as,s,ln,l,rfl,_⟩:=h;rfl
 ·obtain ⟨h,lc,lf,as,st,ln,l,rfl,hA,Bs,hl,q⟩:=h;kt_le;obtain ⟨u1,g1,r1⟩:=mc;obtain ⟨u2,g2,r2⟩:=oC;obtain ⟨u3,g3,r3⟩:=nsc;have nd:=Vy.nd;refine ⟨_,AF (A0 (EJ (CD (Aa (UH rfl) (by rfl) ba boot_all (AA (GD (own:= [("number",2)]) rfl nd (BF (pv 1)) (Bn (by kernel_rfl)) (fun _ _ _ _ _=>A2 (i:=2) nd rfl (Or.inl rfl)) (fun _ _ _ _ _=>Ez)
    (fun _ _ _ _ _=>Nk GH GH AK (pv 2) (Ad (by rfl) g1 r1))) AC)))) (AG (AQ (Ad rfl g2 r2))) Af)
   (AF (A0 (EJ (CD (Aa (UH rfl) (by rfl) ba boot_all (AA (GD (own:= [("number",2)]) rfl nd (BF (pv 1)) (Bn (by kernel_rfl)) (fun _ _ _ _ _=>A2 (i:=2) nd rfl (Or.inl rfl)) (fun _ _ _ _ _=>Ez)
    (fun _ _ _ _ _=>Ac (pv 0) T.cl m1.me Bw hr m1.bi .nil AU (AA (pv 2) AC))) AC)))) (AG (AQ (Ad rfl g3 r3))) Af)
   (AG (AQ AK))),?_⟩
  unfold absent at q;refine ⟨_,rfl,ln,rfl,⟨_,Ao.of Bs⟩,fun D hD=>?_⟩;refine DI (K:=K) (a:=ln) (xs:=l.map V.int) (fun i H'=>H' D=some (.lst (((l.take i).map isN).map V.bl))/\AW H H')
   ⟨AB,fun b o e=>by rw[AI (AH e hD)];exact e⟩ (fun i H' _ ⟨_,s'⟩=>Ao.of (s' _ _ Bs)) ?_ ?_
  ·rintro i x H' hx ⟨Ct,s'⟩;obtain ⟨n,hn,rfl⟩:=ints_get hx;refine ⟨rfl,Ut ?_⟩;refine ⟨_,rfl,_,_,rfl,rfl,_,rfl,?_⟩;kpt_hd
   ·refine ⟨_,_,rfl,rfl,Ip hD hn Ct s' (AW.refl _) ?_ (by omega)⟩;unfold isN inside;rw[z,Bool.true_and]
   ·refine Ip hD hn Ct s' (AW.refl _) ?_ (by omega);unfold isN inside;rw[Bool.eq_false_iff.mpr z,Bool.false_and]
  ·rintro H1 ⟨yT,s1⟩;rw[length_map,take_length]at yT;refine ⟨D,_,rfl,Ao.of yT,_,rfl,?_⟩;rw[all_map];show if (!l.all isN)=true then _ else _;cases ea:l.all isN with
   |false=>
    rw[ea,if_neg (by decide)]at q;exact CJ (q H1 s1)
   |true=>
    rw[ea,if_pos rfl]at q;refine B1 ?_;refine ⟨_,rfl,ln,rfl,⟨_,Ao.of (s1 _ _ Bs)⟩,fun D2 hD2=>?_⟩;refine DI (K:=K) (a:=ln) (xs:=l.map V.int) (fun i H'=>H' D2=some (.lst (((l.take i).map fun (n:Int)=>decide (n<=((st.changes.length:Nat):Int))).map V.bl))/\AW H1 H')
     ⟨AB,fun b o e=>by rw[AI (AH e hD2)];exact e⟩ (fun i H' _ ⟨_,s'⟩=>Ao.of (s' _ _ (s1 _ _ Bs))) ?_ ?_
    ·rintro i x H' hx ⟨Ct,s'⟩;obtain ⟨n,hn,rfl⟩:=ints_get hx;have hs:=s1.trans s';refine ⟨rfl,Ut ?_⟩;exact ⟨_,rfl,h,dx,fs,rfl,hs _ _ e1,e5 _ m1.nm.1 m1.nm.2,_,rfl,h,lc,lf,as,st,n,rfl,hA.same hs,Ip hD2 hn Ct s' (AW.refl _) rfl (by omega)⟩
    ·rintro H2 ⟨hD3,s2⟩;rw[length_map,take_length]at hD3;refine ⟨D2,_,rfl,Ao.of hD3,_,rfl,?_⟩;rw[all_map];show if (!l.all fun n=>decide (n<=(st.changes.length:Nat)))=true then _ else _;cases eb:l.all fun n=>decide (n<=(st.changes.length:Nat))with
     |false=>
      rw[eb,if_neg (by decide)]at q;exact CJ (q H2 (s1.trans s2))
     |true=>
      rw[eb,if_pos rfl]at q;exact B1 (q H2 (s1.trans s2))
def G5 (CH CC:Addr):Sp:=fun vs H Q _=>∃(h lc lf:Addr) (as:List Addr) (s:Vbdhae.State) (n c o:Int),vs=[.ref h,.int n,.int c,.int o]/\Ab CH CC H h lc lf as s/\∀H',AW H H'->Q (.int (refusal s n c o)) H'
theorem Lc:AT ["house","number","condition","otherwise","refusal"] ["house","number","condition","otherwise"] (AO IM):=⟨rfl,rfl,rfl,by decide+kernel,rfl,by decide+kernel,by decide+kernel⟩
theorem U3 {f C CC f1 f2:Addr}{fd d1 d2:FuncData}(F:CB K "refusal_of" "refusal_of" IM f fd)(T:Am K C)(TC:Br K CC)
  (Bw:AR P w K mg base As 2 f1 d1 ["house","numbers"] (HX C CC)) (b1:Binds K d1 ["house","numbers"] []) (Uq:mg "refusal_of_absent"=some (.ref f1)) (k1:keepIn K (.ref f1)=true)
  (HH:AR P w K mg base As 1 f2 d2 ["self","number"] (A9 C CC)) (m2:MH K C "numbered" f2 d2 ["self","number"]):
  AR P w K mg base As 3 f fd ["house","number","condition","otherwise"] (G5 C CC):=by
 refine F.ok Lc (fun vs H Q E h=>?_) (fun BM A outer s H vs Q E hr h=>?_)
 ·obtain ⟨h,lc,lf,as,s,n,c,o,rfl,_⟩:=h;rfl
 ·obtain ⟨h,lc,lf,as,st,n,c,o,rfl,hA,q⟩:=h;kt_le;have nd:=Lc.nd;ktn_lt;refine ⟨_,AF (AZ (i:=4) nd rfl (Or.inl rfl) (AX Bw hr rfl Uq k1 b1 .nil AU (AA (pv 0) (AA (Aj (AA (pv 1) AC)) AC))))
   (AF (A0 (ng (Al Ea (pv 4) AK (Av _)) (fq (Al SY (Ap (Ac (pv 0) T.cl m2.me HH FD m2.bi .nil AU (AA (pv 1) AC)) rfl) (pv 2) (Av _)))).pt (AG (AQ (pv 3))) Af)
   (AG (AQ (pv 4)))),?_⟩
  rw[R3]at q;refine ⟨_,rfl,_,rfl,by show 1<=sizeLine;decide,fun p hp=>?_⟩;have s0:AW H (upd H p (.lst [V.int n])):=fun b o e=>by rw[AI (AH e hp)];exact e
  refine ⟨h,lc,lf,as,st,p,[n],rfl,hA.same s0,AB,by simp,fun H1 s1=>?_⟩;have hs:=s0.trans s1;refine ⟨_,rfl,rfl,_,rfl,?_⟩;kpt_hd
  ·have z0:absent st [n]=0:=by simpa using z
   have hN:isN n=true/\n<=(st.changes.length:Nat):=by
    unfold absent at z0;simp only[all_cons,all_nil,Bool.and_true]at z0;by_cases h1:isN n=true
    ·rw[if_pos h1]at z0;by_cases h2:decide (n<=(st.changes.length:Nat))=true
     ·exact ⟨h1,of_decide_eq_true h2⟩
     ·rw[if_neg h2]at z0;exact absurd z0 (by decide)
    ·rw[if_neg h1]at z0;exact absurd z0 (by decide)
   have hn0:=K4.mp hN.1;have h1:1<=n.toNat:=by omega
   have h2:n.toNat<=st.changes.length:=by omega
   have KQ:n=((n.toNat:Nat):Int):=by omega
   isplit;obtain ⟨b,b1,b2,b3⟩:=(hA.same hs).at h1 h2;kl_no;isplit;obtain ⟨K8,la,ls,lt,GW,My,f1,f2,f3,f4,f5,f6⟩:=b2.ex;kl_no;refine ⟨_,rfl,h,dx,fs,rfl,hs _ _ e1,e5 _ m2.nm.1 m2.nm.2,_,rfl,h,lc,lf,as,st,n.toNat,b,by rw[<- KQ];rfl,hA.same hs,h1,b1,b,CC,K8,GW,_,rfl,f1,TC.cl,TC.nC,f5,_,rfl,rfl,_,rfl,?_⟩;kpt_hd
   ·rw[if_pos ⟨z0,fun e=>by rw[e]at z;simp at z⟩]at q;exact ⟨_,rfl,q _ hs⟩
   ·have z:V.int ((changeAt st n.toNat).status:Int)=V.int c:=by simpa using z
    rw[if_neg (fun e=>e.2 (V.int.inj z))]at q;exact ⟨_,rfl,q _ hs⟩
  ·rw[if_neg (fun e=>by rw[e.1]at z;simp at z)]at q;exact B1 ⟨_,rfl,q _ hs⟩
def Bk (CH CC:Addr)(c o:Int):Sp:=fun vs H Q _=>∃(h lc lf:Addr) (as:List Addr) (s:Vbdhae.State) (n:Int),vs=[.ref h,.int n]/\Ab CH CC H h lc lf as s/\∀H',AW H H'->Q (.int (refusal s n c o)) H'
theorem LK:AT ["house","number"] ["house","number"] (AO Dl):=⟨rfl,rfl,rfl,by decide+kernel,rfl,by decide+kernel,by decide+kernel⟩
theorem LN {f C CC g:Addr}{fd gd:FuncData}(F:CB K "refusal_of_draft" "refusal_of_draft" Dl f fd)(dr:Gv mg "DRAFT" (.int 0))(nd:Gv mg "NO_DRAFT" (.int (-6)))
  (Bw:AR P w K mg base As 3 g gd ["house","number","condition","otherwise"] (G5 C CC)) (b1:Binds K gd ["house","number","condition","otherwise"] []) (Uq:mg "refusal_of"=some (.ref g)) (k1:keepIn K (.ref g)=true):
  AR P w K mg base As 4 f fd ["house","number"] (Bk C CC 0 (-6)):=by
 refine F.ok LK (fun vs H Q E h=>?_) (fun BM A outer s H vs Q E hr h=>?_)
 ·obtain ⟨h,lc,lf,as,s,n,rfl,_⟩:=h;rfl
 ·obtain ⟨h,lc,lf,as,st,n,rfl,hA,q⟩:=h;obtain ⟨u1,g1,r1⟩:=dr;obtain ⟨u2,g2,r2⟩:=nd;refine ⟨_,AG (AQ (AX Bw hr rfl Uq k1 b1 .nil AU (AA (pv 0) (AA (pv 1) (AA (Ad rfl g1 r1) (AA (Ad rfl g2 r2) AC)))))),?_⟩;exact ⟨_,rfl,_,rfl,h,lc,lf,as,st,n,0, -6,rfl,hA,q⟩
theorem LL:AT ["house","number"] ["house","number"] (AO Dn):=⟨rfl,rfl,rfl,by decide+kernel,rfl,by decide+kernel,by decide+kernel⟩
theorem LO {f C CC g:Addr}{fd gd:FuncData}(F:CB K "refusal_in_force" "refusal_in_force" Dn f fd)(dr:Gv mg "IN_FORCE" (.int 1))(nd:Gv mg "NOT_IN_FORCE" (.int (-9)))
  (Bw:AR P w K mg base As 3 g gd ["house","number","condition","otherwise"] (G5 C CC)) (b1:Binds K gd ["house","number","condition","otherwise"] []) (Uq:mg "refusal_of"=some (.ref g)) (k1:keepIn K (.ref g)=true):
  AR P w K mg base As 4 f fd ["house","number"] (Bk C CC 1 (-9)):=by
 refine F.ok LL (fun vs H Q E h=>?_) (fun BM A outer s H vs Q E hr h=>?_)
 ·obtain ⟨h,lc,lf,as,s,n,rfl,_⟩:=h;rfl
 ·obtain ⟨h,lc,lf,as,st,n,rfl,hA,q⟩:=h;obtain ⟨u1,g1,r1⟩:=dr;obtain ⟨u2,g2,r2⟩:=nd;refine ⟨_,AG (AQ (AX Bw hr rfl Uq k1 b1 .nil AU (AA (pv 0) (AA (pv 1) (AA (Ad rfl g1 r1) (AA (Ad rfl g2 r2) AC)))))),?_⟩;exact ⟨_,rfl,_,rfl,h,lc,lf,as,st,n,1, -9,rfl,hA,q⟩
theorem len_one {α:Type}{l:List α}(h:l.length=1):∃x,l=[x]:=by
 match l,h with
 | [x],_=>exact ⟨x,rfl⟩
theorem A5 {α:Type}{l:List α}(h:l.length=0):l=[]:=length_eq_zero_iff.mp h
theorem After.of {CH CC:Addr}{H H':Hp}{h lc lf:Addr}{as:List Addr}{s:Vbdhae.State}(hA:Ab CH CC H' h lc lf as s)(f:Frame H H' h lf as):After CH CC H H' h lc lf as s:=
 ⟨⟨lf,as,hA,.inl rfl,fun a ha=> .inl ha⟩,fun b o e n1 _ n3 n4=>f b o e n1 n3 n4⟩
theorem After.pre {CH CC:Addr}{H H0 H':Hp}{h lc lf:Addr}{as:List Addr}{s:Vbdhae.State}(a:After CH CC H0 H' h lc lf as s)(z:AW H H0):After CH CC H H' h lc lf as s:=by
 obtain ⟨cD,My,h1,h2,h3⟩:=a.ex;exact ⟨⟨cD,My,h1,h2.imp id z.free,fun b hb=>(h3 b hb).imp id z.free⟩,fun b o e=>a.keep b o (z b o e)⟩
theorem Fs {s:Vbdhae.State}(h:Mv s){n:Nat}(h1:1<=n)(h2:n<=s.changes.length)(hs:((changeAt s n).status:Int)=0):n∉s.force:=fun z=>by
 have:=(h.st n h1 h2).mpr z;omega
theorem AJ {H:Hp}{p:Addr}{o:HO}(h:H p=none):AW H (upd H p o):=fun b x e=>by rw[AI (AH e h)];exact e
theorem iw (s:Vbdhae.State)(n:Int):stepNumbers s [[4,n]]=if refusal s n 0 (-6)<0 then (s,[refusal s n 0 (-6)])else (setChange s n.toNat fun c=>{ c with status:=2 },[0]):=
 Et (l:= []) (x:= .ok (setChange s n.toNat fun c=>{ c with status:=2 },[])) rfl rfl
theorem sX (s:Vbdhae.State)(n:Int):stepNumbers s [[5,n]]=if refusal s n 0 (-6)<0 then (s,[refusal s n 0 (-6)])else (setChange s n.toNat fun c=>{ c with seen:=s.force,on:= [] },[0,(s.force.length:Nat)]):=
 Et (l:= []) (x:= .ok (setChange s n.toNat fun c=>{ c with seen:=s.force,on:= [] },[Vbdhae.nat s.force.length])) rfl rfl
theorem iz (s:Vbdhae.State)(n:Int):stepNumbers s [[2,n]]=if refusal s n 0 (-6)<0 then (s,[refusal s n 0 (-6)])else
  if (clashes s n.toNat).isEmpty=false then (s,[-7])else if (lacks s n.toNat).isEmpty=false then (s,[-8])else (Vbdhae.accepted s n.toNat,[0,(s.force.length:Nat)+1]):=by
 refine (Et (l:= [(!(clashes s n.toNat).isEmpty, -7),(!(lacks s n.toNat).isEmpty, -8)]) (x:= .ok (Vbdhae.accepted s n.toNat,[Vbdhae.nat (s.force.length+1)])) rfl rfl).trans ?_;rw[BK,BK,Er];cases (clashes s n.toNat).isEmpty with
 |false=>rfl
 |true=>
  cases (lacks s n.toNat).isEmpty with
  |false=>rfl
  |true=>rfl
theorem Vr:AT ["house","numbers","rows","refusal"] ["house","numbers","rows"] (AO Jx):=⟨rfl,rfl,rfl,by decide+kernel,rfl,by decide+kernel,by decide+kernel⟩
theorem jR {f C CC g f1:Addr}{fd gd d1:FuncData}(F:CB K "refuse" "refuse" Jx f fd)(T:Am K C)
  (MU:AR P w K mg base As 4 g gd ["house","number"] (Bk C CC 0 (-6))) (b0:Binds K gd ["house","number"] []) (Mb:mg "refusal_of_draft"=some (.ref g)) (k0:keepIn K (.ref g)=true)
  (Bw:AR P w K mg base As 2 f1 d1 ["self","number"] (Jk C CC)) (m1:MH K C "put_refused" f1 d1 ["self","number"]):
  AR P w K mg base As 8 f fd ["house","numbers","rows"] (BQ C CC 4 1 0):=by
 refine F.ok Vr (fun vs H Q E h=>?_) (fun BM A outer s H vs Q E hr h=>?_)
 ·kt_chr;rfl
 ·kt_str;obtain ⟨n,rfl⟩:=len_one HM;obtain rfl:=A5 Ge;kt_le;have nd:=Vr.nd;have Us:Aq 4 _:=hr.mono (by decide);kxf_eq;refine ⟨_,AF (AZ (i:=3) nd rfl (Or.inl rfl) (AX MU Us rfl Mb k0 b0 .nil AU (AA (pv 0) (AA (Ar Ag (pv 1) AK (fun _ _=>rfl)) AC))))
   (AF (A0 (Al Gs (pv 3) AK (Av _)) (AG (AQ (Aj (AA (pv 3) AC)))) Af)
   (AF (Bt (Ac (pv 0) T.cl m1.me Bw Gg m1.bi .nil AU (AA (Ar Ag (pv 1) AK (fun _ _=>rfl)) AC)))
   (AG (AQ (Aj (AA AK AC)))))),?_⟩
  rw[show (4 :: [n])::([]:List (List Int))=[[4,n]]from rfl,iw]at q;refine ⟨_,rfl,_,rfl,ln,_,0,.int n,rfl,rfl,Ao.of Bs,rfl,h,lc,lf,as,st,n,rfl,hA,fun H0 s0=>?_⟩;have hA:=hA.same s0;have Bs:=s0 _ _ Bs;have e1:=s0 _ _ e1;have q:=fun H' p (a:After C CC H0 H' h lc lf as _) e=>q H' p (a.pre s0) e;refine ⟨_,rfl,_,_,rfl,rfl,_,rfl,?_⟩;kpt_hd
  ·have z:refusal st n 0 (-6)<0:=of_decide_eq_true z;rw[if_pos z]at q;exact ⟨_,rfl,by show 1<=sizeLine;decide,fun p hp=>q _ p (After.same hA (AJ hp)) AB⟩
  ·have z:¬ refusal st n 0 (-6)<0:=fun e=>z (decide_eq_true e);rw[if_neg z]at q;isplit;obtain ⟨i1,i2,i3,i4,i5⟩:=Ca (by decide) z;kl_no;have KQ:n=((n.toNat:Nat):Int):=by omega
   refine ⟨_,rfl,h,dx,fs,rfl,e1,e5 _ m1.nm.1 m1.nm.2,_,rfl,ln,_,0,.int n,rfl,rfl,Ao.of Bs,rfl,h,lc,lf,as,st,n.toNat,by rw[<- KQ];rfl,hA,i3,i4,Fs hA.ok i3 i4 i5,fun H2 dy fr=>?_⟩;exact ⟨by show 1<=sizeLine;decide,fun p hp=>q _ p ((After.of dy fr).more (AJ hp)) AB⟩
theorem fc:AT ["house","numbers","rows","refusal"] ["house","numbers","rows"] (AO Rx):=⟨rfl,rfl,rfl,by decide+kernel,rfl,by decide+kernel,by decide+kernel⟩
theorem tR {f C CC g f1:Addr}{fd gd d1:FuncData}(F:CB K "look" "look" Rx f fd)(T:Am K C)(bl:mg "len"=none)
  (MU:AR P w K mg base As 4 g gd ["house","number"] (Bk C CC 0 (-6))) (b0:Binds K gd ["house","number"] []) (Mb:mg "refusal_of_draft"=some (.ref g)) (k0:keepIn K (.ref g)=true)
  (Bw:AR P w K mg base As 2 f1 d1 ["self","number"] (LZ C CC)) (m1:MH K C "look_again" f1 d1 ["self","number"]):
  AR P w K mg base As 8 f fd ["house","numbers","rows"] (BQ C CC 5 1 0):=by
 refine F.ok fc (fun vs H Q E h=>?_) (fun BM A outer s H vs Q E hr h=>?_)
 ·kt_chr;rfl
 ·kt_str;obtain ⟨n,rfl⟩:=len_one HM;obtain rfl:=A5 Ge;kt_le;have nd:=fc.nd;have Us:Aq 4 _:=hr.mono (by decide);kxf_eq;refine ⟨_,AF (AZ (i:=3) nd rfl (Or.inl rfl) (AX MU Us rfl Mb k0 b0 .nil AU (AA (pv 0) (AA (Ar Ag (pv 1) AK (fun _ _=>rfl)) AC))))
   (AF (A0 (Al Gs (pv 3) AK (Av _)) (AG (AQ (Aj (AA (pv 3) AC)))) Af)
   (AF (Bt (Ac (pv 0) T.cl m1.me Bw Gg m1.bi .nil AU (AA (Ar Ag (pv 1) AK (fun _ _=>rfl)) AC)))
   (AG (AQ (Aj (AA AK (AA (Aa Ae (by rfl) bl PySem.boot_len (AA (Ap (pv 0) rfl) AC)) AC))))))),?_⟩
  rw[show (5 :: [n])::([]:List (List Int))=[[5,n]]from rfl,sX]at q;refine ⟨_,rfl,_,rfl,ln,_,0,.int n,rfl,rfl,Ao.of Bs,rfl,h,lc,lf,as,st,n,rfl,hA,fun H0 s0=>?_⟩;have hA:=hA.same s0;have Bs:=s0 _ _ Bs;have e1:=s0 _ _ e1;have q:=fun H' p (a:After C CC H0 H' h lc lf as _) e=>q H' p (a.pre s0) e;refine ⟨_,rfl,_,_,rfl,rfl,_,rfl,?_⟩;kpt_hd
  ·have z:refusal st n 0 (-6)<0:=of_decide_eq_true z;rw[if_pos z]at q;exact ⟨_,rfl,by show 1<=sizeLine;decide,fun p hp=>q _ p (After.same hA (AJ hp)) AB⟩
  ·have z:¬ refusal st n 0 (-6)<0:=fun e=>z (decide_eq_true e);rw[if_neg z]at q;isplit;obtain ⟨i1,i2,i3,i4,i5⟩:=Ca (by decide) z;kl_no;have KQ:n=((n.toNat:Nat):Int):=by omega
   refine ⟨_,rfl,h,dx,fs,rfl,e1,e5 _ m1.nm.1 m1.nm.2,_,rfl,ln,_,0,.int n,rfl,rfl,Ao.of Bs,rfl,h,lc,lf,as,st,n.toNat,by rw[<- KQ];rfl,hA,i3,i4,fun H2 dy fr=>?_⟩;isplit;obtain ⟨qY,qJ,f1,f2,f3,f4,f5⟩:=dy.ex;kl_no;refine ⟨_,rfl,h,C,qY,qJ,_,rfl,f1,T.cl,T.nF,f3,lf,_,rfl,.inl (Ao.of dy.Ep),by show 2<=sizeLine;decide,fun p hp=>?_⟩;rw[Ak];exact q _ p ((After.of dy fr).more (AJ hp)) AB
theorem Vx:AT ["house","numbers","rows","number","refusal"] ["house","numbers","rows"] (AO J2):=⟨rfl,rfl,rfl,by decide+kernel,rfl,by decide+kernel,by decide+kernel⟩
theorem jX {f C CC g f1 f2 f3:Addr}{fd gd d1 d2 d3:FuncData}(F:CB K "accept" "accept" J2 f fd)(T:Am K C)(bl:mg "len"=none)(cl:Gv mg "CLASHING" (.int (-7)))(la:Gv mg "LACKING" (.int (-8)))
  (MU:AR P w K mg base As 4 g gd ["house","number"] (Bk C CC 0 (-6))) (b0:Binds K gd ["house","number"] []) (Mb:mg "refusal_of_draft"=some (.ref g)) (k0:keepIn K (.ref g)=true)
  (Bw:AR P w K mg base As 4 f1 d1 ["self","number","row"] (Gm K C CC)) (m1:MH K C "clashing" f1 d1 ["self","number","row"])
  (HH:AR P w K mg base As 4 f2 d2 ["self","number","row"] (F2 C CC)) (m2:MH K C "lacking" f2 d2 ["self","number","row"])
  (JE:AR P w K mg base As 2 f3 d3 ["self","number"] (DV C CC)) (m3:MH K C "put_in_force" f3 d3 ["self","number"]):
  AR P w K mg base As 8 f fd ["house","numbers","rows"] (BQ C CC 2 1 0):=by
 refine F.ok Vx (fun vs H Q E h=>?_) (fun BM A outer s H vs Q E hr h=>?_)
 ·kt_chr;rfl
 ·kt_str;obtain ⟨n,rfl⟩:=len_one HM;obtain rfl:=A5 Ge;kt_le;obtain ⟨u1,g1,r1⟩:=cl;obtain ⟨u2,g2,r2⟩:=la;have nd:=Vx.nd;have Us:Aq 4 _:=hr.mono (by decide);kxf_eq;refine ⟨_,AF (AZ (i:=3) nd rfl (Or.inl rfl) (Ar Ag (pv 1) AK (fun _ _=>rfl)))
   (AF (AZ (i:=4) nd rfl (Or.inl rfl) (AX MU Us rfl Mb k0 b0 .nil AU (AA (pv 0) (AA (pv 3) AC))))
   (AF (A0 (Al Gs (pv 4) AK (Av _)) (AG (AQ (Aj (AA (pv 4) AC)))) Af)
   (AF (A0 (Zj (Ac (pv 0) T.cl m1.me Bw Us m1.bi .nil AU (AA (pv 3) (AA (Ap (pv 0) rfl) AC))) (fun _=>rfl)) (AG (AQ (Aj (AA (Ad rfl g1 r1) AC)))) Af)
   (AF (A0 (Zj (Ac (pv 0) T.cl m2.me HH Us m2.bi .nil AU (AA (pv 3) (AA (Ap (pv 0) rfl) AC))) (fun _=>rfl)) (AG (AQ (Aj (AA (Ad rfl g2 r2) AC)))) Af)
   (AF (Bt (Ac (pv 0) T.cl m3.me JE Gg m3.bi .nil AU (AA (pv 3) AC)))
   (AG (AQ (Aj (AA AK (AA (Aa Ae (by rfl) bl PySem.boot_len (AA (Ap (pv 0) rfl) AC)) AC)))))))))),?_⟩
  rw[show (2 :: [n])::([]:List (List Int))=[[2,n]]from rfl,iz]at q;refine ⟨_,rfl,ln,_,0,.int n,rfl,rfl,Ao.of Bs,rfl,?_⟩;refine ⟨_,rfl,_,rfl,h,lc,lf,as,st,n,rfl,hA,fun H0 s0=>?_⟩;have hA:=hA.same s0;have Bs:=s0 _ _ Bs;have e1:=s0 _ _ e1;have q:=fun H' p (a:After C CC H0 H' h lc lf as _) e=>q H' p (a.pre s0) e;refine ⟨_,rfl,_,_,rfl,rfl,_,rfl,?_⟩;kpt_hd
  ·have z:refusal st n 0 (-6)<0:=of_decide_eq_true z;rw[if_pos z]at q;exact ⟨_,rfl,by show 1<=sizeLine;decide,fun p hp=>q _ p (After.same hA (AJ hp)) AB⟩
  ·have z:¬ refusal st n 0 (-6)<0:=fun e=>z (decide_eq_true e);rw[if_neg z]at q;isplit;obtain ⟨i1,i2,i3,i4,i5⟩:=Ca (by decide) z;kl_no;have KQ:n=((n.toNat:Nat):Int):=by omega
   have gb:=hA.ok.B4;refine ⟨_,rfl,h,dx,fs,rfl,e1,e5 _ m1.nm.1 m1.nm.2,_,rfl,_,rfl,h,C,dx,fs,_,rfl,e1,T.cl,T.nF,e3,h,lc,lf,as,st,n.toNat,lf,st.force,by rw[<- KQ];rfl,hA,i3,i4,hA.Ep,hA.ok.Ur,by omega,fun H1 p s1 hp D3=>?_⟩;refine ⟨_,.inl ⟨_,Ao.of D3,rfl⟩,?_⟩;rw[Gw, <- Kf];cases ec:(clashes st n.toNat).isEmpty with
   |false=>
    rw[ec,if_pos rfl]at q;exact CJ ⟨by show 1<=sizeLine;decide,fun p2 FE=>q _ p2 (After.same hA (s1.trans (AJ FE))) AB⟩
   |true=>
    rw[ec,if_neg (by decide)]at q;refine B1 ?_;refine ⟨_,rfl,h,dx,fs,rfl,s1 _ _ e1,e5 _ m2.nm.1 m2.nm.2,_,rfl,_,rfl,h,C,dx,fs,_,rfl,s1 _ _ e1,T.cl,T.nF,e3,h,lc,lf,as,st,n.toNat,lf,st.force,by rw[<- KQ];rfl,hA.same s1,i3,i4,(hA.same s1).Ep,fun H2 p2 s2 FE Mj=>?_⟩;refine ⟨_,.inl ⟨_,Ao.of Mj,rfl⟩,?_⟩;rw[Gw, <- Hj];cases el:(lacks st n.toNat).isEmpty with
    |false=>
     rw[el,if_pos rfl]at q;exact CJ ⟨by show 1<=sizeLine;decide,fun p3 Mj=>q _ p3 (After.same hA ((s1.trans s2).trans (AJ Mj))) AB⟩
    |true=>
     rw[el,if_neg (by decide)]at q;refine B1 ?_;have QB:=s1.trans s2;refine ⟨_,rfl,h,dx,fs,rfl,QB _ _ e1,e5 _ m3.nm.1 m3.nm.2,_,rfl,h,lc,lf,as,st,n.toNat,by rw[<- KQ];rfl,hA.same QB,i3,i4,Fs hA.ok i3 i4 i5,fun H3 ur fr _=>?_⟩;isplit;obtain ⟨dx3,fs3,f1,f2,f3,f4,f5⟩:=ur.ex;kl_no;refine ⟨_,rfl,h,C,dx3,fs3,_,rfl,f1,T.cl,T.nF,f3,lf,_,rfl,.inl (Ao.of ur.Ep),by show 2<=sizeLine;decide,fun p3 Mj=>?_⟩;rw[Ak];refine q _ p3 ((After.of (H:=H0) ur fun b o e n1 n2 n3=>fr b o (QB _ _ e) n1 n2 n3).more (AJ Mj)) ?_;rw[AB];show some (HO.lst [V.int 0,V.int ((st.force ++ [n.toNat]).length:Nat)])=some (HO.lst [V.int 0,V.int ((st.force.length:Nat)+1)]);rw[length_append];rfl
theorem Mt {s:Vbdhae.State}(ok:Mv s){n:Int}{l:List (Bool×Int)}{x:Res}{c:Vbdhae.Call}(hd:does s c=guards (noChange s n.toNat::noForce s n.toNat::l) x){cs:List (List Int)}(hc:decode cs=Vbdhae.guard (isN n) c):
  stepNumbers s cs=if refusal s n 1 (-9)<0 then (s,[refusal s n 1 (-9)])else match guards l x with
   | .error e=>(s,[e])
   | .ok (t,a)=>(t,0::a):=by
 unfold stepNumbers;rw[hc];unfold Vbdhae.guard;by_cases h1:isN n=true
 ·rw[if_pos h1];show Vbdhae.step s c=_;unfold Vbdhae.step;rw[hd];unfold noChange noForce;rw[BK];by_cases h2:isThere s n.toNat=true
  ·rw[if_neg (by rw[h2];decide),BK];have wQ:=ok.st n.toNat (FC.mp h2).1 (FC.mp h2).2;by_cases h3:(changeAt s n.toNat).status=1
   ·have hv:refusal s n 1 (-9)=0:=by
     unfold refusal;rw[if_pos h1,if_pos h2,h3];rfl
    have hm:=wQ.mp h3;rw[hv,if_neg (by simpa using hm),if_neg (by decide)];rfl
   ·have hv:refusal s n 1 (-9)= -9:=by
     unfold refusal;rw[if_pos h1,if_pos h2,if_neg (by omega)]
    have hm:n.toNat∉s.force:=fun z=>h3 (wQ.mpr z);rw[hv,if_pos (by simpa using hm),if_pos (by decide)]
  ·have hv:refusal s n 1 (-9)= -5:=by
    unfold refusal;rw[if_pos h1,if_neg h2]
   rw[hv,if_pos (by simpa using h2),if_pos (by decide)]
 ·have hv:refusal s n 1 (-9)= -1:=by
   unfold refusal;rw[if_neg h1]
  rw[hv,if_neg h1,if_pos (by decide)]
theorem ZH {s:Vbdhae.State}(ok:Mv s)(n:Int):stepNumbers s [[6,n]]=if refusal s n 1 (-9)<0 then (s,[refusal s n 1 (-9)])else
  if 1<(falls s n.toNat).length then (s,[-10])else (takenBack s [n.toNat],[0]):=by
 refine (Mt ok (l:= [(decide (1<(falls s n.toNat).length), -10)]) (x:= .ok (takenBack s [n.toNat],[])) rfl rfl).trans ?_;rw[BK,Er];by_cases h:1<(falls s n.toNat).length
 ·rw[if_pos (decide_eq_true h),if_pos h]
 ·rw[if_neg (fun z=>h (of_decide_eq_true z)),if_neg h]
theorem cT {s:Vbdhae.State}(ok:Mv s)(n:Int):stepNumbers s [[7,n]]=if refusal s n 1 (-9)<0 then (s,[refusal s n 1 (-9)])else
  (takenBack s (falls s n.toNat),0::listed (falls s n.toNat)):=
 Mt ok (l:= []) (x:= .ok (takenBack s (falls s n.toNat),listed (falls s n.toNat))) rfl rfl
theorem K7 (s:Vbdhae.State):∀(r l:List Nat), ∃ext,fallsFrom s l r=l++ext
 | [],l=>⟨[],by simp[fallsFrom]⟩
 |m::r,l=>by
  unfold fallsFrom;split
  ·split
   ·exact K7 s r l
   ·obtain ⟨e,h⟩:=K7 s r (l ++ [m]);exact ⟨m::e,by rw[h,append_assoc];rfl⟩
  ·exact K7 s r l
theorem a9 {s:Vbdhae.State}{n:Nat}(h:¬ 1<(falls s n).length):falls s n=[n]:=by
 unfold falls at h ⊢;obtain ⟨e,he⟩:=K7 s (behind s.force n) [n];rw[he]at h ⊢;cases e with
 |nil=>rfl
 |cons a r=>simp at h
theorem Bz (l:List Nat):(listed l).length=l.length+1:=by
 unfold listed;rw[length_cons,length_map]
theorem B9 (l:List Nat):(((l.map fun (n:Nat)=>(n:Int)).length:Int)::l.map fun (n:Nat)=>(n:Int))=listed l:=by
 unfold listed;rw[length_map];rfl
theorem After.back {CH CC:Addr}{H H1 H':Hp}{h lc lf cD:Addr}{as:List Addr}{s:Vbdhae.State}(z:AW H H1)(hA:Ab CH CC H' h lc cD as s)(hn:H1 cD=none)(f:Frame H1 H' h lf as):After CH CC H H' h lc lf as s:=
 ⟨⟨cD,as,hA,.inr (z.free hn),fun a ha=> .inl ha⟩,fun b o e n1 _ n3 n4=>f b o (z _ _ e) n1 n3 n4⟩
theorem P5:AT ["house","numbers","rows","refusal","fallen"] ["house","numbers","rows"] (AO F5):=⟨rfl,rfl,rfl,by decide+kernel,rfl,by decide+kernel,by decide+kernel⟩
theorem Zu {f C CC g f1 f2:Addr}{fd gd d1 d2:FuncData}(F:CB K "takeback" "takeback" F5 f fd)(T:Am K C)(bl:mg "len"=none)(of:Gv mg "OTHERS_FALL" (.int (-10)))
  (MU:AR P w K mg base As 4 g gd ["house","number"] (Bk C CC 1 (-9))) (b0:Binds K gd ["house","number"] []) (Mb:mg "refusal_in_force"=some (.ref g)) (k0:keepIn K (.ref g)=true)
  (Bw:AR P w K mg base As 3 f1 d1 ["self","number"] (IL C CC)) (m1:MH K C "falling" f1 d1 ["self","number"])
  (HH:AR P w K mg base As 2 f2 d2 ["self","numbers"] (Jl C CC)) (m2:MH K C "put_back" f2 d2 ["self","numbers"]):
  AR P w K mg base As 8 f fd ["house","numbers","rows"] (BQ C CC 6 1 0):=by
 refine F.ok P5 (fun vs H Q E h=>?_) (fun BM A outer s H vs Q E hr h=>?_)
 ·kt_chr;rfl
 ·kt_str;obtain ⟨n,rfl⟩:=len_one HM;obtain rfl:=A5 Ge;kt_le;obtain ⟨u1,g1,r1⟩:=of;have nd:=P5.nd;have Us:Aq 4 _:=hr.mono (by decide);have hrf:Aq 3 _:=hr.mono (by decide);kxf_eq;refine ⟨_,AF (AZ (i:=3) nd rfl (Or.inl rfl) (AX MU Us rfl Mb k0 b0 .nil AU (AA (pv 0) (AA (Ar Ag (pv 1) AK (fun _ _=>rfl)) AC))))
   (AF (A0 (Al Gs (pv 3) AK (Av _)) (AG (AQ (Aj (AA (pv 3) AC)))) Af)
   (AF (AZ (i:=4) nd rfl (Or.inl rfl) (Ac (pv 0) T.cl m1.me Bw hrf m1.bi .nil AU (AA (Ar Ag (pv 1) AK (fun _ _=>rfl)) AC)))
   (AF (A0 (Al gB (Aa Ae (by rfl) bl PySem.boot_len (AA (pv 4) AC)) AK (Av _)) (AG (AQ (Aj (AA (Ad rfl g1 r1) AC)))) Af)
   (AF (Bt (Ac (pv 0) T.cl m2.me HH Gg m2.bi .nil AU (AA (pv 4) AC)))
   (AG (AQ (Aj (AA AK AC)))))))),?_⟩
  rw[show (6 :: [n])::([]:List (List Int))=[[6,n]]from rfl,ZH hA.ok]at q;refine ⟨_,rfl,_,rfl,ln,_,0,.int n,rfl,rfl,Ao.of Bs,rfl,h,lc,lf,as,st,n,rfl,hA,fun H0 s0=>?_⟩;have hA:=hA.same s0;have Bs:=s0 _ _ Bs;have e1:=s0 _ _ e1;have q:=fun H' p (a:After C CC H0 H' h lc lf as _) e=>q H' p (a.pre s0) e;refine ⟨_,rfl,_,_,rfl,rfl,_,rfl,?_⟩;kpt_hd
  ·have z:refusal st n 1 (-9)<0:=of_decide_eq_true z;rw[if_pos z]at q;exact ⟨_,rfl,by show 1<=sizeLine;decide,fun p hp=>q _ p (After.same hA (AJ hp)) AB⟩
  ·have z:¬ refusal st n 1 (-9)<0:=fun e=>z (decide_eq_true e);rw[if_neg z]at q;isplit;obtain ⟨i1,i2,i3,i4,i5⟩:=Ca (by decide) z;kl_no;have KQ:n=((n.toNat:Nat):Int):=by omega
   have ph:n.toNat∈st.force:=(hA.ok.st _ i3 i4).mp (by omega);refine ⟨_,rfl,h,dx,fs,rfl,e1,e5 _ m1.nm.1 m1.nm.2,_,rfl,ln,_,0,.int n,rfl,rfl,Ao.of Bs,rfl,h,lc,lf,as,st,n.toNat,by rw[<- KQ];rfl,hA,ph,fun H1 p s1 hp D3 JY gb=>?_⟩;refine ⟨_,rfl,p,_,rfl,.inl (Ao.of D3),_,_,rfl,rfl,_,rfl,?_⟩;rw[Ak];refine BG (fun y=>?_) (fun y=>?_)
   ·have y:1<(falls st n.toNat).length:=by have:=of_decide_eq_true y;omega
    rw[if_pos y]at q;exact ⟨by show 1<=sizeLine;decide,fun p2 FE=>q _ p2 (After.same hA (s1.trans (AJ FE))) AB⟩
   ·have y:¬ 1<(falls st n.toNat).length:=fun e=>y (decide_eq_true (by omega));rw[if_neg y, <- a9 y]at q;have dL:p≠lf:=fun e=>by rw[e,hA.Ep]at hp;cases hp
    refine ⟨_,rfl,h,dx,fs,rfl,s1 _ _ e1,e5 _ m2.nm.1 m2.nm.2,_,rfl,h,lc,lf,as,st,p,_,rfl,hA.same s1,D3,dL,JY,by omega,fun H2 cD dy j9 fr=>?_⟩;exact ⟨by show 1<=sizeLine;decide,fun p2 FE=>q _ p2 ((After.back s1 dy j9 fr).more (AJ FE)) AB⟩
theorem Rk:AT ["house","numbers","rows","refusal","fallen"] ["house","numbers","rows"] (AO HZ):=⟨rfl,rfl,rfl,by decide+kernel,rfl,by decide+kernel,by decide+kernel⟩
theorem cq {f C CC g f1 f2 f3:Addr}{fd gd d1 d2 d3:FuncData}(F:CB K "takeall" "takeall" HZ f fd)(T:Am K C)
  (MU:AR P w K mg base As 4 g gd ["house","number"] (Bk C CC 1 (-9))) (b0:Binds K gd ["house","number"] []) (Mb:mg "refusal_in_force"=some (.ref g)) (k0:keepIn K (.ref g)=true)
  (Bw:AR P w K mg base As 3 f1 d1 ["self","number"] (IL C CC)) (m1:MH K C "falling" f1 d1 ["self","number"])
  (HH:AR P w K mg base As 2 f2 d2 ["self","numbers"] (Jl C CC)) (m2:MH K C "put_back" f2 d2 ["self","numbers"])
  (JE:AR P w K mg base As 1 f3 d3 ["row"] BA) (b3:Binds K d3 ["row"] []) (WO:mg "with_length"=some (.ref f3)) (k3:keepIn K (.ref f3)=true):
  AR P w K mg base As 8 f fd ["house","numbers","rows"] (BQ C CC 7 1 0):=by
 refine F.ok Rk (fun vs H Q E h=>?_) (fun BM A outer s H vs Q E hr h=>?_)
 ·kt_chr;rfl
 ·kt_str;obtain ⟨n,rfl⟩:=len_one HM;obtain rfl:=A5 Ge;kt_le;have nd:=Rk.nd;have Us:Aq 4 _:=hr.mono (by decide);have hrf:Aq 3 _:=hr.mono (by decide);kxf_eq;ktn_lt;refine ⟨_,AF (AZ (i:=3) nd rfl (Or.inl rfl) (AX MU Us rfl Mb k0 b0 .nil AU (AA (pv 0) (AA (Ar Ag (pv 1) AK (fun _ _=>rfl)) AC))))
   (AF (A0 (Al Gs (pv 3) AK (Av _)) (AG (AQ (Aj (AA (pv 3) AC)))) Af)
   (AF (AZ (i:=4) nd rfl (Or.inl rfl) (Ac (pv 0) T.cl m1.me Bw hrf m1.bi .nil AU (AA (Ar Ag (pv 1) AK (fun _ _=>rfl)) AC)))
   (AF (Bt (Ac (pv 0) T.cl m2.me HH Gg m2.bi .nil AU (AA (pv 4) AC)))
   (AG (AQ (CI DP (Aj (AA AK AC)) (AX JE FD rfl WO k3 b3 .nil AU (AA (pv 4) AC)))))))),?_⟩
  rw[show (7 :: [n])::([]:List (List Int))=[[7,n]]from rfl,cT hA.ok]at q;refine ⟨_,rfl,_,rfl,ln,_,0,.int n,rfl,rfl,Ao.of Bs,rfl,h,lc,lf,as,st,n,rfl,hA,fun H0 s0=>?_⟩;have hA:=hA.same s0;have Bs:=s0 _ _ Bs;have e1:=s0 _ _ e1;have q:=fun H' p (a:After C CC H0 H' h lc lf as _) e=>q H' p (a.pre s0) e;refine ⟨_,rfl,_,_,rfl,rfl,_,rfl,?_⟩;kpt_hd
  ·have z:refusal st n 1 (-9)<0:=of_decide_eq_true z;rw[if_pos z]at q;exact ⟨_,rfl,by show 1<=sizeLine;decide,fun p hp=>q _ p (After.same hA (AJ hp)) AB⟩
  ·have z:¬ refusal st n 1 (-9)<0:=fun e=>z (decide_eq_true e);rw[if_neg z]at q;isplit;obtain ⟨i1,i2,i3,i4,i5⟩:=Ca (by decide) z;kl_no;have KQ:n=((n.toNat:Nat):Int):=by omega
   have ph:n.toNat∈st.force:=(hA.ok.st _ i3 i4).mp (by omega);refine ⟨_,rfl,h,dx,fs,rfl,e1,e5 _ m1.nm.1 m1.nm.2,_,rfl,ln,_,0,.int n,rfl,rfl,Ao.of Bs,rfl,h,lc,lf,as,st,n.toNat,by rw[<- KQ];rfl,hA,ph,fun H1 p s1 hp D3 JY gb=>?_⟩;have dL:p≠lf:=fun e=>by rw[e,hA.Ep]at hp;cases hp
   have rl:=hA.same s1;have ADN:p∉as:=fun e=>by
    obtain ⟨j,hj⟩:=getElem?_of_mem e;obtain ⟨c,_,hc⟩:=Az rl.all hj;isplit;obtain ⟨K8,la,ls,lt,GW,My,g1,_⟩:=hc.ex;kl_no;rw[D3]at g1;cases g1
   have nph:p≠h:=fun e=>by rw[e,e1]at hp;cases hp
   refine ⟨_,rfl,h,dx,fs,rfl,s1 _ _ e1,e5 _ m2.nm.1 m2.nm.2,_,rfl,h,lc,lf,as,st,p,_,rfl,rl,D3,dL,JY,by omega,fun H2 cD dy j9 fr=>?_⟩;have FE:=fr _ _ D3 nph dL ADN;refine ⟨by show 1<=sizeLine;decide,fun p3 Mj=>?_⟩;have s3:AW H2 (upd H2 p3 (.lst [V.int 0])):=AJ Mj;refine ⟨_,rfl,p,(falls st n.toNat).map fun (n:Nat)=>(n:Int),rfl,by rw[BJ];exact s3 _ _ FE,by rw[length_map];omega,fun H4 p4 s4 uk lj=>?_⟩;rw[B9]at lj;refine ⟨p3,p4,_,_,rfl,rfl,s4 _ _ AB,lj,?_,fun p6 pY=>?_⟩
   ·rw[length_map,Bz,sizeLine_eq];show 1+_<=_;omega
   ·exact q _ p6 ((After.back s1 dy j9 fr).more ((s3.trans s4).trans (AJ pY))) AB
theorem XF (s:Vbdhae.State)(n:Int):stepNumbers s [[3,n]]=if refusal s n 0 (-6)<0 then (s,[refusal s n 0 (-6)])else
  match Vbdhae.acceptAll s (rising (Vbdhae.wanted s (Vbdhae.CHANGES+1) [n.toNat]))with
  |none=>(s,[-7])
  |some t=>(t,0::listed (rising (Vbdhae.wanted s (Vbdhae.CHANGES+1) [n.toNat]))):=by
 refine Eq.trans (Et (l:= []) (n:=n) (c:= .acceptAll n.toNat) (x:= ?x) ?h1 ?h2) ?h3
 case h1=>
  unfold does;exact rfl
 case h2=>exact rfl
 rw[Er];dsimp only;generalize rising (Vbdhae.wanted s (Vbdhae.CHANGES+1) [n.toNat])=l;generalize Vbdhae.acceptAll s l=o;cases o <;> rfl
theorem W9 {s:Vbdhae.State}(ok:Mv s){n:Nat}(h1:1<=n)(h2:n<=s.changes.length):(rising (Vbdhae.wanted s (Vbdhae.CHANGES+1) [n])).Nodup/\(∀m∈rising (Vbdhae.wanted s (Vbdhae.CHANGES+1) [n]),1<=m/\m<=s.changes.length)/\(rising (Vbdhae.wanted s (Vbdhae.CHANGES+1) [n])).length<=40:=by
 have w1:=IE s (Vbdhae.CHANGES+1) [n] (by simp);have hn:(rising (Vbdhae.wanted s (Vbdhae.CHANGES+1) [n])).Nodup:=(Au _).nodup_iff.mpr w1;have hm:∀m∈rising (Vbdhae.wanted s (Vbdhae.CHANGES+1) [n]),1<=m/\m<=s.changes.length:=fun m hm=>
  Zd ok h1 h2 m (IC _ _ (fun x hx=>by simp at hx;subst hx;exact .self) m ((Au _).mem_iff.mp hm))
 refine ⟨hn,hm,?_⟩;have:=Hg (a:=1) (b:=41) hn fun x hx=>by have:=hm x hx;have:=ok.len;omega
 omega
theorem Kg {s:Vbdhae.State}:∀{l row:List Nat},CN s l row=true->∀m∈l,(changeAt s m).status=0
 | [],_,_,m,hm=>by cases hm
 |n::r,row,h,m,hm=>by
  unfold CN GK at h;rw[Bool.and_eq_true,Bool.and_eq_true,Bool.and_eq_true]at h;rcases mem_cons.mp hm with z | z
  ·subst z;exact eq_of_beq h.1.1.2
  ·exact Kg h.2 m z
theorem Tx (s:Vbdhae.State):∀(l:List Nat) (t:Vbdhae.State),(l.foldl Vbdhae.accepted t).force=t.force++l/\(l.foldl Vbdhae.accepted t).changes.length=t.changes.length
 | [],t=>by simp
 |n::r,t=>by
  rw[foldl_cons];obtain ⟨h1,h2⟩:=Tx s r (Vbdhae.accepted t n);refine ⟨by rw[h1];show t.force ++ [n]++r=_;rw[append_assoc];rfl,by rw[h2];exact DH _ _ _⟩
theorem cU (s:Vbdhae.State):stepNumbers s [[8]]=((joined s (numbers s)).1,0::listed (joined s (numbers s)).2):=rfl
theorem aZ (s:Vbdhae.State)(n:Nat)(r:List Nat)(h1:1<=n)(h2:n<=s.changes.length):joined s (n::r)=if GK s n s.force=true then ((joined (Vbdhae.accepted s n) r).1,n::(joined (Vbdhae.accepted s n) r).2)else joined s r:=by
 rw[Nz h1 h2]
 conv=>lhs;unfold joined
 by_cases z:(changeAt s n).status=0/\mayAccept s n=true
 ·rw[if_pos z,if_pos (decide_eq_true z)]
 ·rw[if_neg z,if_neg (fun e=>z (of_decide_eq_true e))]
theorem Xw (s:Vbdhae.State)(i:Nat)(h:i<s.changes.length):(numbers s).drop i=(i+1)::(numbers s).drop (i+1):=by
 refine T9 ?_;unfold numbers;rw[getElem?_map,List.getElem?_range h];rfl
theorem O9 {CH CC:Addr}{H:Hp}{h lc lf:Addr}{as:List Addr}{s:Vbdhae.State}(hA:Ab CH CC H h lc lf as s){p:Addr}{xs:List V}(hp:H p=some (.lst xs)):p∉as:=fun e=>by
 obtain ⟨j,hj⟩:=getElem?_of_mem e;obtain ⟨c,_,hc⟩:=Az hA.all hj;obtain ⟨K8,la,ls,lt,GW,My,g1,_⟩:=hc.ex;rw[hp]at g1;cases g1
theorem K0 {CH CC:Addr}{H:Hp}{h lc lf:Addr}{as:List Addr}{s:Vbdhae.State}(hA:Ab CH CC H h lc lf as s){p:Addr}{xs:List V}(hp:H p=some (.lst xs)):p≠h:=fun e=>by
 obtain ⟨dx,fs,h1,_⟩:=hA.ex;rw[e,h1]at hp;cases hp
theorem Loose.same {CH CC:Addr}{H H':Hp}{h lc lf:Addr}{as:List Addr}{s:Vbdhae.State}{p:Addr}(l:Loose CC H as p)(hA:Ab CH CC H h lc lf as s)(z:AW H H'):Loose CC H' as p:=fun a ha dx fs e=>by
 obtain ⟨j,hj⟩:=getElem?_of_mem ha;obtain ⟨cc,_,dq⟩:=Az hA.all hj;obtain ⟨K8,la',ls',lt',GW,My,y1,_⟩:=dq.ex;rw[z _ _ y1]at e;cases e;exact l a ha _ _ y1
theorem Loose.upd {CH CC:Addr}{H:Hp}{h lc lf:Addr}{as:List Addr}{s:Vbdhae.State}{p:Addr}{xs ys:List V}(l:Loose CC H as p)(hA:Ab CH CC H h lc lf as s)(hp:H p=some (.lst xs)):Loose CC (L2.upd H p (.lst ys)) as p:=fun a ha dx fs e=>by
 obtain ⟨j,hj⟩:=getElem?_of_mem ha;obtain ⟨cc,_,dq⟩:=Az hA.all hj;obtain ⟨K8,la',ls',lt',GW,My,y1,_⟩:=dq.ex;rw[AI (A7 y1 hp (by intro q;cases q)),y1]at e;cases e;exact l a ha _ _ y1
theorem Loose.fresh {CH CC:Addr}{H H':Hp}{h lc lf:Addr}{as:List Addr}{s:Vbdhae.State}{p:Addr}(hA:Ab CH CC H h lc lf as s)(zU:Ab CH CC H' h lc lf as s)(z:AW H H')(hp:H p=none):Loose CC H' as p:=fun a ha dx fs e=>by
 obtain ⟨j,hj⟩:=getElem?_of_mem ha;obtain ⟨cc,_,dq⟩:=Az hA.all hj;isplit;obtain ⟨K8,la',ls',lt',GW,My,y1,y2,y3,y4,y5,y6,y7,y8,y9,y10,_⟩:=dq.ex;kl_no;rw[z _ _ y1]at e;cases e;isplit;obtain ⟨dxe,lx,fse,j1,j2,j3,j4,j5,j6⟩:=dq.ed.ex;kl_no;rw[y1]at j1;cases j1;rw[y2,y3,y4,j3];refine ⟨fun q=>?_,fun q=>?_,fun q=>?_,fun q=>?_⟩ <;> cases q
 ·rw[y7]at hp;cases hp
 ·rw[y9]at hp;cases hp
 ·rw[y10]at hp;cases hp
 ·rw[j4]at hp;cases hp
theorem Ab.wr {CH CC:Addr}{H:Hp}{h lc lf:Addr}{as:List Addr}{s:Vbdhae.State}{p:Addr}{xs ys:List V}(hA:Ab CH CC H h lc lf as s)(hp:H p=some (.lst xs))(n1:p≠lc)(n2:p≠lf)(l:Loose CC H as p):Ab CH CC (upd H p (.lst ys)) h lc lf as s:=by
 isplit;obtain ⟨dx,fs,e1,e2⟩:=hA.ex;kl_no;have nph:=K0 hA hp;have k:∀b o,H b=some o->b≠p->(L2.upd H p (.lst ys)) b=some o:=fun b o e n=>by rw[AI n];exact e
 refine ⟨⟨dx,fs,k _ _ e1 nph.symm,e2⟩,hA.ne,k _ _ hA.Gf n1.symm,k _ _ hA.Ep n2.symm,hA.nd,EL hA.all fun i a c ha q=>?_,hA.ok⟩;have ham:a∈as:=mem_of_getElem? ha;isplit;obtain ⟨Hq,la,ls,lt,IB,asc,g1,g2,g3,g4,g5,g6,g7,g8,g9,yX,zW,g12,g13⟩:=q.ex;kl_no;isplit;obtain ⟨l1,l2,l3,l4⟩:=l a ham _ _ g1;kl_no;have nn:∀{b:Addr},b∉ [lc,lf]->b≠p->b∉ [lc,lf,p]:=fun {b} h1 h2 z=>by
  rcases mem_cons.mp z with y | y
  ·exact h1 (by rw[y];simp)
  ·rcases mem_cons.mp y with y | y
   ·exact h1 (by rw[y];simp)
   ·simp at y;exact h2 y
 have q1:An CC H [lc,lf,p] a c:=⟨q.rw,⟨Hq,la,ls,lt,IB,asc,g1,g2,g3,g4,g5,g6,g7,g8,g9,yX,nn zW (fun z=>l1 (by rw[g2,z])),nn g12 (fun z=>l2 (by rw[g3,z])),nn g13 (fun z=>l3 (by rw[g4,z]))⟩,q.ok,q.len,q.kn,by
  isplit;obtain ⟨dxe,lx,fse,j1,j2,j3,j4,j5,j6⟩:=q.ed.ex;kl_no;have j1':=j1;rw[g1]at j1';cases j1';exact ⟨Hq,lx,IB,j1,j2,j3,j4,nn j5 (fun z=>l4 (by rw[j3,z])),j6⟩⟩
 have wI:a≠h:=fun z=>by
  subst z;rw[e1]at g1;cases g1;have hk:=e2.2.2.2 "condition" (by decide+kernel) (by decide+kernel);rw[g5]at hk;cases hk
 have ay:∀y∈ [lc,lf,p], ∃zs,H y=some (.lst zs):=fun y hy=>by
  rcases mem_cons.mp hy with z | z
  ·subst z;exact ⟨_,hA.Gf⟩
  ·rcases mem_cons.mp z with z | z
   ·subst z;exact ⟨_,hA.Ep⟩
   ·simp at z;subst z;exact ⟨_,hp⟩
 exact (q1.keep e1 ay (fun b o e m1 m2=>k b o e fun z=>m2 (by rw[z];simp)) wI).AC4 fun b zs e m z=>m (by
  rcases mem_cons.mp z with y | y
  ·rw[y];simp
  ·simp at y;rw[y];simp)
theorem Frame.trans {H H1 H2:Hp}{h lf:Addr}{as:List Addr}(a:Frame H H1 h lf as)(b:Frame H1 H2 h lf as):Frame H H2 h lf as:=fun x o e n1 n2 n3=>b x o (a x o e n1 n2 n3) n1 n2 n3
theorem Frame.of {H H1:Hp}{h lf:Addr}{as:List Addr}(s:AW H H1):Frame H H1 h lf as:=fun x o e _ _ _=>s x o e
theorem NN:AT ["house","numbers","rows","refusal","together","number"] ["house","numbers","rows"] (AO E7):=⟨rfl,rfl,rfl,by decide+kernel,rfl,by decide+kernel,by decide+kernel⟩
theorem Xp {f C CC g f1 f2 f3 f4:Addr}{fd gd d1 d2 d3 d4:FuncData}(F:CB K "acceptall" "acceptall" E7 f fd)(T:Am K C)(cl:Gv mg "CLASHING" (.int (-7)))
  (MU:AR P w K mg base As 4 g gd ["house","number"] (Bk C CC 0 (-6))) (b0:Binds K gd ["house","number"] []) (Mb:mg "refusal_of_draft"=some (.ref g)) (k0:keepIn K (.ref g)=true)
  (Bw:AR P w K mg base As 5 f1 d1 ["self","number"] (Gk C CC)) (m1:MH K C "lacking_in_all" f1 d1 ["self","number"])
  (HH:AR P w K mg base As 6 f2 d2 ["self","numbers"] (EY C CC)) (m2:MH K C "can_accept_in_turn" f2 d2 ["self","numbers"])
  (JE:AR P w K mg base As 2 f3 d3 ["self","number"] (DV C CC)) (m3:MH K C "put_in_force" f3 d3 ["self","number"])
  (oQ:AR P w K mg base As 1 f4 d4 ["row"] BA) (b4:Binds K d4 ["row"] []) (xg:mg "with_length"=some (.ref f4)) (k4:keepIn K (.ref f4)=true):
  AR P w K mg base As 8 f fd ["house","numbers","rows"] (BQ C CC 3 1 0):=by
 refine F.ok NN (fun vs H Q E h=>?_) (fun BM A outer s H vs Q E hr h=>?_)
 ·kt_chr;rfl
 ·kt_str;obtain ⟨n,rfl⟩:=len_one HM;obtain rfl:=A5 Ge;kt_le;obtain ⟨u1,g1,r1⟩:=cl;have nd:=NN.nd;have VH:Aq 5 _:=hr.mono (by decide);have Us:Aq 4 _:=hr.mono (by decide);have wR:Aq 6 _:=hr.mono (by decide);kxf_eq;ktn_lt;refine ⟨_,AF (AZ (i:=3) nd rfl (Or.inl rfl) (AX MU Us rfl Mb k0 b0 .nil AU (AA (pv 0) (AA (Ar Ag (pv 1) AK (fun _ _=>rfl)) AC))))
   (AF (A0 (Al Gs (pv 3) AK (Av _)) (AG (AQ (Aj (AA (pv 3) AC)))) Af)
   (AF (AZ (i:=4) nd rfl (Or.inl rfl) (Ac (pv 0) T.cl m1.me Bw VH m1.bi .nil AU (AA (Ar Ag (pv 1) AK (fun _ _=>rfl)) AC)))
   (AF (A0 (EJ (CD (Ac (pv 0) T.cl m2.me HH wR m2.bi .nil AU (AA (pv 4) AC)))) (AG (AQ (Aj (AA (Ad rfl g1 r1) AC)))) Af)
   (AF (Du PassesOwn.never rfl (BF (pv 4)) (A2 (i:=5) nd rfl (Or.inl rfl)) (AG (Bt (Ac (pv 0) T.cl m3.me JE Gg m3.bi .nil AU (AA (pv 5) AC)))))
   (AG (AQ (CI DP (Aj (AA AK AC)) (AX oQ FD rfl xg k4 b4 .nil AU (AA (pv 4) AC))))))))),?_⟩
  rw[show (3 :: [n])::([]:List (List Int))=[[3,n]]from rfl,XF]at q;refine ⟨_,rfl,_,rfl,ln,_,0,.int n,rfl,rfl,Ao.of Bs,rfl,h,lc,lf,as,st,n,rfl,hA,fun H0 s0=>?_⟩;have hA:=hA.same s0;have Bs:=s0 _ _ Bs;have e1:=s0 _ _ e1;have q:=fun H' p (a:After C CC H0 H' h lc lf as _) e=>q H' p (a.pre s0) e;refine ⟨_,rfl,_,_,rfl,rfl,_,rfl,?_⟩;kpt_hd
  ·have z:refusal st n 0 (-6)<0:=of_decide_eq_true z;rw[if_pos z]at q;exact ⟨_,rfl,by show 1<=sizeLine;decide,fun p hp=>q _ p (After.same hA (AJ hp)) AB⟩
  ·have z:¬ refusal st n 0 (-6)<0:=fun e=>z (decide_eq_true e);rw[if_neg z]at q;isplit;obtain ⟨i1,i2,i3,i4,i5⟩:=Ca (by decide) z;kl_no;have KQ:n=((n.toNat:Nat):Int):=by omega
   obtain ⟨f1,f2,f3⟩:=W9 hA.ok i3 i4;rw[Kl _ _ f2 f1]at q;refine ⟨_,rfl,h,dx,fs,rfl,e1,e5 _ m1.nm.1 m1.nm.2,_,rfl,ln,_,0,.int n,rfl,rfl,Ao.of Bs,rfl,h,lc,lf,as,st,n.toNat,by rw[<- KQ];rfl,hA,i3,i4,fun H1 p s1 hp D3=>?_⟩;generalize rising (Vbdhae.wanted st (Vbdhae.CHANGES+1) [n.toNat])=l at q f1 f2 f3 D3;refine ⟨_,rfl,h,dx,fs,rfl,s1 _ _ e1,e5 _ m2.nm.1 m2.nm.2,_,rfl,h,lc,lf,as,st,p,l,rfl,hA.same s1,D3,f2,by omega,fun H2 s2=>⟨_,rfl,?_⟩⟩;have QB:=s1.trans s2;cases ct:CN st l st.force with
   |false=>
    rw[ct,if_neg (by decide)]at q;exact CJ ⟨by show 1<=sizeLine;decide,fun p2 FE=>q _ p2 (After.same hA (QB.trans (AJ FE))) AB⟩
   |true=>
    rw[ct,if_pos rfl]at q;refine B1 ?_;have FE:=s2 _ _ D3;have dy:=hA.same QB;have dL:p≠lf:=fun e=>by rw[e,hA.Ep]at hp;cases hp
    refine ⟨_,rfl,p,rfl,⟨_,Ao.of FE⟩,Ch (K:=K) (a:=p) (xs:=AY l) (fun i σ H'=>∃va:Option V,σ=[some (.ref h),some (.ref ln),some (.ref lr),some (.int (refusal st n 0 (-6))),some (.ref p),va]/\Ab C CC H' h lc lf as ((l.take i).foldl Vbdhae.accepted st)/\Frame H2 H' h lf as)
     ⟨none,rfl,dy,Frame.of (AW.refl _)⟩ ?_ ?_ ?_⟩
    ·intro i σ H' _ zz;isplit;obtain ⟨va,rfl,w1,w2⟩:=zz;kl_no;exact Ao.of (w2 _ _ FE (K0 dy FE) dL (O9 dy FE))
    ·intro i x σ H' hx zz;isplit;obtain ⟨va,rfl,w1,w2⟩:=zz;kl_no;obtain ⟨m,hm,rfl⟩:=Bv hx;have yK:m∈l:=mem_of_getElem? hm;isplit;obtain ⟨K8,GW,a1,a2,a3,a4,a5⟩:=w1.ex;kl_no;obtain ⟨ff,fl⟩:=Tx st (l.take i) st;refine ⟨_,rfl,h,K8,GW,rfl,a1,a5 _ m3.nm.1 m3.nm.2,_,rfl,h,lc,lf,as,_,m,rfl,w1,(f2 m yK).1,by rw[fl];exact (f2 m yK).2,?_,fun H3 w3 w4 _=>?_⟩
     ·rw[ff];intro z;rcases mem_append.mp z with y | y
      ·exact Fs hA.ok (f2 m yK).1 (f2 m yK).2 (by rw[Kg ct m yK];rfl) y
      ·obtain ⟨j,hj⟩:=getElem?_of_mem y;have hji:j<i:=by
        have:=(List.getElem?_eq_some_iff.mp hj).1;rw[length_take]at this;omega
       rw[getElem?_take_of_lt hji]at hj;have:=gJ f1 hj hm;omega
     ·refine ⟨_,rfl,?_,w2.trans w4⟩;rw[Ay hm,foldl_append];exact w3
    ·intro σ H' zz;isplit;obtain ⟨va,rfl,w1,w2⟩:=zz;kl_no;rw[Ak,take_length]at w1;have Mj:=w2 _ _ FE (K0 dy FE) dL (O9 dy FE);refine ⟨by show 1<=sizeLine;decide,fun p3 uk=>?_⟩;have s3:AW H' (upd H' p3 (.lst [V.int 0])):=AJ uk;refine ⟨_,rfl,p,l.map fun (n:Nat)=>(n:Int),rfl,by rw[BJ];exact s3 _ _ Mj,by rw[length_map];omega,fun H4 p4 s4 lj pY=>?_⟩;rw[B9]at pY;refine ⟨p3,p4,_,_,rfl,rfl,s4 _ _ AB,pY,?_,fun p6 uj=>?_⟩
     ·rw[length_map,Bz,sizeLine_eq];show 1+_<=_;omega
     ·exact q _ p6 ((After.of (H:=H0) w1 fun b o e n1 n2 n3=>w2 b o (QB _ _ e) n1 n2 n3).more ((s3.trans s4).trans (AJ uj))) AB
theorem Rp:AT ["house","numbers","rows","accepted","number"] ["house","numbers","rows"] (AO Ha):=⟨rfl,rfl,rfl,by decide+kernel,rfl,by decide+kernel,by decide+kernel⟩
theorem cx {f C CC f2 f3 f4:Addr}{fd d2 d3 d4:FuncData}(F:CB K "joinall" "joinall" Ha f fd)(T:Am K C)(bl:mg "len"=none)(br:mg "range"=none)
  (HH:AR P w K mg base As 5 f2 d2 ["self","number","row"] (G6 C CC)) (m2:MH K C "can_accept" f2 d2 ["self","number","row"])
  (JE:AR P w K mg base As 2 f3 d3 ["self","number"] (DV C CC)) (m3:MH K C "put_in_force" f3 d3 ["self","number"])
  (oQ:AR P w K mg base As 1 f4 d4 ["row"] BA) (b4:Binds K d4 ["row"] []) (xg:mg "with_length"=some (.ref f4)) (k4:keepIn K (.ref f4)=true):
  AR P w K mg base As 8 f fd ["house","numbers","rows"] (BQ C CC 8 0 0):=by
 refine F.ok Rp (fun vs H Q E h=>?_) (fun BM A outer s H vs Q E hr h=>?_)
 ·kt_chr;rfl
 ·kt_str;obtain rfl:=A5 HM;obtain rfl:=A5 Ge;kt_le;have nd:=Rp.nd;have VH:Aq 5 _:=hr.mono (by decide);kxf_eq;ktn_lt;refine ⟨_,AF (AZ (i:=3) nd rfl (Or.inl rfl) (Aj AC))
   (AF (Du PassesOwn.never rfl (WB rfl br (AA AK (AA (CI Sd (Aa Ae (by rfl) bl PySem.boot_len (AA (Ap (pv 0) rfl) AC)) AK) AC))) (A2 (i:=4) nd rfl (Or.inl rfl))
    (AG (A0 (CD (Ac (pv 0) T.cl m2.me HH VH m2.bi .nil AU (AA (pv 4) (AA (Ap (pv 0) rfl) AC))))
     (AF (Bt (Ac (pv 0) T.cl m3.me JE Gg m3.bi .nil AU (AA (pv 4) AC)))
     (AG (Bt (JD plainAttrs_list PySem.F.slot_list_append PySem.F.type_list_append D8 (pv 3) (AA (pv 4) AC))))) Af)))
   (AG (AQ (CI DP (Aj (AA AK AC)) (AX oQ FD rfl xg k4 b4 .nil AU (AA (pv 3) AC)))))),?_⟩
  rw[show (8::([]:List Int))::([]:List (List Int))=[[8]]from rfl,cU]at q;refine ⟨zero_le _,fun pa aj=>?_⟩;have s1:AW H (upd H pa (.lst [])):=AJ aj;have ui:(upd H pa (.lst [])) pa=some (.lst (AY [])):=AB;generalize upd H pa (.lst [])=H1 at s1 ui;have rl:=hA.same s1;have hlen:=hA.ok.len;have wD:pa≠lf:=fun e=>by rw[e,hA.Ep]at aj;cases aj
  have ADO:=K0 rl ui;have AAW:pa≠lc:=fun e=>by rw[e,hA.Gf]at aj;cases aj
  have AAX:=O9 rl ui;refine ⟨_,rfl,h,C,dx,fs,_,rfl,s1 _ _ e1,T.cl,T.nC,e2,lc,_,rfl,.inl (Ao.of rl.Gf),_,_,rfl,rfl,1,_,rfl,⟨by omega,by omega,?_,?_⟩,?_⟩
  ·rw[length_map,hA.len];omega
  ·rw[length_map,hA.len];omega
  rw[length_map,hA.len,show ((st.changes.length:Int)+1 - 1).toNat=st.changes.length by omega];refine Wm (lo:=1) (n:=st.changes.length) (fun i σ H'=>∃(va:Option V) (t:Vbdhae.State) (acc:List Nat),σ=[some (.ref h),some (.ref ln),some (.ref lr),some (.ref pa),va]/\Ab C CC H' h lc lf as t/\(∀b o,H b=some o->b≠h->b≠lf->b∉as->H' b=some o)/\H' pa=some (.lst (AY acc))/\Loose CC H' as pa/\
    acc.length<=i/\t.changes.length=st.changes.length/\(joined st (numbers st)).1=(joined t ((numbers st).drop i)).1/\(joined st (numbers st)).2=acc++(joined t ((numbers st).drop i)).2)
   ⟨none,st,[],rfl,rl,fun b o e _ _ _=>s1 b o e,ui,Loose.fresh hA rl s1 aj,by simp,rfl,rfl,rfl⟩ ?_ ?_
  ·intro i σ H' hi zz;isplit;obtain ⟨va,t,acc,rfl,w1,w2,w3,wL,w4,w5,w6,w7⟩:=zz;kl_no;have hn:(1:Int)+(i:Int)=((i+1:Nat):Int):=by omega
   rw[Xw st i hi,aZ t (i+1) _ (by omega) (by omega)]at w6 w7;isplit;obtain ⟨K8,GW,a1,a2,a3,a4,a5⟩:=w1.ex;kl_no;have gb:=w1.ok.B4;rw[hn];refine ⟨_,rfl,h,K8,GW,rfl,a1,a5 _ m2.nm.1 m2.nm.2,_,rfl,_,rfl,h,C,K8,GW,_,rfl,a1,T.cl,T.nF,a3,h,lc,lf,as,t,i+1,lf,t.force,rfl,w1,by omega,by omega,w1.Ep,w1.ok.Ur,by omega,fun H2 s2=>⟨_,rfl,?_⟩⟩;cases em:GK t (i+1) t.force with
   |false=>
    rw[em,if_neg (by decide)]at w6 w7;refine B1 ?_;exact ⟨_,t,acc,rfl,w1.same s2,fun b o e n1 n2 n3=>s2 _ _ (w2 b o e n1 n2 n3),s2 _ _ w3,wL.same w1 s2,by omega,w5,w6,w7⟩
   |true=>
    rw[em,if_pos rfl]at w6 w7;refine CJ ?_;have hds:(changeAt t (i+1)).status=0:=by
     unfold GK at em;rw[Bool.and_eq_true,Bool.and_eq_true]at em;exact eq_of_beq em.1.2
    have w1':=w1.same s2;refine ⟨_,rfl,h,K8,GW,rfl,s2 _ _ a1,a5 _ m3.nm.1 m3.nm.2,_,rfl,h,lc,lf,as,t,i+1,rfl,w1',by omega,by omega,Fs w1.ok (by omega) (by omega) (by rw[hds];rfl),fun H3 w8 w9 w10=>?_⟩;have dm:=w9 _ _ (s2 _ _ w3) ADO wD AAX;refine ⟨_,rfl,.inl ⟨rfl,_,Ao.of dm⟩,_,rfl,pa,_,_,rfl,rfl,dm,?_,?_⟩
    ·rw[Ak,sizeLine_eq];omega
    have w8':Ab C CC (upd H3 pa (.lst (AY acc ++ [V.int ((i+1:Nat):Int)]))) h lc lf as (Vbdhae.accepted t (i+1)):=by
     exact w8.wr dm AAW wD (w10 _ (wL.same w1 s2))
    refine ⟨_,Vbdhae.accepted t (i+1),acc ++ [i+1],rfl,w8',fun b o e n1 n2 n3=>?_,?_,(w10 _ (wL.same w1 s2)).upd w8 dm,?_,?_,w6,?_⟩
    ·rw[AI (AH e aj)];exact w9 b o (s2 _ _ (w2 b o e n1 n2 n3)) n1 n2 n3
    ·rw[AB, <- Cd];rfl
    ·rw[length_append];show acc.length+1<=_;omega
    ·rw[<- w5];exact DH _ _ _
    ·rw[w7,append_assoc];rfl
  ·intro σ H' zz;isplit;obtain ⟨va,t,acc,rfl,w1,w2,w3,wL,w4,w5,w6,w7⟩:=zz;kl_no;have zR:(numbers st).drop st.changes.length=[]:=List.drop_eq_nil_of_le (by unfold numbers;simp);rw[zR]at w6 w7;have w6:(joined st (numbers st)).1=t:=w6;have w7:(joined st (numbers st)).2=acc:=by rw[w7];show acc ++ []=acc;simp
   rw[w6,w7]at q;refine ⟨by show 1<=sizeLine;decide,fun p3 uk=>?_⟩;have s3:AW H' (upd H' p3 (.lst [V.int 0])):=AJ uk;refine ⟨_,rfl,pa,acc.map fun (n:Nat)=>(n:Int),rfl,by rw[BJ];exact s3 _ _ w3,by rw[length_map];omega,fun H4 p4 s4 lj pY=>?_⟩;rw[B9]at pY;refine ⟨p3,p4,_,_,rfl,rfl,s4 _ _ AB,pY,?_,fun p6 uj=>?_⟩
   ·rw[length_map,Bz,sizeLine_eq];show 1+_<=_;omega
   ·exact q _ p6 ((After.of (H:=H) w1 w2).more ((s3.trans s4).trans (AJ uj))) AB
theorem QN {t:List Int}(h:isText t=true):t.length<=600/\t.map V.int=(nats t).map fun (b:Nat)=>V.int (b:Int):=by
 unfold isText at h;rw[Bool.and_eq_true,decide_eq_true_eq,all_eq_true]at h;refine ⟨h.1,?_⟩;unfold nats;rw[map_map];refine map_congr_left fun x hx=>?_;have:=h.2 x hx;unfold inside at this;rw[Bool.and_eq_true,decide_eq_true_eq,decide_eq_true_eq]at this;show V.int x=V.int ((x.toNat:Nat):Int)
 congr 1
 omega
theorem nD (s:Vbdhae.State)(t:List Int):stepNumbers s [[1],t]=if isText t=true then (match readOps (nats t)with
  | .error i=>(s,[0,1,(i:Int)])
  | .ok l=>(s,[0,0,(l.length:Int)]))else (s,[-1]):=by
 show (match Vbdhae.guard (isText t) (.check t)with | none=>(s,[-1]) | some x=>Vbdhae.step s x)=_;unfold Vbdhae.guard;by_cases h:isText t=true
 ·rw[if_pos h,if_pos h];show Vbdhae.step s (.check t)=_;unfold Vbdhae.step does;dsimp only;generalize readOps (nats t)=o;cases o <;> rfl
 ·rw[if_neg h,if_neg h]
theorem mt (s:Vbdhae.State)(e f:Int):stepNumbers s [[9,e,f]]=if (isE e&&isF f)=true then (s,0::(valueOf (values s) (10*e.toNat+f.toNat)).map Vbdhae.nat)else (s,[-1]):=by
 show (match Vbdhae.guard (isE e&&isF f) (.value e.toNat f.toNat)with | none=>(s,[-1]) | some x=>Vbdhae.step s x)=_;unfold Vbdhae.guard;by_cases h:(isE e&&isF f)=true
 ·rw[if_pos h,if_pos h];rfl
 ·rw[if_neg h,if_neg h]
theorem iu (s:Vbdhae.State):stepNumbers s [[10]]=(s,0::thingsTold (values s)):=rfl
theorem ZX:AT ["house","numbers","rows","read"] ["house","numbers","rows"] (AO NX):=⟨rfl,rfl,rfl,by decide+kernel,rfl,by decide+kernel,by decide+kernel⟩
theorem oP {f C CC CR g f1:Addr}{fd gd d1:FuncData}(F:CB K "check" "check" NX f fd)(T:Hw K mg CR)(bl:mg "len"=none)(oC:Gv mg "OUT_OF_RANGE" (.int (-1)))
  (MU:AR P w K mg base As 2 g gd ["row"] MG) (b0:Binds K gd ["row"] []) (Mb:mg "is_text"=some (.ref g)) (k0:keepIn K (.ref g)=true)
  (Bw:AR P w K mg base As 4 f1 d1 ["text"] (IJ K CR)) (b1:Binds K d1 ["text"] []) (Uq:mg "read_text"=some (.ref f1)) (k1:keepIn K (.ref f1)=true):
  AR P w K mg base As 8 f fd ["house","numbers","rows"] (BQ C CC 1 0 1):=by
 refine F.ok ZX (fun vs H Q E h=>?_) (fun BM A outer s H vs Q E hr h=>?_)
 ·kt_chr;rfl
 ·kt_str;obtain rfl:=A5 HM;obtain ⟨t,rfl⟩:=len_one Ge;cases Qt with
  |cons hra pd=>
  cases pd;rename_i ra;isplit;obtain ⟨ha,hz,na1,na2⟩:=hra;kl_no;have nd:=ZX.nd;obtain ⟨u1,g1,r1⟩:=oC;have VH:Aq 4 _:=hr.mono (by decide);kxf_eq;refine ⟨_,AF (A0 (EJ (CD (AX MU Gg rfl Mb k0 b0 .nil AU (AA (Ar Ag (pv 2) AK (fun _ _=>rfl)) AC)))) (AG (AQ (Aj (AA (Ad rfl g1 r1) AC)))) Af)
   (AF (AZ (i:=3) nd rfl (Or.inl rfl) (AX Bw VH rfl Uq k1 b1 .nil AU (AA (Ar Ag (pv 2) AK (fun _ _=>rfl)) AC)))
   (AF (A0 (Al gB (Ap (pv 3) rfl) AK (Av _)) (AG (AQ (Aj (AA AK (AA AK (AA (Ap (pv 3) rfl) AC)))))) Af)
   (AG (AQ (Aj (AA AK (AA AK (AA (Aa Ae (by rfl) bl PySem.boot_len (AA (Ap (pv 3) rfl) AC)) AC)))))))),?_⟩
  rw[show (1 :: []) :: [t]=[[1],t]from rfl,nD]at q;refine ⟨_,rfl,lr,_,0,.ref ra,rfl,rfl,Ao.of HS,rfl,ra,t,rfl,ha,by omega,fun H1 s1=>⟨_,rfl,?_⟩⟩;cases e:isText t with
  |false=>
   rw[e,if_neg (by decide)]at q;refine CJ ⟨by show 1<=sizeLine;decide,fun p hp=>q _ p (After.same hA (s1.trans (AJ hp))) AB⟩
  |true=>
   rw[e,if_pos rfl]at q;obtain ⟨i1,i2⟩:=QN e;refine B1 ?_;refine ⟨_,rfl,lr,_,0,.ref ra,rfl,rfl,Ao.of (s1 _ _ HS),rfl,ra,nats t,rfl,by rw[<- i2];exact Ao.of (s1 _ _ ha),by unfold nats;rw[length_map];omega,fun H2 r s2 hR=>?_⟩;isplit;obtain ⟨dx,la,My,ops,n,x1,x2,x3,x4,x5,x6,x7,x8⟩:=hR.ex;kl_no;refine ⟨_,rfl,r,CR,dx,_,_,rfl,x4,T.cl,T.nW,R1 _ _,n,0,rfl,rfl,_,rfl,?_⟩;rcases x8 with ⟨y1,y2⟩ | ⟨y1,y2⟩
   ·subst y2;rw[y1]at q;refine B1 ?_;refine ⟨_,rfl,r,CR,dx,_,_,rfl,x4,T.cl,T.nA,fh _ _,la,_,rfl,.inl (Ao.of x5),by show 3<=sizeLine;decide,fun p hp=>?_⟩;have hl:My.length=ops.length:=x6.length;rw[length_map,hl];exact q _ p (After.same hA (s1.trans (s2.trans (AJ hp)))) AB
   ·rw[y1]at q;have z:decide ((0:Int)<n)=true:=decide_eq_true (by omega);refine BG (fun _=>?_) (fun z'=>absurd z z');refine ⟨_,rfl,r,CR,dx,_,_,rfl,x4,T.cl,T.nW,R1 _ _,by show 3<=sizeLine;decide,fun p hp=>?_⟩;rw[y2];exact q _ p (After.same hA (s1.trans (s2.trans (AJ hp)))) AB
theorem RT {l:List Int}(h:l.length=2):∃n m,l=[n,m]:=by
 match l,h with
 | [n,m],_=>exact ⟨n,m,rfl⟩
theorem key_is {n m:Int}(h:(isE n&&isF m)=true):Aw (10*n.toNat+m.toNat)/\ [V.int n,V.int m]=(A8 (10*n.toNat+m.toNat)).map kV:=by
 have eE:isE n=(decide (1<=n)&&decide (n<=20)):=rfl;have eF:isF m=(decide (1<=m)&&decide (m<=9)):=rfl;rw[eE,eF]at h;simp only[Bool.and_eq_true,decide_eq_true_eq]at h;refine ⟨.mk (by omega),?_⟩;have h1:(10*n.toNat+m.toNat) / 10=n.toNat:=by omega
 have h2:(10*n.toNat+m.toNat) % 10=m.toNat:=by omega
 unfold A8;rw[h1,h2];show _=[V.int ((n.toNat:Nat):Int),V.int ((m.toNat:Nat):Int)];rw[Int.toNat_of_nonneg (by omega),Int.toNat_of_nonneg (by omega)]
theorem ZM:AT ["house","numbers","rows"] ["house","numbers","rows"] (AO NQ):=⟨rfl,rfl,rfl,by decide+kernel,rfl,by decide+kernel,by decide+kernel⟩
theorem oF {f C CC g f1 f2:Addr}{fd gd d1 d2:FuncData}(F:CB K "value" "value" NQ f fd)(T:Am K C)(oC:Gv mg "OUT_OF_RANGE" (.int (-1)))
  (MU:AR P w K mg base As 1 g gd ["word"] Ji) (b0:Binds K gd ["word"] []) (Mb:mg "signs_of"=some (.ref g)) (k0:keepIn K (.ref g)=true)
  (Bw:AR P w K mg base As 5 f1 d1 ["self"] (CQ C CC)) (m1:MH K C "held_values" f1 d1 ["self"])
  (HH:AR P w K mg base As 1 f2 d2 ["entry","field"] Jm) (b2:Binds K d2 ["entry","field"] []) (ol:mg "is_thing"=some (.ref f2)) (k2:keepIn K (.ref f2)=true):
  AR P w K mg base As 8 f fd ["house","numbers","rows"] (BQ C CC 9 2 0):=by
 refine F.ok ZM (fun vs H Q E h=>?_) (fun BM A outer s H vs Q E hr h=>?_)
 ·kt_chr;rfl
 ·kt_str;obtain ⟨n,m,rfl⟩:=RT HM;obtain rfl:=A5 Ge;kt_le;have nd:=ZM.nd;have hu:=N7 hr;obtain ⟨u1,g1,r1⟩:=oC;have cE:Aq 5 _:=hr.mono (by decide);ktn_lt;refine ⟨_,AF (A0 (EJ (CD (AX HH FD rfl ol k2 b2 .nil AU (AA (Ar Ag (pv 1) AK (fun _ _=>rfl)) (AA (Ar Ag (pv 1) AK (fun _ _=>rfl)) AC))))) (AG (AQ (Aj (AA (Ad rfl g1 r1) AC)))) Af)
   (AG (AQ (CI DP (Aj (AA AK AC)) (AX MU FD rfl Mb k0 b0 .nil AU (AA (EK hu (C8 (pv 0) T.cl m1.me Bw cE m1.bi .nil AU) (SM (AA (Ar Ag (pv 1) AK (fun _ _=>rfl)) (AA (Ar Ag (pv 1) AK (fun _ _=>rfl)) AC))) Bl ⟨rfl,rfl,rfl,rfl⟩) AC))))),?_⟩
  rw[show (9 :: [n,m])::([]:List (List Int))=[[9,n,m]]from rfl,mt]at q;refine ⟨_,rfl,ln,_,0,.int n,rfl,rfl,Ao.of Bs,rfl,_,rfl,ln,_,1,.int m,rfl,rfl,Ao.of Bs,rfl,n,m,rfl,_,rfl,?_⟩;cases z:(isE n&&isF m)with
  |false=>
   rw[z,if_neg (by decide)]at q;exact CJ ⟨by show 1<=sizeLine;decide,fun p hp=>q _ p (After.same hA (AJ hp)) AB⟩
  |true=>
   rw[z,if_pos rfl]at q;refine B1 ?_;obtain ⟨hc,Ti⟩:=key_is z;generalize 10*n.toNat+m.toNat=c at q hc Ti;refine ⟨by show 1<=sizeLine;decide,fun p hp=>?_⟩;have s0:AW H (upd H p (.lst [V.int 0])):=AJ hp;refine ⟨_,rfl,h,dx,fs,rfl,s0 _ _ e1,e5 _ m1.nm.1 m1.nm.2,h,lc,lf,as,st,rfl,hA.same s0,fun H1 d s1 hd=>?_⟩;obtain ⟨AV,hk,hh⟩:=hd;have ABA:=s1 _ _ (s0 _ _ Bs);refine ⟨d,rfl,.inr ⟨AV,.inl hk⟩,_,rfl,ln,_,0,.int n,rfl,rfl,Ao.of ABA,rfl,_,rfl,ln,_,1,.int m,rfl,rfl,Ao.of ABA,rfl,by show 2<=sizeLine;decide,fun b hb=>?_⟩;have s2:AW H1 (upd H1 b (.tup [.int n,.int m])):=AJ hb;refine ⟨_,IA.t (k:=A8 c) (s2 _ _ hk) (by rw[<- Ti];exact AB),?_⟩;rw[hh.get hc];have hs:=Bu hh.ok c;refine ⟨_,rfl,by omega,fun H3 p3 s3 n3 e3=>?_⟩;refine ⟨p,p3,_,_,rfl,rfl,s3 _ _ (s2 _ _ (s1 _ _ AB)),e3,?_,fun p4 n4=>?_⟩
   ·rw[Ak,sizeLine_eq];show 1+_<=_;omega
   ·refine q _ p4 (After.same hA (s0.trans (s1.trans (s2.trans (s3.trans (AJ n4)))))) ?_;rw[AB];show _=some (HO.lst (V.int 0::((valueOf (values st) c).map Vbdhae.nat).map V.int));rw[map_map];rfl
theorem jZ:Mv (⟨[],[]⟩:Vbdhae.State):=⟨by simp,by simp,by simp,fun n h1 h2=>by simp at h2;omega,by simp⟩
def La (C CC:Addr):Sp:=fun vs H Q _=>∃(p dx:Addr),vs=[.ref p]/\H p=some (.ins C dx [])/\
 ∀(H':Hp) (lc lf:Addr),Ab C CC H' p lc lf [] ⟨[],[]⟩->H lc=none->H lf=none->(∀b o,H b=some o->b≠p->H' b=some o)->Q .Bo H'
theorem U2:AT ["self"] ["self"] (AO IQ):=⟨rfl,rfl,rfl,by decide+kernel,rfl,by decide+kernel,by decide+kernel⟩
theorem yP (a b:Addr):BX "in_force" (.ref b) (BX "changes" (.ref a) [])=[(("changes":Str),V.ref a),("in_force",.ref b)]:=by
 show (if ("changes":Str)="in_force" then _ else _)=_;rw[if_neg (by decide+kernel)];rfl
theorem U8 {f C CC:Addr}{fd:FuncData}(F:CB K "__init__" "House.__init__" IQ f fd)(T:Am K C):AR P w K mg base As 1 f fd ["self"] (La C CC):=by
 refine F.ok U2 (fun vs H Q E h=>?_) (fun BM A outer s H vs Q E hr h=>?_)
 ·obtain ⟨p,dx,rfl,_⟩:=h;rfl
 ·obtain ⟨p,dx,rfl,hp,k⟩:=h;refine ⟨_,AF (CV (pv 0) (Aj AC) rfl) (AG (CV (pv 0) (Aj AC) rfl)),?_⟩;refine ⟨by show 0<=sizeLine;decide,fun a ha=>?_⟩;have nap:a≠p:=fun e=>by rw[e,hp]at ha;cases ha
  have s1:AW H (upd H a (.lst [])):=AJ ha;refine ⟨_,rfl,p,C,dx,[],rfl,s1 _ _ hp,T.cl,T.nC,(by show 0<1000;decide),?_⟩;refine ⟨by show 0<=sizeLine;decide,fun b hb=>?_⟩;have nbp:b≠p:=fun e=>by rw[e,AB]at hb;cases hb
  have nba:b≠a:=fun e=>by rw[e,AI nap,AB]at hb;cases hb
  have hbH:H b=none:=by rw[AI nbp,AI nba]at hb;exact hb
  refine ⟨_,rfl,p,C,dx,_,rfl,by rw[AI (Ne.symm nbp)];exact AB,T.cl,T.nF,(by show 1<1000;decide),?_⟩;refine k _ a b ⟨⟨dx,_,AB,?_⟩,Ne.symm nba,?_,?_,by simp,.nil,jZ⟩ ha hbH fun c o e hc=>?_
  ·rw[yP];refine ⟨rfl,rfl,by show 2<=20;decide,fun m n1 n2=>?_⟩;rw[lookup_cons,beq_eq_false_iff_ne.mpr n1,lookup_cons,beq_eq_false_iff_ne.mpr n2];rfl
  ·rw[AI nap,AI (Ne.symm nba),AI nap,AB];rfl
  ·rw[AI nbp,AB];rfl
  ·rw[AI hc,AI (AH e hbH),AI hc,AI (AH e ha)];exact e
def Ov (a:Addr)(i:Int):List (Str×V):= [("source",.ref a),("place",.int i)]
theorem si (a:Addr)(i:Int):BX "place" (.int i) (BX "source" (.ref a) [])=Ov a i:=by
 show (if ("source":Str)="place" then _ else _)=_;rw[if_neg (by decide+kernel)];rfl
theorem Ze (a:Addr)(i j:Int):BX "place" (.int j) (Ov a i)=Ov a j:=by
 show (if ("source":Str)="place" then _ else _)=_;rw[if_neg (by decide+kernel)];have h:BX "place" (.int j) [(("place":Str),V.int i)]=[(("place":Str),V.int j)]:=by
  show (if ("place":Str)="place" then _ else _)=_;rw[if_pos rfl]
 show _::BX "place" (.int j) [(("place":Str),V.int i)]=_;rw[h];rfl
theorem nY (a:Addr)(i:Int):(Ov a i).lookup ("source":Str)=some (.ref a):=by rfl
theorem V1 (a:Addr)(i:Int):(Ov a i).lookup ("place":Str)=some (.int i):=by rfl
structure GZ (K:PySem.W.Frag)(C:Addr):Prop where
 cl:fP K C
 nS:A6 K C "source"
 nP:A6 K C "place"
theorem Ao.inst {K:PySem.W.Frag}{H:Hp}{a p C dx:Addr}{xs:List V}{fs:List (Str×V)}{o':HO}(hp:H p=some (.ins C dx fs))(h:Ao K H a xs):Ao K (upd H p o') a xs:=by
 rcases h with (h | ⟨x,h⟩) | h
 ·exact .inl (.inl (by rw[AI (A7 h hp (by kpt_eq))];exact h))
 ·exact .inl (.inr ⟨x,by rw[AI (A7 h hp (by kpt_eq))];exact h⟩)
 ·exact .inr h
def Jo (C:Addr):Sp:=fun vs H Q _=>∃(p dx a:Addr),vs=[.ref p,.ref a]/\H p=some (.ins C dx [])/\Q .Bo (upd H p (.ins C dx (Ov a 0)))
theorem Rv:AT ["self","source"] ["self","source"] (AO HA):=⟨rfl,rfl,rfl,by decide+kernel,rfl,by decide+kernel,by decide+kernel⟩
theorem Sn {f C:Addr}{fd:FuncData}(F:CB K "__init__" "Reader.__init__" HA f fd)(T:GZ K C):AR P w K mg base As 1 f fd ["self","source"] (Jo C):=by
 refine F.ok Rv (fun vs H Q E h=>?_) (fun BM A outer s H vs Q E hr h=>?_)
 ·obtain ⟨p,dx,a,rfl,_⟩:=h;rfl
 ·obtain ⟨p,dx,a,rfl,hp,k⟩:=h;refine ⟨_,AF (CV (pv 0) (pv 1) rfl) (AG (CV (pv 0) AK rfl)),?_⟩;refine ⟨_,rfl,_,rfl,p,C,dx,[],rfl,hp,T.cl,T.nS,(by show 0<1000;decide),?_⟩;refine ⟨_,rfl,p,C,dx,_,rfl,AB,T.cl,T.nP,(by show 1<1000;decide),?_⟩;rw[DU,si];exact k
def Rb (K:PySem.W.Frag)(C:Addr):Sp:=fun vs H Q _=>∃(p dx a:Addr) (i:Int) (l:List Int),vs=[.ref p]/\H p=some (.ins C dx (Ov a i))/\Ao K H a (l.map V.int)/\Q (.bl (decide ((l.length:Int)<=i))) H
theorem cb:AT ["self"] ["self"] (AO Ee):=⟨rfl,rfl,rfl,by decide+kernel,rfl,by decide+kernel,by decide+kernel⟩
theorem cz {f C:Addr}{fd:FuncData}(F:CB K "is_done" "Reader.is_done" Ee f fd)(T:GZ K C)(bl:mg "len"=none):AR P w K mg base As 1 f fd ["self"] (Rb K C):=by
 refine F.ok cb (fun vs H Q E h=>?_) (fun BM A outer s H vs Q E hr h=>?_)
 ·obtain ⟨p,dx,a,i,l,rfl,_⟩:=h;rfl
 ·obtain ⟨p,dx,a,i,l,rfl,hp,ha,k⟩:=h;refine ⟨_,AG (AQ (DX AAQ (Ap (pv 0) rfl) (Aa Ae (by rfl) bl PySem.boot_len (AA (Ap (pv 0) rfl) AC)) (Av _))),?_⟩;refine ⟨_,rfl,p,C,dx,_,_,rfl,hp,T.cl,T.nP,V1 _ _,_,rfl,p,C,dx,_,_,rfl,hp,T.cl,T.nS,nY _ _,a,_,rfl,.inl ha,i,_,rfl,rfl,?_⟩;rw[length_map];exact k
def F1 (K:PySem.W.Frag)(C:Addr):Sp:=fun vs H Q _=>∃(p dx a:Addr) (i:Nat) (l:List Int) (n:Int),vs=[.ref p]/\H p=some (.ins C dx (Ov a i))/\Ao K H a (l.map V.int)/\l[i]? =some n/\Q (.int n) (upd H p (.ins C dx (Ov a ((i+1:Nat):Int))))
theorem Rl:AT ["self"] ["self"] (AO C5):=⟨rfl,rfl,rfl,by decide+kernel,rfl,by decide+kernel,by decide+kernel⟩
theorem Sg {f C:Addr}{fd:FuncData}(F:CB K "take_number" "Reader.take_number" C5 f fd)(T:GZ K C):AR P w K mg base As 1 f fd ["self"] (F1 K C):=by
 refine F.ok Rl (fun vs H Q E h=>?_) (fun BM A outer s H vs Q E hr h=>?_)
 ·obtain ⟨p,dx,a,i,l,n,rfl,_⟩:=h;rfl
 ·obtain ⟨p,dx,a,i,l,n,rfl,hp,ha,hn,k⟩:=h;refine ⟨_,AF (V8 (pv 0) AK pP) (AG (AQ (Ar Ag (Ap (pv 0) rfl) (CI SX (Ap (pv 0) rfl) AK) (fun _ _=>rfl)))),?_⟩;refine ⟨_,rfl,p,C,dx,_,_,rfl,hp,T.cl,T.nP,V1 _ _,?_⟩;refine ⟨(i:Int),1,rfl,rfl,dx,_,hp,(by show 2<1000;decide),?_⟩;rw[Ze];have YD:Ao K (upd H p (.ins C dx (Ov a ((i:Int)+1)))) a (l.map V.int):=Ao.inst hp ha;refine ⟨_,rfl,p,C,dx,_,_,rfl,AB,T.cl,T.nS,nY _ _,_,rfl,p,C,dx,_,_,rfl,AB,T.cl,T.nP,V1 _ _,(i:Int)+1,1,rfl,rfl,a,_,_,.int n,rfl,rfl,YD,?_,k⟩;rw[show (i:Int)+1 - 1=(i:Int) by omega];have C2:i<(l.map V.int).length:=by
   rw[length_map];exact (List.getElem?_eq_some_iff.mp hn).1
  have hg:(l.map V.int)[i]? =some (V.int n):=by rw[getElem?_map,hn];rfl
  exact Iq hg
def FI (K:PySem.W.Frag)(C:Addr):Sp:=fun vs H Q _=>∃(p dx a:Addr) (i m:Nat) (l:List Int),vs=[.ref p,.int m]/\H p=some (.ins C dx (Ov a i))/\Ao K H a (l.map V.int)/\i+m<=l.length/\
 ∀(q:Addr),H q=none->Q (.ref q) (upd (upd H p (.ins C dx (Ov a ((i+m:Nat):Int)))) q (.lst (((l.drop i).take m).map V.int)))
theorem Qe:AT ["self","how_many"] ["self","how_many"] (AO Cu):=⟨rfl,rfl,rfl,by decide+kernel,rfl,by decide+kernel,by decide+kernel⟩
theorem Qj {f C:Addr}{fd:FuncData}(F:CB K "take_numbers" "Reader.take_numbers" Cu f fd)(T:GZ K C):AR P w K mg base As 1 f fd ["self","how_many"] (FI K C):=by
 refine F.ok Qe (fun vs H Q E h=>?_) (fun BM A outer s H vs Q E hr h=>?_)
 ·obtain ⟨p,dx,a,i,m,l,rfl,_⟩:=h;rfl
 ·obtain ⟨p,dx,a,i,m,l,rfl,hp,ha,hn,k⟩:=h;refine ⟨_,AF (V8 (pv 0) (pv 1) pP) (AG (AQ (Nj XJ (Ap (pv 0) rfl) (Nh (CI SX (Ap (pv 0) rfl) (pv 1))) (Nh (Ap (pv 0) rfl))))),?_⟩;refine ⟨_,rfl,p,C,dx,_,_,rfl,hp,T.cl,T.nP,V1 _ _,_,rfl,(i:Int),(m:Int),rfl,rfl,dx,_,hp,(by show 2<1000;decide),?_⟩;rw[Ze];have YD:Ao K (upd H p (.ins C dx (Ov a ((i:Int)+m)))) a (l.map V.int):=Ao.inst hp ha;refine ⟨_,rfl,p,C,dx,_,_,rfl,AB,T.cl,T.nS,nY _ _,_,rfl,p,C,dx,_,_,rfl,AB,T.cl,T.nP,V1 _ _,_,rfl,(i:Int)+m,(m:Int),rfl,rfl,(i:Int),?_,_,rfl,p,C,dx,_,_,rfl,AB,T.cl,T.nP,V1 _ _,(i:Int)+m,rfl,a,_,rfl,YD,fun q hq=>?_⟩
  ·show V.int ((i:Int)+m - m)=V.int (i:Int)
   congr 1
   omega
  ·have nqp:q≠p:=fun e=>by rw[e,AB]at hq;cases hq
   rw[AI nqp]at hq;have e:UG (l.map V.int) (some (i:Int)) (some ((i:Int)+m))=((l.drop i).take m).map V.int:=by
    unfold UG;rw[show ((i:Int)+m)=((i+m:Nat):Int) by omega,HT.RE,HT.RE,length_map,Nat.min_eq_left hn,Nat.min_eq_left (show i<=l.length by omega),map_take,map_drop]
    congr 1
    omega
   rw[e];exact k q hq
def P3 (K:PySem.W.Frag)(C:Addr):Sp:=fun vs H Q _=>∃(p dx a:Addr) (i m:Nat) (l:List Int),vs=[.ref p]/\H p=some (.ins C dx (Ov a i))/\Ao K H a (l.map V.int)/\l[i]? =some (m:Int)/\i+1+m<=l.length/\
 ∀(q:Addr),H q=none->Q (.ref q) (upd (upd H p (.ins C dx (Ov a ((i+1+m:Nat):Int)))) q (.lst (((l.drop (i+1)).take m).map V.int)))
theorem ZO:AT ["self"] ["self"] (AO EG):=⟨rfl,rfl,rfl,by decide+kernel,rfl,by decide+kernel,by decide+kernel⟩
theorem Zv {f C f1 f2:Addr}{fd d1 d2:FuncData}(F:CB K "take_row" "Reader.take_row" EG f fd)(T:GZ K C)
  (Bw:AR P w K mg base As 1 f1 d1 ["self"] (F1 K C)) (m1:Meth K C "take_number" f1) (b1:Binds K d1 ["self"] [])
  (HH:AR P w K mg base As 1 f2 d2 ["self","how_many"] (FI K C)) (m2:Meth K C "take_numbers" f2) (b2:Binds K d2 ["self","how_many"] []):AR P w K mg base As 2 f fd ["self"] (P3 K C):=by
 refine F.ok ZO (fun vs H Q E h=>?_) (fun BM A outer s H vs Q E hr h=>?_)
 ·obtain ⟨p,dx,a,i,m,l,rfl,_⟩:=h;rfl
 ·obtain ⟨p,dx,a,i,m,l,rfl,hp,ha,hn,hl,k⟩:=h;refine ⟨_,AG (AQ (Ac (pv 0) T.cl m2 HH hr b2 .nil AU (AA (C8 (pv 0) T.cl m1 Bw hr b1 .nil AU) AC))),?_⟩;refine ⟨_,rfl,p,dx,_,rfl,hp,by rfl,_,rfl,p,dx,_,rfl,hp,by rfl,p,dx,a,i,l,m,rfl,hp,ha,hn,p,dx,a,i+1,m,l,rfl,AB,Ao.inst hp ha,hl,fun q hq=>?_⟩;have nqp:q≠p:=fun e=>by rw[e,AB]at hq;cases hq
  rw[AI nqp]at hq;rw[DU];exact k q hq
theorem FG.keys {n:Nat}{AV:List (List Key×V)}{l:Values}(h:FG n AV l):∃cs,Paired (fun p c=>p.1=A8 c) AV cs/\AV.map (·.1)=cs.map A8/\cs.length=AV.length/\∀c∈cs,Aw c:=by
 have ho:=h.only;clear h;induction AV with
 |nil=>exact ⟨[],.nil,rfl,rfl,by simp⟩
 |cons p r ih=>
  obtain ⟨cs,i1,i2,i3,i4⟩:=ih fun x hx=>ho x (mem_cons_of_mem _ hx);obtain ⟨c,w,j1,j2,j3⟩:=ho p mem_cons_self;refine ⟨c::cs,.cons j2 i1,by rw[map_cons,map_cons,i2,j2],by simp[i3],fun d hd=>?_⟩;rcases mem_cons.mp hd with rfl | z
  ·exact j1
  ·exact i4 d z
theorem IG {l:Values}{c:Nat}(h:valueOf l c≠ []):c∈l.map (·.1):=by
 induction l with
 |nil=>exact absurd rfl h
 |cons y r ih=>
  rw[BP]at h;by_cases e:y.1=c
  ·exact mem_map.mpr ⟨y,mem_cons_self,e⟩
  ·rw[if_neg e]at h;exact mem_cons_of_mem _ (ih h)
theorem FG.filled {n:Nat}{AV:List (List Key×V)}{l:Values}(h:FG n AV l){cs:List Nat}(hk:AV.map (·.1)=cs.map A8):(rising cs).filter (fun c=>decide (valueOf l c≠ []))=l.map (·.1):=by
 have gZ:cs.Nodup:=by
  have:=h.nd;rw[hk]at this;exact (pairwise_map.mp this).imp fun n e=>n (by rw[e])
 refine MJ ((Cq gZ).filter _) (pairwise_map.mpr h.ok.sorted) fun c=>?_;rw[mem_filter,(Au cs).mem_iff,decide_eq_true_eq];constructor
 ·exact fun z=>IG z.2
 ·intro z;obtain ⟨x,hx,rfl⟩:=mem_map.mp z;have hv:valueOf l x.1≠ []:=by
   rw[Jd h.ok hx];exact h.ok.full x hx
  refine ⟨?_,hv⟩;have e:=h.val x.1 (h.ok.thing x hx);cases e2:C3 AV (A8 x.1)with
  |none=>
   rw[e2]at e;have:S []=S (valueOf l x.1):=V.str.inj e;exact absurd (Ud this).symm hv
  |some v=>
   have:=fS e2;rw[hk]at this;obtain ⟨d,hd,ed⟩:=mem_map.mp this;rw[<- KN ed];exact hd
theorem Y9 {l:Values}(h:Ue l):(l.map (·.1)).flatMap (fun c=> [((c / 10:Nat):Int),((c % 10:Nat):Int),((valueOf l c).length:Int)]++(valueOf l c).map Vbdhae.nat)=l.flatMap fun x=> [Vbdhae.nat (x.1 / 10),Vbdhae.nat (x.1 % 10),Vbdhae.nat x.2.length]++x.2.map Vbdhae.nat:=by
 have hm:∀x∈l,valueOf l x.1=x.2:=fun x hx=>Jd h hx;rw[List.flatMap_map,List.flatMap_def,List.flatMap_def]
 congr 1
 refine map_congr_left fun x hx=>?_;show [_,_,((valueOf l x.1).length:Int)]++(valueOf l x.1).map Vbdhae.nat=_;rw[hm x hx];rfl
theorem J3 {l:List Addr}{i:Nat}{x:V}(h:(l.map V.ref)[i]? =some x):∃b,l[i]? =some b/\x=V.ref b:=by
 rw[getElem?_map]at h;cases e:l[i]? with
 |none=>rw[e]at h;cases h
 |some n=>rw[e]at h;exact ⟨n,rfl,(Option.some.inj h).symm⟩
theorem Gr {H H':Hp}(s:AW H H'){bs:List Addr}{cs:List Nat}(h:Paired (fun b c=>Ai H b c) bs cs):Paired (fun b c=>Ai H' b c) bs cs:=Paired.TD h fun _ _ q=>s _ _ q
theorem TW {H H' H2:Hp}{D b:Addr}{cs:List Nat}{i c:Nat}{p:Nat->Bool}{acc:List Addr}(hD:H D=none)(hb:Ai H b c)(hc:cs[i]? =some c)(Ct:H' D=some (.lst (acc.map V.ref)))(ha:Paired (fun b c=>Ai H b c) acc ((cs.take i).filter p))(ll:acc.length<=i)(s':AW H H')(s2:AW H' H2)(hz:cs.length<=10000):
  (p c=true->∃vp,H2 D=some (.lst vp)/\vp.length<sizeLine/\∃fL:List Addr,(upd H2 D (.lst (vp ++ [V.ref b]))) D=some (.lst (fL.map V.ref))/\Paired (fun b c=>Ai H b c) fL ((cs.take (i+1)).filter p)/\fL.length<=i+1/\AW H (upd H2 D (.lst (vp ++ [V.ref b]))))/\
  (p c=false->∃fL:List Addr,H2 D=some (.lst (fL.map V.ref))/\Paired (fun b c=>Ai H b c) fL ((cs.take (i+1)).filter p)/\fL.length<=i+1/\AW H H2):=by
 have hi:=(List.getElem?_eq_some_iff.mp hc).1;refine ⟨fun hp=>⟨_,s2 _ _ Ct,?_,acc ++ [b],?_,?_,?_,fun x o e=>?_⟩,fun hp=>⟨acc,s2 _ _ Ct,?_,by omega,s'.trans s2⟩⟩
 ·rw[length_map,sizeLine_eq];omega
 ·rw[AB,map_append];rfl
 ·rw[Ay hc,DB,if_pos hp];exact FA ha hb
 ·rw[length_append];show acc.length+1<=_;omega
 ·rw[AI (AH e hD)];exact s2 _ _ (s' _ _ e)
 ·rw[Ay hc,DB,if_neg (by rw[hp];decide),append_nil];exact ha
theorem FG.at {n:Nat}{AV:List (List Key×V)}{l:Values}(h:FG n AV l){cs:List Nat}(hk:AV.map (·.1)=cs.map A8){c:Nat}(hc:c∈cs)(ht:Aw c):C3 AV (A8 c)=some (.str (S (valueOf l c))):=by
 have e:=h.val c ht;cases e2:C3 AV (A8 c)with
 |some v=>rw[e2]at e;rw[<- show v=_ from e]
 |none=>
  have:A8 c∈AV.map (·.1):=by rw[hk];exact List.mem_map_of_mem hc
  exact absurd this (Y2 e2)
def Ol:Sp:=fun vs H Q _=>∃(d:Addr) (n:Nat) (l:Values),vs=[.ref d]/\HeldAt H d n l/\n<=9000/\∀H' p bs,AW H H'->H p=none->Paired (fun b c=>Ai H' b c) bs (l.map (·.1))->H' p=some (.lst (bs.map V.ref))->Q (.ref p) H'
theorem Vu:AT ["held","thing"] ["held"] (AO FL):=⟨rfl,rfl,rfl,by decide+kernel,rfl,by decide+kernel,by decide+kernel⟩
theorem jU {f:Addr}{fd:FuncData}(F:CB K "filled_things" "filled_things" FL f fd)(bs:mg "sorted"=none):AR P w K mg base As 1 f fd ["held"] Ol:=by
 refine F.ok Vu (fun vs H Q E h=>?_) (fun BM A outer s H vs Q E hr h=>?_)
 ·obtain ⟨d,n,l,rfl,_⟩:=h;rfl
 ·obtain ⟨d,n,l,rfl,⟨AV,hd,hh⟩,hn,q⟩:=h;have nd:=Vu.nd;have hu:=N7 hr;refine ⟨_,AG (AQ (GD (own:= [("thing",1)]) rfl nd (BF (Aa (Yb rfl) (by rfl) bs boot_sorted (AA (pv 0) AC))) (Bn (by kernel_rfl)) (fun _ _ _ _ _=>A2 (i:=1) nd rfl (Or.inl rfl))
    (fun _ _ _ _ _=>IX (Al SY (tI hu (pv 0) (pv 1) (fun _ _=>rfl)) Bl (Av _))) (fun _ _ _ _ _=>pv 1))),?_⟩
  isplit;obtain ⟨cs,c1,c2,c3,c4⟩:=hh.keys;kl_no;have hlen:=hh.len;refine ⟨_,rfl,d,AV,cs,rfl,hd,c1,fun p bs hp ax=>?_⟩;have s1:AW H (upd H p (.lst (bs.map V.ref))):=AJ hp;have D3:(upd H p (.lst (bs.map V.ref))) p=some (.lst (bs.map V.ref)):=AB;generalize upd H p (.lst (bs.map V.ref))=H1 at s1 D3;have hb1:=Gr s1 ax;have hl:=BZ hb1;have Yr:(rising cs).length=AV.length:=by rw[(Au cs).length_eq,c3]
  refine ⟨p,rfl,⟨_,Ao.of D3⟩,fun D hD=>?_⟩;refine DI (K:=K) (a:=p) (xs:=bs.map V.ref) (fun i H'=>∃acc:List Addr,H' D=some (.lst (acc.map V.ref))/\Paired (fun b c=>Ai H1 b c) acc (((rising cs).take i).filter fun c=>decide (valueOf l c≠ []))/\acc.length<=i/\AW H1 H')
   ⟨[],AB,.nil,by simp,AJ hD⟩ (fun i H' _ ⟨_,_,_,_,s'⟩=>Ao.of (s' _ _ D3)) ?_ ?_
  ·intro i x H' hx zz;isplit;obtain ⟨acc,Ct,ha,ll,s'⟩:=zz;kl_no;obtain ⟨b,hb,rfl⟩:=J3 hx;obtain ⟨c,hc,kK⟩:=Az hb1 hb;have Ys:c∈cs:=(Au cs).mem_iff.mp (mem_of_getElem? hc);have kt:=TW (p:=fun c=>decide (valueOf l c≠ [])) hD kK hc Ct ha ll s' (AW.refl _) (by omega);refine ⟨rfl,?_⟩;have g:=IA.t (k:=A8 c) (s' _ _ (s1 _ _ hd)) (s' _ _ kK);rw[hh.at c2 Ys (c4 c Ys)]at g;refine ⟨_,rfl,_,rfl,d,_,rfl,g,rfl,_,rfl,?_⟩;rw[Mz (s:="")];kpt_hd
   ·refine ⟨_,rfl,kt.1 (decide_eq_true fun e=>?_)⟩;rw[e]at z;exact absurd z (by decide)
   ·refine kt.2 (decide_eq_false fun e=>z ?_);have e0:decide (valueOf l c=Vbdhae.text "")=false:=decide_eq_false fun y=>e y;rw[e0];rfl
  ·intro H' zz;isplit;obtain ⟨acc,Ct,ha,ll,s'⟩:=zz;kl_no;rw[length_map,hl,take_length,hh.filled c2]at ha;exact q H' D acc (s1.trans s') (s1.free hD) (Gr s' ha) Ct
def M7 (l:Values)(c:Nat):List Int:= [((c / 10:Nat):Int),((c % 10:Nat):Int),((valueOf l c).length:Int)]++(valueOf l c).map Vbdhae.nat
theorem iY {l:Values}(h:Ue l)(c:Nat):(M7 l c).length<=23:=by
 have:=Bu h c;unfold M7;rw[length_append,length_map];show 3+_<=23;omega
theorem M6 {l:Values}(h:Ue l):∀cs:List Nat,(cs.flatMap (M7 l)).length<=23*cs.length
 | []=>by simp
 |c::r=>by
  have h1:=M6 h r;have h2:=iY h c;rw[flatMap_cons,length_append,length_cons];omega
def XH:Sp:=fun vs H Q _=>∃(lc d:Addr) (bs:List Addr) (cs:List Nat) (n:Nat) (l:Values),vs=[.ref lc,.ref d]/\H lc=some (.lst (bs.map V.ref))/\Paired (fun b c=>Ai H b c) bs cs/\(∀c∈cs,Aw c)/\cs.length<=1000/\HeldAt H d n l/\
 ∀H' p,AW H H'->H p=none->H' p=some (.lst (((cs.length:Int)::cs.flatMap (M7 l)).map V.int))->Q (.ref p) H'
theorem fb:AT ["chosen","held","told","thing"] ["chosen","held"] (AO Dk):=⟨rfl,rfl,rfl,by decide+kernel,rfl,by decide+kernel,by decide+kernel⟩
theorem tP {f g k:Addr}{fd gd kd:FuncData}(F:CB K "told_with_values" "told_with_values" Dk f fd)(bl:mg "len"=none)(bli:mg "list"=none)
  (MU:AR P w K mg base As 1 g gd ["word"] Ji) (b0:Binds K gd ["word"] []) (Mb:mg "signs_of"=some (.ref g)) (k0:keepIn K (.ref g)=true)
  (Bw:AR P w K mg base As 1 k kd ["row"] BA) (b1:Binds K kd ["row"] []) (Uq:mg "with_length"=some (.ref k)) (k1:keepIn K (.ref k)=true):
  AR P w K mg base As 2 f fd ["chosen","held"] XH:=by
 refine F.ok fb (fun vs H Q E h=>?_) (fun BM A outer s H vs Q E hr h=>?_)
 ·obtain ⟨lc,d,bs,cs,n,l,rfl,_⟩:=h;rfl
 ·obtain ⟨lc,d,bs,cs,n,l,rfl,Gf,ax,aq,hz,⟨AV,hd,hh⟩,q⟩:=h;have nd:=fb.nd;have hu:=N7 hr;have hl:=BZ ax;refine ⟨_,AF (AZ (i:=2) nd rfl (Or.inl rfl) (Aj (AA (Aa Ae (by rfl) bl PySem.boot_len (AA (pv 0) AC)) AC)))
   (AF (Du PassesOwn.never rfl (BF (pv 0)) (A2 (i:=3) nd rfl (Or.inl rfl))
    (AG (Bt (JD plainAttrs_list slot_list_extend type_list_extend PB (pv 2) (AA (CI DP (Cr ER (by rfl) bli boot_list (AA (pv 3) AC))
     (AX Bw hr rfl Uq k1 b1 .nil AU (AA (AX MU hr rfl Mb k0 b0 .nil AU (AA (EK hu (pv 1) (pv 3) Bl ⟨rfl,rfl,rfl,rfl⟩) AC)) AC))) AC)))))
   (AG (AQ (pv 2)))),?_⟩
  refine ⟨_,rfl,lc,_,rfl,.inl (Ao.of Gf),by show 1<=sizeLine;decide,fun p hp=>?_⟩;rw[length_map,hl];have s1:AW H (upd H p (.lst [V.int (cs.length:Int)])):=AJ hp;refine ⟨_,rfl,lc,rfl,⟨_,Ao.of (s1 _ _ Gf)⟩,Ch (K:=K) (a:=lc) (xs:=bs.map V.ref) (fun i σ H'=>∃va:Option V,σ=[some (.ref lc),some (.ref d),some (.ref p),va]/\AW H H'/\H' p=some (.lst (((cs.length:Int)::(cs.take i).flatMap (M7 l)).map V.int)))
   ⟨none,rfl,s1,AB⟩ ?_ ?_ ?_⟩
  ·intro i σ H' _ zz;isplit;obtain ⟨va,rfl,s',k⟩:=zz;kl_no;exact Ao.of (s' _ _ Gf)
  ·intro i x σ H' hx zz;isplit;obtain ⟨va,rfl,s',k⟩:=zz;kl_no;obtain ⟨b,hb,rfl⟩:=J3 hx;obtain ⟨c,hc,kK⟩:=Az ax hb;have hci:=aq c (mem_of_getElem? hc);have hi:=(List.getElem?_eq_some_iff.mp hc).1;refine ⟨_,rfl,.inl ⟨rfl,_,Ao.of k⟩,_,rfl,b,_,rfl,.inr (Gi.of (s' _ _ kK)),fun p1 D3=>?_⟩;have s2:AW H' (upd H' p1 (.lst [.int ((c / 10:Nat):Int),.int ((c % 10:Nat):Int)])):=AJ D3;have pU:=s'.trans s2;refine ⟨_,rfl,d,rfl,.inr ⟨AV,.inl (pU _ _ hd)⟩,_,rfl,_,IA.t (k:=A8 c) (pU _ _ hd) (pU _ _ kK),?_⟩;rw[hh.get hci];have hsh:=Bu hh.ok c;refine ⟨_,rfl,by omega,fun H3 p3 s3 n3 e3=>?_⟩;refine ⟨p3,(valueOf l c).map fun (n:Nat)=>(n:Int),rfl,by rw[BJ];exact e3,by rw[length_map];omega,fun H4 p4 s4 n4 e4=>?_⟩;refine ⟨p1,p4,_,_,rfl,rfl,s4 _ _ (s3 _ _ AB),e4,?_,fun p5 n5=>?_⟩
   ·simp only[length_map,length_cons,length_nil];rw[sizeLine_eq];omega
   have s5:AW H4 (upd H4 p5 (.lst ([.int ((c / 10:Nat):Int),.int ((c % 10:Nat):Int)]++map V.int (((((valueOf l c).map fun (n:Nat)=>(n:Int)).length:Nat):Int)::(valueOf l c).map fun (n:Nat)=>(n:Int))))):=AJ n5;have sA:=s2.trans (s3.trans (s4.trans s5));refine ⟨p,p5,_,_,rfl,rfl,sA _ _ k,AB,?_,?_⟩
   ·have:=M6 hh.ok (cs.take i);have h0:=length_take_le i cs;have h1:=length_take_le' i cs;simp only[length_map,length_cons,length_append,length_nil];rw[sizeLine_eq];omega
   ·refine ⟨_,rfl,fun x o e=>?_,?_⟩
    ·rw[AI (AH e hp)];exact sA _ _ (s' _ _ e)
    ·rw[AB,Ay hc,List.flatMap_append];simp only[flatMap_cons,List.flatMap_nil,append_nil,M7,map_append,map_cons,length_map,cons_append,map_nil,nil_append];rfl
  ·intro σ H' zz;isplit;obtain ⟨va,rfl,s',k⟩:=zz;kl_no;rw[length_map,hl,take_length]at k;exact ⟨_,rfl,q H' p s' hp k⟩
theorem RG {CH CC:Addr}{H H2:Hp}{h lc lf:Addr}{as:List Addr}{s':Vbdhae.State}{Q:VK}{p0 p4:Addr}{xs:List Int}(q:∀H' p,After CH CC H H' h lc lf as s'->H' p=some (.lst ((0::xs).map V.int))->Q (.ref p) H')(a:After CH CC H H2 h lc lf as s')
  (h0:H2 p0=some (.lst [V.int 0])) (h4:H2 p4=some (.lst (xs.map V.int))) (hz:xs.length<=100000):AAO (.ref p0) (.ref p4) H2 Q:=by
 refine ⟨p0,p4,_,_,rfl,rfl,h0,h4,?_,fun p hp=>q _ p (a.more (AJ hp)) AB⟩;rw[length_map,sizeLine_eq];show 1+_<=_;omega
theorem QP {s:Vbdhae.State}{n:Int}{l:List (Bool×Int)}{x:Res}{c:Vbdhae.Call}(hd:does s c=guards (noChange s n.toNat::l) x){cs:List (List Int)}(hc:decode cs=Vbdhae.guard (isN n) c):
  stepNumbers s cs=if absent s [n]<0 then (s,[absent s [n]])else match guards l x with
   | .error e=>(s,[e])
   | .ok (t,a)=>(t,0::a):=by
 unfold stepNumbers;rw[hc];unfold Vbdhae.guard absent;simp only[all_cons,all_nil,Bool.and_true];by_cases h1:isN n=true
 ·rw[if_pos h1,if_pos h1,K3 h1];show Vbdhae.step s c=_;unfold Vbdhae.step;rw[hd];unfold noChange;rw[BK];by_cases h2:isThere s n.toNat=true
  ·rw[if_neg (by rw[h2];decide),if_pos h2,if_neg (by decide)];rfl
  ·rw[if_pos (by simpa using h2),if_neg h2,if_pos (by decide)]
 ·rw[if_neg h1,if_neg h1,if_pos (by decide)]
theorem LJ {s:Vbdhae.State}{l:List Int}(h:¬ absent s l<0):∀n∈l,1<=n/\n<=40/\1<=n.toNat/\n.toNat<=s.changes.length/\n=((n.toNat:Nat):Int):=fun n hn=>by
 unfold absent at h;by_cases h1:(l.all isN)=true
 ·rw[if_pos h1]at h;by_cases h2:(l.all fun n=>decide (n<=(s.changes.length:Nat)))=true
  ·have a:=K4.mp (all_eq_true.mp h1 n hn);have b:=of_decide_eq_true (all_eq_true.mp h2 n hn);omega
  ·rw[if_neg h2]at h;exact absurd (by decide) h
 ·rw[if_neg h1]at h;exact absurd (by decide) h
theorem cV (s:Vbdhae.State)(n:Int):stepNumbers s [[12,n]]=if refusal s n 0 (-6)<0 then (s,[refusal s n 0 (-6)])else (s,0::listed (clashes s n.toNat)):=
 Et (l:= []) (x:= .ok (s,listed (clashes s n.toNat))) rfl rfl
theorem mz {s:Vbdhae.State}(ok:Mv s)(n:Int):stepNumbers s [[14,n]]=if refusal s n 1 (-9)<0 then (s,[refusal s n 1 (-9)])else (s,0::listed (falls s n.toNat)):=
 Mt ok (l:= []) (x:= .ok (s,listed (falls s n.toNat))) rfl rfl
theorem mx (s:Vbdhae.State)(n:Int):stepNumbers s [[13,n]]=if absent s [n]<0 then (s,[absent s [n]])else (s,0::(listed (Vbdhae.needs s n.toNat)++listed (lacks s n.toNat))):=
 QP (l:= []) (x:= .ok (s,listed (Vbdhae.needs s n.toNat)++listed (lacks s n.toNat))) rfl rfl
theorem iy (s:Vbdhae.State)(n:Int):stepNumbers s [[16,n]]=if absent s [n]<0 then (s,[absent s [n]])else (s,0::([Vbdhae.nat (changeAt s n.toNat).editor,Vbdhae.nat (changeAt s n.toNat).status,Vbdhae.nat (changeAt s n.toNat).seen.length]++(listed (changeAt s n.toNat).on++(printed (changeAt s n.toNat).ops).map Vbdhae.nat))):=
 QP (l:= []) (x:= .ok (s,[Vbdhae.nat (changeAt s n.toNat).editor,Vbdhae.nat (changeAt s n.toNat).status,Vbdhae.nat (changeAt s n.toNat).seen.length]++(listed (changeAt s n.toNat).on++(printed (changeAt s n.toNat).ops).map Vbdhae.nat))) rfl rfl
theorem sW (s:Vbdhae.State)(n m:Int):stepNumbers s [[15,n,m]]=if absent s [n,m]<0 then (s,[absent s [n,m]])else (s,[0,flag (meets (opsAt s n.toNat) (opsAt s m.toNat)),flag (feeds (opsAt s n.toNat) (opsAt s m.toNat))]):=by
 show (match Vbdhae.guard (isN n&&isN m) (.meet n.toNat m.toNat)with | none=>(s,[-1]) | some x=>Vbdhae.step s x)=_;unfold Vbdhae.guard absent;simp only[all_cons,all_nil,Bool.and_true];by_cases h1:(isN n&&isN m)=true
 ·have gi:=h1;rw[Bool.and_eq_true]at gi;rw[if_pos h1,if_pos h1,K3 gi.1,K3 gi.2];show (match guards [noChange s n.toNat,noChange s m.toNat] _ with | .error e=>(s,[e]) | .ok (t,l)=>(t,0::l))=_;unfold noChange;rw[BK,BK,Er];cases isThere s n.toNat with
  |false=>rfl
  |true=>
   cases isThere s m.toNat with
   |false=>rfl
   |true=>rfl
 ·rw[if_neg h1,if_neg h1,if_pos (by decide)]
theorem my (s:Vbdhae.State):stepNumbers s [[19]]=(s,0::listed s.force):=rfl
theorem iq (s:Vbdhae.State)(e f:Int):stepNumbers s [[17,e,f]]=if (isE e&&isF f)=true then (s,[0,Vbdhae.nat (Vbdhae.writer s (10*e.toNat+f.toNat))])else (s,[-1]):=by
 show (match Vbdhae.guard (isE e&&isF f) (.writer e.toNat f.toNat)with | none=>(s,[-1]) | some x=>Vbdhae.step s x)=_;unfold Vbdhae.guard;by_cases h:(isE e&&isF f)=true
 ·rw[if_pos h,if_pos h];rfl
 ·rw[if_neg h,if_neg h]
theorem Rs:AT ["house","numbers","rows","refusal"] ["house","numbers","rows"] (AO Hc):=⟨rfl,rfl,rfl,by decide+kernel,rfl,by decide+kernel,by decide+kernel⟩
theorem dC {f C CC g f1 f3:Addr}{fd gd d1 d3:FuncData}(F:CB K "clashes" "clashes" Hc f fd)(T:Am K C)
  (MU:AR P w K mg base As 4 g gd ["house","number"] (Bk C CC 0 (-6))) (b0:Binds K gd ["house","number"] []) (Mb:mg "refusal_of_draft"=some (.ref g)) (k0:keepIn K (.ref g)=true)
  (Bw:AR P w K mg base As 4 f1 d1 ["self","number","row"] (Gm K C CC)) (m1:MH K C "clashing" f1 d1 ["self","number","row"])
  (JE:AR P w K mg base As 1 f3 d3 ["row"] BA) (b3:Binds K d3 ["row"] []) (WO:mg "with_length"=some (.ref f3)) (k3:keepIn K (.ref f3)=true):
  AR P w K mg base As 8 f fd ["house","numbers","rows"] (BQ C CC 12 1 0):=by
 refine F.ok Rs (fun vs H Q E h=>?_) (fun BM A outer s H vs Q E hr h=>?_)
 ·kt_chr;rfl
 ·kt_str;obtain ⟨n,rfl⟩:=len_one HM;obtain rfl:=A5 Ge;kt_le;have nd:=Rs.nd;have cE:Aq 5 _:=hr.mono (by decide);have VH:Aq 4 _:=hr.mono (by decide);have Us:Aq 3 _:=hr.mono (by decide);kxf_eq;ktn_lt;refine ⟨_,AF (AZ (i:=3) nd rfl (Or.inl rfl) (AX MU VH rfl Mb k0 b0 .nil AU (AA (pv 0) (AA (Ar Ag (pv 1) AK (fun _ _=>rfl)) AC))))
   (AF (A0 (Al Gs (pv 3) AK (Av _)) (AG (AQ (Aj (AA (pv 3) AC)))) Af)
   (AG (AQ (CI DP (Aj (AA AK AC)) (AX JE FD rfl WO k3 b3 .nil AU (AA (Ac (pv 0) T.cl m1.me Bw VH m1.bi .nil AU (AA (Ar Ag (pv 1) AK (fun _ _=>rfl)) (AA (Ap (pv 0) rfl) AC))) AC)))))),?_⟩
  rw[show (12 :: [n])::([]:List (List Int))=[[12,n]]from rfl,cV]at q;refine ⟨_,rfl,_,rfl,ln,_,0,.int n,rfl,rfl,Ao.of Bs,rfl,h,lc,lf,as,st,n,rfl,hA,fun H0 s0=>?_⟩;have hA:=hA.same s0;have Bs:=s0 _ _ Bs;have e1:=s0 _ _ e1;have q:=fun H' p (a:After C CC H0 H' h lc lf as _) e=>q H' p (a.pre s0) e;refine ⟨_,rfl,_,_,rfl,rfl,_,rfl,?_⟩;kpt_hd
  ·have z:refusal st n 0 (-6)<0:=of_decide_eq_true z;rw[if_pos z]at q;exact ⟨_,rfl,by show 1<=sizeLine;decide,fun p hp=>q _ p (After.same hA (AJ hp)) AB⟩
  have z:¬ refusal st n 0 (-6)<0:=fun e=>z (decide_eq_true e);rw[if_neg z]at q;isplit;obtain ⟨i1,i2,i3,i4,i5⟩:=Ca (by decide) z;kl_no;have KQ:n=((n.toNat:Nat):Int):=by omega
  have gb:=hA.ok.B4;refine ⟨by show 1<=sizeLine;decide,fun p0 pZ=>?_⟩;have s1:AW H0 (upd H0 p0 (.lst [V.int 0])):=AJ pZ;refine ⟨_,rfl,h,dx,fs,rfl,s1 _ _ e1,e5 _ m1.nm.1 m1.nm.2,_,rfl,ln,_,0,.int n,rfl,rfl,Ao.of (s1 _ _ Bs),rfl,_,rfl,h,C,dx,fs,_,rfl,s1 _ _ e1,T.cl,T.nF,e3,h,lc,lf,as,st,n.toNat,lf,st.force,by rw[<- KQ];rfl,hA.same s1,i3,i4,(hA.same s1).Ep,hA.ok.Ur,by omega,fun H2 p2 s2 FE vE=>?_⟩;rw[<- Kf]at vE;have kI:(clashes st n.toNat).length<=40:=Nat.le_trans (length_filter_le _ _) gb;refine ⟨p2,(clashes st n.toNat).map fun (n:Nat)=>(n:Int),rfl,by rw[BJ];exact vE,by rw[length_map];omega,fun H3 p3 s3 Mj gp=>?_⟩;rw[B9]at gp;exact RG q (After.same hA (s1.trans (s2.trans s3))) (s3 _ _ (s2 _ _ AB)) gp (by rw[Bz];omega)
theorem ZV:AT ["house","numbers","rows","refusal"] ["house","numbers","rows"] (AO NV):=⟨rfl,rfl,rfl,by decide+kernel,rfl,by decide+kernel,by decide+kernel⟩
theorem oN {f C CC g f1 f3:Addr}{fd gd d1 d3:FuncData}(F:CB K "falls" "falls" NV f fd)(T:Am K C)
  (MU:AR P w K mg base As 4 g gd ["house","number"] (Bk C CC 1 (-9))) (b0:Binds K gd ["house","number"] []) (Mb:mg "refusal_in_force"=some (.ref g)) (k0:keepIn K (.ref g)=true)
  (Bw:AR P w K mg base As 3 f1 d1 ["self","number"] (IL C CC)) (m1:MH K C "falling" f1 d1 ["self","number"])
  (JE:AR P w K mg base As 1 f3 d3 ["row"] BA) (b3:Binds K d3 ["row"] []) (WO:mg "with_length"=some (.ref f3)) (k3:keepIn K (.ref f3)=true):
  AR P w K mg base As 8 f fd ["house","numbers","rows"] (BQ C CC 14 1 0):=by
 refine F.ok ZV (fun vs H Q E h=>?_) (fun BM A outer s H vs Q E hr h=>?_)
 ·kt_chr;rfl
 ·kt_str;obtain ⟨n,rfl⟩:=len_one HM;obtain rfl:=A5 Ge;kt_le;have nd:=ZV.nd;have cE:Aq 5 _:=hr.mono (by decide);have VH:Aq 4 _:=hr.mono (by decide);have Us:Aq 3 _:=hr.mono (by decide);kxf_eq;ktn_lt;refine ⟨_,AF (AZ (i:=3) nd rfl (Or.inl rfl) (AX MU VH rfl Mb k0 b0 .nil AU (AA (pv 0) (AA (Ar Ag (pv 1) AK (fun _ _=>rfl)) AC))))
   (AF (A0 (Al Gs (pv 3) AK (Av _)) (AG (AQ (Aj (AA (pv 3) AC)))) Af)
   (AG (AQ (CI DP (Aj (AA AK AC)) (AX JE FD rfl WO k3 b3 .nil AU (AA (Ac (pv 0) T.cl m1.me Bw Us m1.bi .nil AU (AA (Ar Ag (pv 1) AK (fun _ _=>rfl)) AC)) AC)))))),?_⟩
  rw[show (14 :: [n])::([]:List (List Int))=[[14,n]]from rfl,mz hA.ok]at q;refine ⟨_,rfl,_,rfl,ln,_,0,.int n,rfl,rfl,Ao.of Bs,rfl,h,lc,lf,as,st,n,rfl,hA,fun H0 s0=>?_⟩;have hA:=hA.same s0;have Bs:=s0 _ _ Bs;have e1:=s0 _ _ e1;have q:=fun H' p (a:After C CC H0 H' h lc lf as _) e=>q H' p (a.pre s0) e;refine ⟨_,rfl,_,_,rfl,rfl,_,rfl,?_⟩;kpt_hd
  ·have z:refusal st n 1 (-9)<0:=of_decide_eq_true z;rw[if_pos z]at q;exact ⟨_,rfl,by show 1<=sizeLine;decide,fun p hp=>q _ p (After.same hA (AJ hp)) AB⟩
  have z:¬ refusal st n 1 (-9)<0:=fun e=>z (decide_eq_true e);rw[if_neg z]at q;isplit;obtain ⟨i1,i2,i3,i4,i5⟩:=Ca (by decide) z;kl_no;have KQ:n=((n.toNat:Nat):Int):=by omega
  have ph:n.toNat∈st.force:=(hA.ok.st _ i3 i4).mp (by omega);refine ⟨by show 1<=sizeLine;decide,fun p0 pZ=>?_⟩;have s1:AW H0 (upd H0 p0 (.lst [V.int 0])):=AJ pZ;refine ⟨_,rfl,h,dx,fs,rfl,s1 _ _ e1,e5 _ m1.nm.1 m1.nm.2,_,rfl,ln,_,0,.int n,rfl,rfl,Ao.of (s1 _ _ Bs),rfl,h,lc,lf,as,st,n.toNat,by rw[<- KQ];rfl,hA.same s1,ph,fun H2 p2 s2 FE vE JY kI=>?_⟩;refine ⟨p2,(falls st n.toNat).map fun (n:Nat)=>(n:Int),rfl,by rw[BJ];exact vE,by rw[length_map];omega,fun H3 p3 s3 Mj gp=>?_⟩;rw[B9]at gp;exact RG q (After.same hA (s1.trans (s2.trans s3))) (s3 _ _ (s2 _ _ AB)) gp (by rw[Bz];omega)
theorem nM:AT ["house","numbers","rows"] ["house","numbers","rows"] (AO NU):=⟨rfl,rfl,rfl,by decide+kernel,rfl,by decide+kernel,by decide+kernel⟩
theorem oK {f C CC f3:Addr}{fd d3:FuncData}(F:CB K "force" "force" NU f fd)(T:Am K C)
  (JE:AR P w K mg base As 1 f3 d3 ["row"] BA) (b3:Binds K d3 ["row"] []) (WO:mg "with_length"=some (.ref f3)) (k3:keepIn K (.ref f3)=true):
  AR P w K mg base As 8 f fd ["house","numbers","rows"] (BQ C CC 19 0 0):=by
 refine F.ok nM (fun vs H Q E h=>?_) (fun BM A outer s H vs Q E hr h=>?_)
 ·kt_chr;rfl
 ·kt_str;obtain rfl:=A5 HM;obtain rfl:=A5 Ge;kt_le;ktn_lt;refine ⟨_,AG (AQ (CI DP (Aj (AA AK AC)) (AX JE FD rfl WO k3 b3 .nil AU (AA (Ap (pv 0) rfl) AC)))),?_⟩;rw[show (19::([]:List Int))::([]:List (List Int))=[[19]]from rfl,my]at q;have gb:=hA.ok.B4;refine ⟨by show 1<=sizeLine;decide,fun p0 pZ=>?_⟩;have s1:AW H (upd H p0 (.lst [V.int 0])):=AJ pZ;refine ⟨_,rfl,h,C,dx,fs,_,rfl,s1 _ _ e1,T.cl,T.nF,e3,lf,st.force.map fun (n:Nat)=>(n:Int),rfl,by rw[BJ];exact s1 _ _ hA.Ep,by rw[length_map];omega,fun H3 p3 s3 Mj gp=>?_⟩;rw[B9]at gp;exact RG q (After.same hA (s1.trans s3)) (s3 _ _ AB) gp (by rw[Bz];omega)
theorem ZR:AT ["house","numbers","rows","refusal","lacking"] ["house","numbers","rows"] (AO NT):=⟨rfl,rfl,rfl,by decide+kernel,rfl,by decide+kernel,by decide+kernel⟩
theorem oI {f C CC g f1 f2 f3:Addr}{fd gd d1 d2 d3:FuncData}(F:CB K "needs" "needs" NT f fd)(T:Am K C)
  (MU:AR P w K mg base As 2 g gd ["house","numbers"] (HX C CC)) (b0:Binds K gd ["house","numbers"] []) (Mb:mg "refusal_of_absent"=some (.ref g)) (k0:keepIn K (.ref g)=true)
  (Bw:AR P w K mg base As 4 f1 d1 ["self","number","row"] (F2 C CC)) (m1:MH K C "lacking" f1 d1 ["self","number","row"])
  (HH:AR P w K mg base As 3 f2 d2 ["self","number"] (Oi C CC)) (m2:MH K C "needed" f2 d2 ["self","number"])
  (JE:AR P w K mg base As 1 f3 d3 ["row"] BA) (b3:Binds K d3 ["row"] []) (WO:mg "with_length"=some (.ref f3)) (k3:keepIn K (.ref f3)=true):
  AR P w K mg base As 8 f fd ["house","numbers","rows"] (BQ C CC 13 1 0):=by
 refine F.ok ZR (fun vs H Q E h=>?_) (fun BM A outer s H vs Q E hr h=>?_)
 ·kt_chr;rfl
 ·kt_str;obtain ⟨n,rfl⟩:=len_one HM;obtain rfl:=A5 Ge;kt_le;have nd:=ZR.nd;have cE:Aq 5 _:=hr.mono (by decide);have VH:Aq 4 _:=hr.mono (by decide);have Us:Aq 3 _:=hr.mono (by decide);kxf_eq;ktn_lt;refine ⟨_,AF (AZ (i:=3) nd rfl (Or.inl rfl) (AX MU Gg rfl Mb k0 b0 .nil AU (AA (pv 0) (AA (pv 1) AC))))
   (AF (A0 (Al Gs (pv 3) AK (Av _)) (AG (AQ (Aj (AA (pv 3) AC)))) Af)
   (AF (AZ (i:=4) nd rfl (Or.inl rfl) (Ac (pv 0) T.cl m1.me Bw VH m1.bi .nil AU (AA (Ar Ag (pv 1) AK (fun _ _=>rfl)) (AA (Ap (pv 0) rfl) AC))))
   (AG (AQ (CI DP (CI DP (Aj (AA AK AC)) (AX JE FD rfl WO k3 b3 .nil AU (AA (Ac (pv 0) T.cl m2.me HH Us m2.bi .nil AU (AA (Ar Ag (pv 1) AK (fun _ _=>rfl)) AC)) AC))) (AX JE FD rfl WO k3 b3 .nil AU (AA (pv 4) AC))))))),?_⟩
  rw[show (13 :: [n])::([]:List (List Int))=[[13,n]]from rfl,mx]at q;refine ⟨_,rfl,_,rfl,h,lc,lf,as,st,ln,[n],rfl,hA,Bs,by simp,fun H0 s0=>?_⟩;have hA:=hA.same s0;have Bs:=s0 _ _ Bs;have e1:=s0 _ _ e1;have q:=fun H' p (a:After C CC H0 H' h lc lf as _) e=>q H' p (a.pre s0) e;refine ⟨_,rfl,_,_,rfl,rfl,_,rfl,?_⟩;kpt_hd
  ·have z:absent st [n]<0:=of_decide_eq_true z;rw[if_pos z]at q;exact ⟨_,rfl,by show 1<=sizeLine;decide,fun p hp=>q _ p (After.same hA (AJ hp)) AB⟩
  have z:¬ absent st [n]<0:=fun e=>z (decide_eq_true e);rw[if_neg z]at q;isplit;obtain ⟨i1,i2,i3,i4,KQ⟩:=LJ z n (by simp);kl_no;have hnl:=WN hA.ok i3 i4;refine ⟨_,rfl,h,dx,fs,rfl,e1,e5 _ m1.nm.1 m1.nm.2,_,rfl,ln,_,0,.int n,rfl,rfl,Ao.of Bs,rfl,_,rfl,h,C,dx,fs,_,rfl,e1,T.cl,T.nF,e3,h,lc,lf,as,st,n.toNat,lf,st.force,by rw[<- KQ];rfl,hA,i3,i4,hA.Ep,fun H1 p1 s1 D3 bE=>?_⟩;rw[<- Hj]at bE;have hll:(lacks st n.toNat).length<=80:=Nat.le_trans (length_filter_le _ _) hnl;refine ⟨by show 1<=sizeLine;decide,fun p0 pZ=>?_⟩;have s2:AW H1 (upd H1 p0 (.lst [V.int 0])):=AJ pZ;have QB:=s1.trans s2;refine ⟨_,rfl,h,dx,fs,rfl,QB _ _ e1,e5 _ m2.nm.1 m2.nm.2,_,rfl,ln,_,0,.int n,rfl,rfl,Ao.of (QB _ _ Bs),rfl,h,lc,lf,as,st,n.toNat,by rw[<- KQ];rfl,hA.same QB,i3,i4,fun H3 p3 s3 Mj gp=>?_⟩;refine ⟨p3,(Vbdhae.needs st n.toNat).map fun (n:Nat)=>(n:Int),rfl,by rw[BJ];exact gp,by rw[length_map];omega,fun H4 p4 s4 uk yf=>?_⟩;rw[B9]at yf;refine ⟨p0,p4,_,_,rfl,rfl,s4 _ _ (s3 _ _ AB),yf,?_,fun p5 lj=>?_⟩
  ·rw[length_map,Bz,sizeLine_eq];show 1+_<=_;omega
  have s5:AW H4 (upd H4 p5 (.lst ([V.int 0]++(listed (Vbdhae.needs st n.toNat)).map V.int))):=AJ lj;have s25:=s2.trans (s3.trans (s4.trans s5));refine ⟨_,rfl,p1,(lacks st n.toNat).map fun (n:Nat)=>(n:Int),rfl,by rw[BJ];exact s25 _ _ bE,by rw[length_map];omega,fun H6 p6 s6 pY zf=>?_⟩;rw[B9]at zf;refine ⟨p5,p6,_,_,rfl,rfl,s6 _ _ AB,zf,?_,fun p7 uj=>?_⟩
  ·rw[length_append,length_map,length_map,Bz,Bz,sizeLine_eq];show 1+_+_<=_;omega
  ·refine q _ p7 (After.same hA ((s1.trans s25).trans (s6.trans (AJ uj)))) ?_;rw[AB,map_cons,map_append];rfl
theorem NI:AT ["house","numbers","rows","refusal","first","second"] ["house","numbers","rows"] (AO EF):=⟨rfl,rfl,rfl,by decide+kernel,rfl,by decide+kernel,by decide+kernel⟩
theorem Xm {f C CC g f1 f2:Addr}{fd gd d1 d2:FuncData}(F:CB K "meet" "meet" EF f fd)(T:Am K C)
  (MU:AR P w K mg base As 2 g gd ["house","numbers"] (HX C CC)) (b0:Binds K gd ["house","numbers"] []) (Mb:mg "refusal_of_absent"=some (.ref g)) (k0:keepIn K (.ref g)=true)
  (Bw:AR P w K mg base As 3 f1 d1 ["self","first","second"] (ME C CC)) (m1:MH K C "meeting" f1 d1 ["self","first","second"])
  (HH:AR P w K mg base As 2 f2 d2 ["self","first","second"] (IK C CC)) (m2:MH K C "feeding" f2 d2 ["self","first","second"]):
  AR P w K mg base As 8 f fd ["house","numbers","rows"] (BQ C CC 15 2 0):=by
 refine F.ok NI (fun vs H Q E h=>?_) (fun BM A outer s H vs Q E hr h=>?_)
 ·kt_chr;rfl
 ·kt_str;obtain ⟨n,m,rfl⟩:=RT HM;obtain rfl:=A5 Ge;kt_le;have nd:=NI.nd;have cE:Aq 5 _:=hr.mono (by decide);have VH:Aq 4 _:=hr.mono (by decide);have Us:Aq 3 _:=hr.mono (by decide);kxf_eq;ktn_lt;refine ⟨_,AF (AZ (i:=3) nd rfl (Or.inl rfl) (AX MU Gg rfl Mb k0 b0 .nil AU (AA (pv 0) (AA (pv 1) AC))))
   (AF (A0 (Al Gs (pv 3) AK (Av _)) (AG (AQ (Aj (AA (pv 3) AC)))) Af)
   (AF (AZ (i:=4) nd rfl (Or.inl rfl) (Ar Ag (pv 1) AK (fun _ _=>rfl))) (AF (AZ (i:=5) nd rfl (Or.inl rfl) (Ar Ag (pv 1) AK (fun _ _=>rfl)))
   (AG (AQ (Aj (AA AK (AA (KD (CD (Ac (pv 0) T.cl m1.me Bw Us m1.bi .nil AU (AA (pv 4) (AA (pv 5) AC)))) AK AK) (AA (KD (CD (Ac (pv 0) T.cl m2.me HH Gg m2.bi .nil AU (AA (pv 4) (AA (pv 5) AC)))) AK AK) AC))))))))),?_⟩
  rw[show (15 :: [n,m])::([]:List (List Int))=[[15,n,m]]from rfl,sW]at q;refine ⟨_,rfl,_,rfl,h,lc,lf,as,st,ln,[n,m],rfl,hA,Bs,by simp,fun H0 s0=>?_⟩;have hA:=hA.same s0;have Bs:=s0 _ _ Bs;have e1:=s0 _ _ e1;have q:=fun H' p (a:After C CC H0 H' h lc lf as _) e=>q H' p (a.pre s0) e;refine ⟨_,rfl,_,_,rfl,rfl,_,rfl,?_⟩;kpt_hd
  ·have z:absent st [n,m]<0:=of_decide_eq_true z;rw[if_pos z]at q;exact ⟨_,rfl,by show 1<=sizeLine;decide,fun p hp=>q _ p (After.same hA (AJ hp)) AB⟩
  have z:¬ absent st [n,m]<0:=fun e=>z (decide_eq_true e);rw[if_neg z]at q;isplit;obtain ⟨i1,i2,i3,i4,KQ⟩:=LJ z n (by simp);kl_no;isplit;obtain ⟨j1,j2,j3,j4,hmm⟩:=LJ z m (by simp);kl_no;refine ⟨_,rfl,ln,_,0,.int n,rfl,rfl,Ao.of Bs,rfl,?_⟩;refine ⟨_,rfl,ln,_,1,.int m,rfl,rfl,Ao.of Bs,rfl,?_⟩;refine ⟨_,rfl,h,dx,fs,rfl,e1,e5 _ m1.nm.1 m1.nm.2,_,rfl,_,rfl,h,lc,lf,as,st,n.toNat,m.toNat,by rw[<- KQ, <- hmm];rfl,hA,⟨i3,i4⟩,⟨j3,j4⟩,fun H1 s1=>⟨_,rfl,?_⟩⟩;have fin:∀b:Bool,b=meets (opsAt st n.toNat) (opsAt st m.toNat)->∀(H2:Hp),AW H1 H2->∀c:Bool,c=feeds (opsAt st n.toNat) (opsAt st m.toNat)->(3<=sizeLine/\∀p,H2 p=none->Q (.ref p) (upd H2 p (.lst [V.int 0,V.int (if b=true then 1 else 0),V.int (if c=true then 1 else 0)]))):=fun b hb H2 s2 c hc=>by
   refine ⟨by decide,fun p hp=>?_⟩;rw[<- hb, <- hc]at q;exact q _ p (After.same hA ((s1.trans s2).trans (AJ hp))) AB
  refine BG (fun y=>?_) (fun y=>?_)
  ·refine ⟨_,rfl,h,dx,fs,rfl,s1 _ _ e1,e5 _ m2.nm.1 m2.nm.2,_,rfl,_,rfl,h,lc,lf,as,st,n.toNat,m.toNat,by rw[<- KQ, <- hmm];rfl,hA.same s1,⟨i3,i4⟩,⟨j3,j4⟩,fun H2 s2=>⟨_,rfl,?_⟩⟩;refine BG (fun x=>?_) (fun x=>?_)
   ·exact fin true y.symm H2 s2 true x.symm
   ·exact fin true y.symm H2 s2 false (Bool.eq_false_iff.mpr x).symm
  ·refine ⟨_,rfl,h,dx,fs,rfl,s1 _ _ e1,e5 _ m2.nm.1 m2.nm.2,_,rfl,_,rfl,h,lc,lf,as,st,n.toNat,m.toNat,by rw[<- KQ, <- hmm];rfl,hA.same s1,⟨i3,i4⟩,⟨j3,j4⟩,fun H2 s2=>⟨_,rfl,?_⟩⟩;refine BG (fun x=>?_) (fun x=>?_)
   ·exact fin false (Bool.eq_false_iff.mpr y).symm H2 s2 true x.symm
   ·exact fin false (Bool.eq_false_iff.mpr y).symm H2 s2 false (Bool.eq_false_iff.mpr x).symm
theorem mv (s:Vbdhae.State):stepNumbers s [[20]]=(s,[0,Vbdhae.nat s.changes.length,Vbdhae.nat (s.changes.filter fun c=>c.status==0).length,Vbdhae.nat s.force.length,Vbdhae.nat (values s).length]):=rfl
theorem LV {l:Values}(h:Ue l):(((l.map (·.1)).length:Int)::(l.map (·.1)).flatMap (M7 l))=thingsTold l:=by
 unfold thingsTold;rw[<- Y9 h,length_map];rfl
theorem tS {l:Values}(h:Ue l):l.length<=200:=by
 have:=II (l.map (·.1)) 11 210 (pairwise_map.mpr h.sorted) fun x hx=>by
  obtain ⟨y,hy,rfl⟩:=mem_map.mp hx;have:=(h.thing y hy).parts;omega
 rw[length_map]at this;omega
theorem Vw:AT ["house","numbers","rows","refusal","asked"] ["house","numbers","rows"] (AO Jz):=⟨rfl,rfl,rfl,by decide+kernel,rfl,by decide+kernel,by decide+kernel⟩
theorem jW {f C CC g f1 f3:Addr}{fd gd d1 d3:FuncData}(F:CB K "change" "change" Jz f fd)(T:Am K C)
  (TC:Br K CC) (bl:mg "len"=none) (MU:AR P w K mg base As 2 g gd ["house","numbers"] (HX C CC)) (b0:Binds K gd ["house","numbers"] []) (Mb:mg "refusal_of_absent"=some (.ref g)) (k0:keepIn K (.ref g)=true)
  (Bw:AR P w K mg base As 1 f1 d1 ["self","number"] (A9 C CC)) (m1:MH K C "numbered" f1 d1 ["self","number"])
  (JE:AR P w K mg base As 1 f3 d3 ["row"] BA) (b3:Binds K d3 ["row"] []) (WO:mg "with_length"=some (.ref f3)) (k3:keepIn K (.ref f3)=true):
  AR P w K mg base As 8 f fd ["house","numbers","rows"] (BQ C CC 16 1 0):=by
 refine F.ok Vw (fun vs H Q E h=>?_) (fun BM A outer s H vs Q E hr h=>?_)
 ·kt_chr;rfl
 ·kt_str;obtain ⟨n,rfl⟩:=len_one HM;obtain rfl:=A5 Ge;kt_le;have nd:=Vw.nd;have cE:Aq 5 _:=hr.mono (by decide);have VH:Aq 4 _:=hr.mono (by decide);have Us:Aq 3 _:=hr.mono (by decide);kxf_eq;ktn_lt;refine ⟨_,AF (AZ (i:=3) nd rfl (Or.inl rfl) (AX MU Gg rfl Mb k0 b0 .nil AU (AA (pv 0) (AA (pv 1) AC))))
   (AF (A0 (Al Gs (pv 3) AK (Av _)) (AG (AQ (Aj (AA (pv 3) AC)))) Af)
   (AF (AZ (i:=4) nd rfl (Or.inl rfl) (Ac (pv 0) T.cl m1.me Bw FD m1.bi .nil AU (AA (Ar Ag (pv 1) AK (fun _ _=>rfl)) AC)))
   (AG (AQ (CI DP (CI DP (Aj (AA AK (AA (Ap (pv 4) rfl) (AA (Ap (pv 4) rfl) (AA (Aa Ae (by rfl) bl PySem.boot_len (AA (Ap (pv 4) rfl) AC)) AC))))) (AX JE FD rfl WO k3 b3 .nil AU (AA (Ap (pv 4) rfl) AC))) (Ap (pv 4) rfl)))))),?_⟩
  rw[show (16 :: [n])::([]:List (List Int))=[[16,n]]from rfl,iy]at q;refine ⟨_,rfl,_,rfl,h,lc,lf,as,st,ln,[n],rfl,hA,Bs,by simp,fun H0 s0=>?_⟩;have hA:=hA.same s0;have Bs:=s0 _ _ Bs;have e1:=s0 _ _ e1;have q:=fun H' p (a:After C CC H0 H' h lc lf as _) e=>q H' p (a.pre s0) e;refine ⟨_,rfl,_,_,rfl,rfl,_,rfl,?_⟩;kpt_hd
  ·have z:absent st [n]<0:=of_decide_eq_true z;rw[if_pos z]at q;exact ⟨_,rfl,by show 1<=sizeLine;decide,fun p hp=>q _ p (After.same hA (AJ hp)) AB⟩
  have z:¬ absent st [n]<0:=fun e=>z (decide_eq_true e);rw[if_neg z]at q;isplit;obtain ⟨i1,i2,i3,i4,KQ⟩:=LJ z n (by simp);kl_no;isplit;obtain ⟨b,b1,b2,b3'⟩:=hA.at i3 i4;kl_no;obtain ⟨kk1,kk2,kk3⟩:=hA.ok.known i3 i4;refine ⟨_,rfl,h,dx,fs,rfl,e1,e5 _ m1.nm.1 m1.nm.2,_,rfl,ln,_,0,.int n,rfl,rfl,Ao.of Bs,rfl,h,lc,lf,as,st,n.toNat,b,by rw[<- KQ];rfl,hA,i3,b1,?_⟩;isplit;obtain ⟨Hq,la,ls,lt,IB,asc,g1,g2,g3,g4,g5,g6,g7,g8,g9,yX,zW⟩:=b2.ex;kl_no;isplit;obtain ⟨dxe,lx,fse,j1,j2,j3,j4,j5,j6⟩:=b2.ed.ex;kl_no;rw[g1]at j1;cases j1;generalize changeAt st n.toNat=c at *;refine ⟨_,rfl,b,CC,Hq,IB,_,rfl,g1,TC.cl,TC.nE,j2,_,rfl,b,CC,Hq,IB,_,rfl,g1,TC.cl,TC.nC,g5,_,rfl,b,CC,Hq,IB,_,rfl,g1,TC.cl,TC.nS,g3,ls,_,rfl,.inl (Ao.of g9),by show 4<=sizeLine;decide,fun p0 pZ=>?_⟩;rw[Ak];have s1:AW H0 (upd H0 p0 (.lst [V.int 0,V.int (c.editor:Nat),V.int (c.status:Nat),V.int (c.seen.length:Nat)])):=AJ pZ;refine ⟨_,rfl,b,CC,Hq,IB,_,rfl,s1 _ _ g1,TC.cl,TC.nT,g4,lt,c.on.map fun (n:Nat)=>(n:Int),rfl,by rw[BJ];exact s1 _ _ yX,by rw[length_map];omega,fun H2 p2 s2 FE vE=>?_⟩;rw[B9]at vE;refine ⟨p0,p2,_,_,rfl,rfl,s2 _ _ AB,vE,?_,fun p3 Mj=>?_⟩
  ·rw[length_map,Bz,sizeLine_eq];show 4+_<=_;omega
  have s3:AW H2 (upd H2 p3 (.lst ([V.int 0,V.int (c.editor:Nat),V.int (c.status:Nat),V.int (c.seen.length:Nat)]++(listed c.on).map V.int))):=AJ Mj;have Qh:=s1.trans (s2.trans s3);refine ⟨_,rfl,b,CC,Hq,IB,_,rfl,Qh _ _ g1,TC.cl,TC.nX,j3,p3,lx,_,_,rfl,rfl,AB,Qh _ _ j4,?_,fun p4 uk=>?_⟩
  ·rw[length_append,length_map,Bz,Ak,sizeLine_eq];show 4+_+_<=_;omega
  ·refine q _ p4 (After.same hA (Qh.trans (AJ uk))) ?_;rw[AB];simp only[map_cons,map_append,map_nil,cons_append,nil_append,map_map];rfl
theorem jH:AT ["house","numbers","rows"] ["house","numbers","rows"] (AO Ju):=⟨rfl,rfl,rfl,by decide+kernel,rfl,by decide+kernel,by decide+kernel⟩
theorem jO {f C CC f1 f2:Addr}{fd d1 d2:FuncData}(F:CB K "writer" "writer" Ju f fd)(T:Am K C)
  (oC:Gv mg "OUT_OF_RANGE" (.int (-1)))
  (Bw:AR P w K mg base As 2 f1 d1 ["self","thing"] (JA C CC)) (m1:MH K C "last_writing" f1 d1 ["self","thing"])
  (HH:AR P w K mg base As 1 f2 d2 ["entry","field"] Jm) (b2:Binds K d2 ["entry","field"] []) (ol:mg "is_thing"=some (.ref f2)) (k2:keepIn K (.ref f2)=true):
  AR P w K mg base As 8 f fd ["house","numbers","rows"] (BQ C CC 17 2 0):=by
 refine F.ok jH (fun vs H Q E h=>?_) (fun BM A outer s H vs Q E hr h=>?_)
 ·kt_chr;rfl
 ·kt_str;obtain ⟨n,m,rfl⟩:=RT HM;obtain rfl:=A5 Ge;kt_le;obtain ⟨u1,g1,r1⟩:=oC;kxf_eq;ktn_lt;refine ⟨_,AF (A0 (EJ (CD (AX HH FD rfl ol k2 b2 .nil AU (AA (Ar Ag (pv 1) AK (fun _ _=>rfl)) (AA (Ar Ag (pv 1) AK (fun _ _=>rfl)) AC))))) (AG (AQ (Aj (AA (Ad rfl g1 r1) AC)))) Af)
   (AG (AQ (Aj (AA AK (AA (Ac (pv 0) T.cl m1.me Bw Gg m1.bi .nil AU (AA (SM (AA (Ar Ag (pv 1) AK (fun _ _=>rfl)) (AA (Ar Ag (pv 1) AK (fun _ _=>rfl)) AC))) AC)) AC))))),?_⟩
  rw[show (17 :: [n,m])::([]:List (List Int))=[[17,n,m]]from rfl,iq]at q;refine ⟨_,rfl,ln,_,0,.int n,rfl,rfl,Ao.of Bs,rfl,_,rfl,ln,_,1,.int m,rfl,rfl,Ao.of Bs,rfl,n,m,rfl,_,rfl,?_⟩;cases z:(isE n&&isF m)with
  |false=>
   rw[z,if_neg (by decide)]at q;exact CJ ⟨by show 1<=sizeLine;decide,fun p hp=>q _ p (After.same hA (AJ hp)) AB⟩
  |true=>
   rw[z,if_pos rfl]at q;refine B1 ?_;obtain ⟨hc,Ti⟩:=key_is z;generalize 10*n.toNat+m.toNat=c at q hc Ti;refine ⟨_,rfl,h,dx,fs,rfl,e1,e5 _ m1.nm.1 m1.nm.2,_,rfl,ln,_,0,.int n,rfl,rfl,Ao.of Bs,rfl,_,rfl,ln,_,1,.int m,rfl,rfl,Ao.of Bs,rfl,by show 2<=sizeLine;decide,fun b hb=>?_⟩;have s1:AW H (upd H b (.tup [.int n,.int m])):=AJ hb;have ht:Ai (upd H b (.tup [.int n,.int m])) b c:=by
    show (upd H b (.tup [.int n,.int m])) b=some (.tup ((A8 c).map kV));rw[<- Ti,AB]
   refine ⟨h,lc,lf,as,st,b,c,rfl,hA.same s1,ht,by show 2<=sizeLine;decide,fun p hp=>?_⟩;exact q _ p (After.same hA (s1.trans (AJ hp))) AB
theorem Vq:AT ["house","numbers","rows","held"] ["house","numbers","rows"] (AO Jw):=⟨rfl,rfl,rfl,by decide+kernel,rfl,by decide+kernel,by decide+kernel⟩
theorem jQ {f C CC f1 f2 f4:Addr}{fd d1 d2 d4:FuncData}(F:CB K "things" "things" Jw f fd)(T:Am K C)
  (Bw:AR P w K mg base As 5 f1 d1 ["self"] (CQ C CC)) (m1:MH K C "held_values" f1 d1 ["self"])
  (HH:AR P w K mg base As 1 f2 d2 ["held"] Ol) (b2:Binds K d2 ["held"] []) (ol:mg "filled_things"=some (.ref f2)) (k2:keepIn K (.ref f2)=true)
  (oQ:AR P w K mg base As 2 f4 d4 ["chosen","held"] XH) (b4:Binds K d4 ["chosen","held"] []) (xg:mg "told_with_values"=some (.ref f4)) (k4:keepIn K (.ref f4)=true):
  AR P w K mg base As 8 f fd ["house","numbers","rows"] (BQ C CC 10 0 0):=by
 refine F.ok Vq (fun vs H Q E h=>?_) (fun BM A outer s H vs Q E hr h=>?_)
 ·kt_chr;rfl
 ·kt_str;obtain rfl:=A5 HM;obtain rfl:=A5 Ge;kt_le;have nd:=Vq.nd;have cE:Aq 5 _:=hr.mono (by decide);kxf_eq;ktn_lt;refine ⟨_,AF (AZ (i:=3) nd rfl (Or.inl rfl) (C8 (pv 0) T.cl m1.me Bw cE m1.bi .nil AU))
   (AG (AQ (CI DP (Aj (AA AK AC)) (AX oQ Gg rfl xg k4 b4 .nil AU (AA (AX HH FD rfl ol k2 b2 .nil AU (AA (pv 3) AC)) (AA (pv 3) AC)))))),?_⟩
  rw[show (10::([]:List Int))::([]:List (List Int))=[[10]]from rfl,iu]at q;refine ⟨_,rfl,h,dx,fs,rfl,e1,e5 _ m1.nm.1 m1.nm.2,h,lc,lf,as,st,rfl,hA,fun H1 d s1 hd=>?_⟩;obtain ⟨AV,hk,hh⟩:=hd;have BL:=hh.ok;have uo:=tS BL;refine ⟨by show 1<=sizeLine;decide,fun p0 pZ=>?_⟩;have s2:AW H1 (upd H1 p0 (.lst [V.int 0])):=AJ pZ;refine ⟨_,rfl,d,_,_,rfl,⟨AV,s2 _ _ hk,hh⟩,by omega,fun H3 p3 bs s3 Mj ax gp=>?_⟩;refine ⟨_,rfl,p3,d,bs,_,_,_,rfl,gp,ax,fun c hc=>?_,by rw[length_map];omega,⟨AV,s3 _ _ (s2 _ _ hk),hh⟩,fun H4 p4 s4 uk yf=>?_⟩
  ·obtain ⟨x,hx,rfl⟩:=mem_map.mp hc;exact BL.thing x hx
  ·rw[LV BL]at yf;refine RG q (After.same hA (s1.trans (s2.trans (s3.trans s4)))) (s4 _ _ (s3 _ _ AB)) yf ?_;rw[<- LV BL,length_cons];have:=M6 BL ((values st).map (·.1));rw[length_map]at this;omega
theorem ZP:AT ["house","numbers","rows","drafts","filled","one"] ["house","numbers","rows"] (AO NR):=⟨rfl,rfl,rfl,by decide+kernel,rfl,by decide+kernel,by decide+kernel⟩
theorem oG {f C CC f1 f2:Addr}{fd d1 d2:FuncData}(F:CB K "state" "state" NR f fd)(T:Am K C)
  (TC:Br K CC) (bl:mg "len"=none) (dr:Gv mg "DRAFT" (.int 0))
  (Bw:AR P w K mg base As 5 f1 d1 ["self"] (CQ C CC)) (m1:MH K C "held_values" f1 d1 ["self"])
  (HH:AR P w K mg base As 1 f2 d2 ["held"] Ol) (b2:Binds K d2 ["held"] []) (ol:mg "filled_things"=some (.ref f2)) (k2:keepIn K (.ref f2)=true):
  AR P w K mg base As 8 f fd ["house","numbers","rows"] (BQ C CC 20 0 0):=by
 refine F.ok ZP (fun vs H Q E h=>?_) (fun BM A outer s H vs Q E hr h=>?_)
 ·kt_chr;rfl
 ·kt_str;obtain rfl:=A5 HM;obtain rfl:=A5 Ge;kt_le;have nd:=ZP.nd;obtain ⟨u1,g1,r1⟩:=dr;have cE:Aq 5 _:=hr.mono (by decide);ktn_lt;refine ⟨_,AF (Zm (i:=3) (own:= [("one",5)]) rfl nd rfl rfl (fV rfl rfl rfl (by decide+kernel)) (BF (Ap (pv 0) rfl)) (Bn (by kernel_rfl)) (fun _ _ _ _ _=>A2 (i:=5) nd rfl (Or.inl rfl))
    (fun _ _ _ _ _=>IX (Al Ea (Xg K (pv 5)) (Ad (by rfl) g1 r1) (Av _))) (fun _ _ _ _ _=>pv 5))
   (AF (AZ (i:=4) nd rfl (Or.inl rfl) (AX HH FD rfl ol k2 b2 .nil AU (AA (C8 (pv 0) T.cl m1.me Bw cE m1.bi .nil AU) AC)))
   (AG (AQ (Aj (AA AK (AA (Aa Ae (by rfl) bl PySem.boot_len (AA (Ap (pv 0) rfl) AC)) (AA (Aa Ae (by rfl) bl PySem.boot_len (AA (pv 3) AC)) (AA (Aa Ae (by rfl) bl PySem.boot_len (AA (Ap (pv 0) rfl) AC)) (AA (Aa Ae (by rfl) bl PySem.boot_len (AA (pv 4) AC)) AC))))))))),?_⟩
  rw[show (20::([]:List Int))::([]:List (List Int))=[[20]]from rfl,mv]at q;have hlen:=hA.ok.len;refine ⟨_,rfl,h,C,dx,fs,_,rfl,e1,T.cl,T.nC,e2,lc,rfl,⟨_,Ao.of hA.Gf⟩,fun D hD=>?_⟩;refine DI (K:=K) (a:=lc) (xs:=as.map V.ref) (fun i H'=>∃acc:List V,H' D=some (.lst acc)/\acc.length=((st.changes.take i).filter fun c=>c.status==0).length/\AW H H')
   ⟨[],AB,rfl,AJ hD⟩ (fun i H' _ ⟨_,_,_,s'⟩=>Ao.of (s' _ _ hA.Gf)) ?_ ?_
  ·intro i x H' hx zz;isplit;obtain ⟨acc,Ct,ll,s'⟩:=zz;kl_no;obtain ⟨b,hb,rfl⟩:=J3 hx;obtain ⟨c,hc,kK⟩:=Az hA.all hb;isplit;obtain ⟨Hq,la,ls,lt,IB,asc,g1',g2,g3,g4,g5,g6⟩:=kK.ex;kl_no;have hi:=(List.getElem?_eq_some_iff.mp hc).1;have hle:((st.changes.take i).filter fun c=>c.status==0).length<=i:=Nat.le_trans (length_filter_le _ _) (length_take_le _ _);refine ⟨rfl,?_⟩;refine ⟨_,rfl,b,CC,Hq,IB,_,rfl,s' _ _ g1',TC.cl,TC.nC,g5,rfl,_,rfl,?_⟩;kpt_hd
   ·have z:c.status=0:=by simpa using z
    refine ⟨_,rfl,acc,Ct,by rw[sizeLine_eq];omega,acc ++ [V.ref b],AB,?_,fun x o e=>by rw[AI (AH e hD)];exact s' _ _ e⟩;rw[Ay hc,DB,if_pos (by rw[z];rfl),length_append,length_append,ll];rfl
   ·have z:¬ c.status=0:=by simpa using z
    refine ⟨acc,Ct,?_,s'⟩;rw[Ay hc,DB,if_neg (by simpa using z),append_nil,ll]
  ·intro H1 zz;isplit;obtain ⟨acc,yT,ll,s1⟩:=zz;kl_no;rw[length_map,hA.len,take_length]at ll;refine ⟨_,rfl,h,dx,fs,rfl,s1 _ _ e1,e5 _ m1.nm.1 m1.nm.2,h,lc,lf,as,st,rfl,hA.same s1,fun H2 d s2 hd=>?_⟩;refine ⟨d,_,_,rfl,hd,by omega,fun H3 p3 bs s3 Mj ax gp=>?_⟩;have Qh:=s1.trans (s2.trans s3);have hl:=BZ ax;rw[length_map]at hl;refine ⟨_,rfl,h,C,dx,fs,_,rfl,Qh _ _ e1,T.cl,T.nC,e2,lc,_,rfl,.inl (Ao.of (Qh _ _ hA.Gf)),_,rfl,D,_,rfl,.inl (Ao.of (s3 _ _ (s2 _ _ yT))),_,rfl,h,C,dx,fs,_,rfl,Qh _ _ e1,T.cl,T.nF,e3,lf,_,rfl,.inl (Ao.of (Qh _ _ hA.Ep)),_,rfl,p3,_,rfl,.inl (Ao.of gp),by show 5<=sizeLine;decide,fun p hp=>?_⟩;rw[length_map,hA.len,ll,Ak,length_map,hl];exact q _ p (After.same hA (Qh.trans (AJ hp))) AB
theorem UA {a b:Values}(ha:Ue a)(hb:Ue b):∀c∈differing a b,Aw c:=fun c hc=>by
 have h:=(HI ha hb c).mp hc;by_cases z:valueOf a c=[]
 ·have:valueOf b c≠ []:=fun e=>h (by rw[z,e]);obtain ⟨x,hx,rfl⟩:=mem_map.mp (IG this);exact hb.thing x hx
 ·obtain ⟨x,hx,rfl⟩:=mem_map.mp (IG z);exact ha.thing x hx
theorem bJ {a b:Values}(ha:Ue a)(hb:Ue b):(differing a b).length<=200:=by
 have:=II (differing a b) 11 210 (Hr a b) fun x hx=>by
  have:=(UA ha hb x hx).parts;omega
 omega
theorem kZ {a:Values}(ha:Ue a):differing a a=[]:=by
 cases e:differing a a with
 |nil=>rfl
 |cons c r=>
  have:c∈differing a a:=by rw[e];exact mem_cons_self
  exact absurd rfl ((HI ha ha c).mp this)
theorem Yz (s:Vbdhae.State)(n:Nat):valuesBy s (s.force ++ [n])=Vbdhae.done (opsAt s n) (values s):=by
 unfold values valuesBy;rw[foldl_append];rfl
theorem mq (s:Vbdhae.State)(n:Int):stepNumbers s [[11,n]]=if refusal s n 0 (-6)<0 then (s,[refusal s n 0 (-6)])else
  (s,0::([flag (holds (opsAt s n.toNat) (values s)),Vbdhae.nat (differing (values s) (Vbdhae.done (opsAt s n.toNat) (values s))).length]++(differing (values s) (Vbdhae.done (opsAt s n.toNat) (values s))).flatMap (M7 (Vbdhae.done (opsAt s n.toNat) (values s))))):=by
 rw[<- Yz];exact Et (l:= []) (x:= .ok (s,[flag (holds (opsAt s n.toNat) (values s)),Vbdhae.nat (differing (values s) (valuesBy s (s.force ++ [n.toNat]))).length]++(differing (values s) (valuesBy s (s.force ++ [n.toNat]))).flatMap (M7 (valuesBy s (s.force ++ [n.toNat]))))) rfl rfl
def ZB (c:Nat):List Int:= [Vbdhae.nat (c / 10),Vbdhae.nat (c % 10)]
theorem Vj:∀l:List Nat,(l.flatMap ZB).length=2*l.length
 | []=>rfl
 |c::r=>by
  rw[flatMap_cons,length_append,Vj r,length_cons];show 2+_=_;omega
theorem mw (s:Vbdhae.State)(l:List Int):stepNumbers s [[18],l]=if Vbdhae.few l 40=true then (if isOrder s (nats l)=true then
  (s,0::Vbdhae.nat (differing (values s) (valuesBy s (nats l))).length::(differing (values s) (valuesBy s (nats l))).flatMap ZB)else (s,[-11]))else (s,[-1]):=by
 show (match Vbdhae.guard (Vbdhae.few l 40) (.order l)with | none=>(s,[-1]) | some x=>Vbdhae.step s x)=_;unfold Vbdhae.guard;by_cases h:Vbdhae.few l 40=true
 ·rw[if_pos h,if_pos h];show (match guards [(!isOrder s (nats l), -11)] (.ok (s,Vbdhae.nat (differing (values s) (valuesBy s (nats l))).length::(differing (values s) (valuesBy s (nats l))).flatMap ZB))with | .error e=>(s,[e]) | .ok (t,l)=>(t,0::l))=_;rw[BK,Er];cases isOrder s (nats l)with
  |false=>rfl
  |true=>rfl
 ·rw[if_neg h,if_neg h]
theorem sub_len:∀{a b:List Nat},a.Nodup->(∀x∈a,x∈b)->a.length<=b.length
 | [],b,_,_=>zero_le _
 |x::a,b,h,hs=>by
  rw[nodup_cons]at h;have hx:=hs x mem_cons_self;have:=sub_len (b:=b.erase x) h.2 fun y hy=>(List.mem_erase_of_ne (fun e=>h.1 (by rw[<- e];exact hy))).mpr (hs y (mem_cons_of_mem _ hy));rw[List.length_erase_of_mem hx]at this;have:=List.length_pos_of_mem hx;rw[length_cons];omega
theorem WD {s:Vbdhae.State}{l:List Nat}(hf:s.force.Nodup)(hl:l.Nodup):isOrder s l=decide (rising l=rising s.force):=by
 unfold isOrder;rw[Bool.eq_iff_iff,Bool.and_eq_true,beq_iff_eq,all_eq_true,decide_eq_true_eq];constructor
 ·rintro ⟨h1,h2⟩;have uf:∀x∈s.force,x∈l:=fun x hx=>by simpa using h2 x hx
  refine V0 hl hf fun x=>⟨fun hx=>?_,uf x⟩;cases q:decide (x∈s.force)with
  |true=>exact of_decide_eq_true q
  |false=>
   have q:=of_decide_eq_false q;have:=sub_len (b:=l.erase x) hf fun y hy=>(List.mem_erase_of_ne (fun e=>q (by rw[<- e];exact hy))).mpr (uf y hy);rw[List.length_erase_of_mem hx]at this;have:=List.length_pos_of_mem hx;omega
 ·intro e;have hp:l.Perm s.force:=((Au l).symm.trans (by rw[e])).trans (Au s.force);exact ⟨hp.length_eq,fun x hx=>by simpa using hp.mem_iff.mpr hx⟩
theorem qL {l:List Int}(h:Vbdhae.few l 40=true):l.length<=40/\(∀x∈l,1<=x/\x<=40)/\(nats l).Nodup/\l=(nats l).map fun (n:Nat)=>(n:Int):=by
 rw[gn]at h;unfold NY at h;rw[Bool.and_eq_true,Bool.and_eq_true,decide_eq_true_eq,decide_eq_true_eq,all_eq_true]at h;have hr:∀x∈l,1<=x/\x<=40:=fun x hx=>K4.mp (h.1.2 x hx);have gZ:=(Pj _ l (Nat.le_refl _)).1.mp h.2;have he:l=(nats l).map fun (n:Nat)=>(n:Int):=by
  unfold nats;rw[map_map];have:∀x∈l,((fun (n:Nat)=>(n:Int))∘Int.toNat) x=id x:=fun x hx=>by
   show ((x.toNat:Nat):Int)=x;have:=hr x hx;omega
  rw[map_congr_left this,map_id]
 refine ⟨by have:=h.1.1;omega,hr,?_,he⟩;rw[he]at gZ;exact (pairwise_map.mp gZ).imp fun n e=>n (by rw[e])
theorem bC:∀(a b:List Int),PyData.eqvAll (a.map .int) (b.map .int)=decide (a=b)
 | [],[]=>by simp[PyData.eqvAll]
 | [],y::b=>by simp[PyData.eqvAll]
 |x::a,[]=>by simp[PyData.eqvAll]
 |x::a,y::b=>by
  rw[map_cons,map_cons,PyData.eqvAll,bC a b,PyData.eqv];rw[Bool.eq_iff_iff];simp
theorem lay_ints:∀a:List Int,PyData.canLayAll0 (a.map .int)=true/\PyData.depthAll (a.map .int)<=1
 | []=>⟨rfl,by simp[PyData.depthAll]⟩
 |x::a=>by
  have:=lay_ints a;refine ⟨?_,?_⟩
  ·rw[map_cons,PyData.canLayAll0,this.1,PyData.canLay0];rfl
  ·rw[map_cons,PyData.depthAll,PyData.depth];omega
theorem shaped_ints (a:List Int):SeqAt.shaped (.list (a.map .int))=true:=by
 have:=lay_ints a;unfold SeqAt.shaped;rw[PyData.canLay0,this.1,PyData.depth,Bool.true_and];exact decide_eq_true (by omega)
theorem YT {K:PySem.W.Frag}{H:Hp}:∀ns:List Int,Up K H (ns.map V.int) (ns.map .int)
 | []=> .nil
 |n::r=> .cons (.int n) (YT r)
theorem jh {a b:List Nat}(h:a.map (fun (n:Nat)=>(n:Int))=b.map (fun (n:Nat)=>(n:Int))):a=b:=
 (List.map_inj_right (fun x y e=>by omega)).mp h
def Oh:Sp:=fun vs H Q _=>∃(d e:Addr) (n:Nat) (l m:Values),vs=[.ref d,.ref e]/\HeldAt H d n l/\HeldAt H e n m/\n<=9000/\
 ∀H' p bs,AW H H'->H p=none->Paired (fun b c=>Ai H' b c) bs (differing l m)->H' p=some (.lst (bs.map V.ref))->Q (.ref p) H'
theorem ZL:AT ["house","numbers","rows","refusal","held","after"] ["house","numbers","rows"] (AO NP):=⟨rfl,rfl,rfl,by decide+kernel,rfl,by decide+kernel,by decide+kernel⟩
theorem oE {f C CC g f1 f2 f3 f4 f5:Addr}{fd gd d1 d2 d3 d4 d5:FuncData}(F:CB K "would" "would" NP f fd)(T:Am K C)
  (MU:AR P w K mg base As 4 g gd ["house","number"] (Bk C CC 0 (-6))) (b0:Binds K gd ["house","number"] []) (Mb:mg "refusal_of_draft"=some (.ref g)) (k0:keepIn K (.ref g)=true)
  (Bw:AR P w K mg base As 5 f1 d1 ["self"] (CQ C CC)) (m1:MH K C "held_values" f1 d1 ["self"])
  (HH:AR P w K mg base As 1 f2 d2 ["self","number"] (A9 C CC)) (m2:MH K C "numbered" f2 d2 ["self","number"])
  (JE:AR P w K mg base As 2 f3 d3 ["change","held"] (EE CC)) (b3:Binds K d3 ["change","held"] []) (WO:mg "values_if_done"=some (.ref f3)) (k3:keepIn K (.ref f3)=true)
  (oQ:AR P w K mg base As 2 f4 d4 ["chosen","held"] XH) (b4:Binds K d4 ["chosen","held"] []) (xg:mg "told_with_values"=some (.ref f4)) (k4:keepIn K (.ref f4)=true)
  (ok5:AR P w K mg base As 1 f5 d5 ["before","after"] Oh) (b5:Binds K d5 ["before","after"] []) (mg5:mg "unlike_things"=some (.ref f5)) (k5:keepIn K (.ref f5)=true):
  AR P w K mg base As 8 f fd ["house","numbers","rows"] (BQ C CC 11 1 0):=by
 refine F.ok ZL (fun vs H Q E h=>?_) (fun BM A outer s H vs Q E hr h=>?_)
 ·kt_chr;rfl
 ·kt_str;obtain ⟨n,rfl⟩:=len_one HM;obtain rfl:=A5 Ge;kt_le;have nd:=ZL.nd;have cE:Aq 5 _:=hr.mono (by decide);have VH:Aq 4 _:=hr.mono (by decide);have Us:Aq 3 _:=hr.mono (by decide);kxf_eq;ktn_lt;refine ⟨_,AF (AZ (i:=3) nd rfl (Or.inl rfl) (AX MU VH rfl Mb k0 b0 .nil AU (AA (pv 0) (AA (Ar Ag (pv 1) AK (fun _ _=>rfl)) AC))))
   (AF (A0 (Al Gs (pv 3) AK (Av _)) (AG (AQ (Aj (AA (pv 3) AC)))) Af)
   (AF (AZ (i:=4) nd rfl (Or.inl rfl) (C8 (pv 0) T.cl m1.me Bw cE m1.bi .nil AU))
   (AF (AZ (i:=5) nd rfl (Or.inl rfl) (AX JE Gg rfl WO k3 b3 .nil AU (AA (Ac (pv 0) T.cl m2.me HH FD m2.bi .nil AU (AA (Ar Ag (pv 1) AK (fun _ _=>rfl)) AC)) (AA (pv 4) AC))))
   (AF (A0 (Al oB (pv 5) Ek (Av _)) (AG (AQ (Aj (AA AK (AA AK (AA AK AC)))))) Af)
   (AG (AQ (CI DP (Aj (AA AK (AA AK AC))) (AX oQ Gg rfl xg k4 b4 .nil AU (AA (AX ok5 FD rfl mg5 k5 b5 .nil AU (AA (pv 4) (AA (pv 5) AC))) (AA (pv 5) AC)))))))))),?_⟩
  rw[show (11 :: [n])::([]:List (List Int))=[[11,n]]from rfl,mq]at q;refine ⟨_,rfl,_,rfl,ln,_,0,.int n,rfl,rfl,Ao.of Bs,rfl,h,lc,lf,as,st,n,rfl,hA,fun H0 s0=>?_⟩;have hA:=hA.same s0;have Bs:=s0 _ _ Bs;have e1:=s0 _ _ e1;have q:=fun H' p (a:After C CC H0 H' h lc lf as _) e=>q H' p (a.pre s0) e;refine ⟨_,rfl,_,_,rfl,rfl,_,rfl,?_⟩;kpt_hd
  ·have z:refusal st n 0 (-6)<0:=of_decide_eq_true z;rw[if_pos z]at q;exact ⟨_,rfl,by show 1<=sizeLine;decide,fun p hp=>q _ p (After.same hA (AJ hp)) AB⟩
  have z:¬ refusal st n 0 (-6)<0:=fun e=>z (decide_eq_true e);rw[if_neg z]at q;isplit;obtain ⟨i1,i2,i3,i4,i5⟩:=Ca (by decide) z;kl_no;have KQ:n=((n.toNat:Nat):Int):=by omega
  refine ⟨_,rfl,h,dx,fs,rfl,e1,e5 _ m1.nm.1 m1.nm.2,h,lc,lf,as,st,rfl,hA,fun H1 d s1 hd=>?_⟩;isplit;obtain ⟨b,b1,b2,b3'⟩:=(hA.same s1).at i3 i4;kl_no;have BL:Ue (values st):=by obtain ⟨_,_,hh⟩:=hd;exact hh.ok
  refine ⟨_,rfl,h,dx,fs,rfl,s1 _ _ e1,e5 _ m2.nm.1 m2.nm.2,_,rfl,ln,_,0,.int n,rfl,rfl,Ao.of (s1 _ _ Bs),rfl,h,lc,lf,as,st,n.toNat,b,by rw[<- KQ];rfl,hA.same s1,i3,b1,_,rfl,b,d,_,_,_,_,rfl,b2,hd,by omega,fun H2 s2 en=>?_,fun H2 d2 l2 s2 es hd2=>?_⟩
  ·refine ⟨_,rfl,rfl,_,rfl,CJ ⟨by show 3<=sizeLine;decide,fun p hp=>?_⟩⟩;have e1:holds (opsAt st n.toNat) (values st)=false:=by
    unfold holds;rw[show doOps (opsAt st n.toNat) (values st)=none from en];rfl
   have e2:Vbdhae.done (opsAt st n.toNat) (values st)=values st:=by
    unfold Vbdhae.done;rw[show doOps (opsAt st n.toNat) (values st)=none from en];rfl
   rw[e1,e2,kZ BL]at q;exact q _ p (After.same hA (s1.trans (s2.trans (AJ hp)))) AB
  ·refine ⟨_,rfl,rfl,_,rfl,B1 ⟨by show 2<=sizeLine;decide,fun p hp=>?_⟩⟩;have bE:holds (opsAt st n.toNat) (values st)=true:=by
    unfold holds;rw[show doOps (opsAt st n.toNat) (values st)=some l2 from es];rfl
   have vE:Vbdhae.done (opsAt st n.toNat) (values st)=l2:=by
    unfold Vbdhae.done;rw[show doOps (opsAt st n.toNat) (values st)=some l2 from es];rfl
   rw[bE,vE]at q;have s3:AW H2 (upd H2 p (.lst [V.int 0,V.int 1])):=AJ hp;obtain ⟨AV,hk,hh⟩:=hd;obtain ⟨kv2,zN,hh2⟩:=hd2;have hdl:=bJ BL hh2.ok;refine ⟨_,rfl,_,rfl,d,d2,_,_,_,rfl,⟨AV,s3 _ _ (s2 _ _ hk),hh.mono (by omega:1000<=1024)⟩,⟨kv2,s3 _ _ zN,hh2⟩,by omega,fun H4 p4 bs s4 uk ax yf=>?_⟩;refine ⟨_,rfl,p4,d2,bs,_,_,_,rfl,yf,ax,UA BL hh2.ok,by omega,⟨kv2,s4 _ _ (s3 _ _ zN),hh2⟩,fun H5 p5 s5 lj e5'=>?_⟩;have yA:=M6 hh2.ok (differing (values st) l2);refine ⟨p,p5,_,_,rfl,rfl,s5 _ _ (s4 _ _ AB),e5',?_,fun p6 pY=>?_⟩
   ·simp only[length_map,length_cons,length_nil];rw[sizeLine_eq];omega
   ·exact q _ p6 (After.same hA (s1.trans (s2.trans (s3.trans (s4.trans (s5.trans (AJ pY))))))) AB
theorem ZQ:AT ["house","numbers","rows","row","unlike","answer","thing"] ["house","numbers","rows"] (AO NS):=⟨rfl,rfl,rfl,by decide+kernel,rfl,by decide+kernel,by decide+kernel⟩
theorem oH {f C CC f1 f2 f3 f5:Addr}{fd d1 d2 d3 d5:FuncData}(F:CB K "order" "order" NS f fd)(T:Am K C)
  (bl:mg "len"=none) (bli:mg "list"=none) (bs:mg "sorted"=none) (oC:Gv mg "OUT_OF_RANGE" (.int (-1))) (mc:Gv mg "MOST_CHANGES" (.int 40)) (nti:Gv mg "NOT_THOSE_IN_FORCE" (.int (-11)))
  (Bw:AR P w K mg base As 5 f1 d1 ["self"] (CQ C CC)) (m1:MH K C "held_values" f1 d1 ["self"])
  (HH:AR P w K mg base As 4 f2 d2 ["self","row"] (Di C CC)) (m2:MH K C "values_in_order" f2 d2 ["self","row"])
  (JE:AR P w K mg base As 2 f3 d3 ["row","longest"] F3) (b3:Binds K d3 ["row","longest"] []) (WO:mg "are_changes"=some (.ref f3)) (k3:keepIn K (.ref f3)=true)
  (ok5:AR P w K mg base As 1 f5 d5 ["before","after"] Oh) (b5:Binds K d5 ["before","after"] []) (mg5:mg "unlike_things"=some (.ref f5)) (k5:keepIn K (.ref f5)=true):
  AR P w K mg base As 8 f fd ["house","numbers","rows"] (BQ C CC 18 0 1):=by
 refine F.ok ZQ (fun vs H Q E h=>?_) (fun BM A outer s H vs Q E hr h=>?_)
 ·kt_chr;rfl
 ·kt_str;obtain rfl:=A5 HM;obtain ⟨t,rfl⟩:=len_one Ge;cases Qt with
  |cons hra pd=>
  cases pd;rename_i ra;isplit;obtain ⟨ha,hz,na1,na2⟩:=hra;kl_no;kt_le;have nd:=ZQ.nd;obtain ⟨u1,g1,r1⟩:=oC;obtain ⟨u2,g2,r2⟩:=mc;obtain ⟨u3,g3,r3⟩:=nti;have cE:Aq 5 _:=hr.mono (by decide);have VH:Aq 4 _:=hr.mono (by decide);kxf_eq;ktn_lt;refine ⟨_,AF (AZ (i:=3) nd rfl (Or.inl rfl) (Ar Ag (pv 2) AK (fun _ _=>rfl)))
   (AF (A0 (EJ (CD (AX JE Gg rfl WO k3 b3 .nil AU (AA (pv 3) (AA (Ad rfl g2 r2) AC))))) (AG (AQ (Aj (AA (Ad rfl g1 r1) AC)))) Af)
   (AF (A0 (Al (xT hr.units) (Aa Pl (by rfl) bs boot_sorted (AA (pv 3) AC)) (Aa Pl (by rfl) bs boot_sorted (AA (Ap (pv 0) rfl) AC)) (Av _)) (AG (AQ (Aj (AA (Ad rfl g3 r3) AC)))) Af)
   (AF (AZ (i:=4) nd rfl (Or.inl rfl) (AX ok5 FD rfl mg5 k5 b5 .nil AU (AA (C8 (pv 0) T.cl m1.me Bw cE m1.bi .nil AU) (AA (Ac (pv 0) T.cl m2.me HH VH m2.bi .nil AU (AA (pv 3) AC)) AC))))
   (AF (AZ (i:=5) nd rfl (Or.inl rfl) (Aj (AA AK (AA (Aa Ae (by rfl) bl PySem.boot_len (AA (pv 4) AC)) AC))))
   (AF (Du PassesOwn.never rfl (BF (pv 4)) (A2 (i:=6) nd rfl (Or.inl rfl))
    (AG (Bt (JD plainAttrs_list slot_list_extend type_list_extend PB (pv 5) (AA (Cr ER (by rfl) bli boot_list (AA (pv 6) AC)) AC)))))
   (AG (AQ (pv 5)))))))),?_⟩
  rw[show (18::([]:List Int)) :: [t]=[[18],t]from rfl,mw]at q;refine ⟨_,rfl,lr,_,0,.ref ra,rfl,rfl,Ao.of HS,rfl,?_⟩;refine ⟨_,rfl,ra,t,40,rfl,ha,by omega,by omega,fun H1 s1=>⟨_,rfl,?_⟩⟩;cases e:Vbdhae.few t 40 with
  |false=>
   rw[e,if_neg (by decide)]at q;exact CJ ⟨by show 1<=sizeLine;decide,fun p hp=>q _ p (After.same hA (s1.trans (AJ hp))) AB⟩
  |true=>
  rw[e,if_pos rfl]at q;refine B1 ?_;isplit;obtain ⟨t1,t2,t3,t4⟩:=qL e;kl_no;have gb:=hA.ok.B4;refine ⟨_,rfl,ra,t,rfl,Ao.of (s1 _ _ ha),by omega,fun ns p2 D3 FE Mj=>?_⟩;have s2:AW H1 (upd H1 p2 (.lst (ns.map V.int))):=AJ Mj;have QB:=s1.trans s2;refine ⟨_,rfl,h,C,dx,fs,_,rfl,QB _ _ e1,T.cl,T.nF,e3,lf,st.force.map fun (n:Nat)=>(n:Int),rfl,Ao.of (by rw[BJ];exact QB _ _ hA.Ep),by rw[length_map];omega,fun ms p4 hq1 uh hq3=>?_⟩;have s3:AW (upd H1 p2 (.lst (ns.map V.int))) (upd (upd H1 p2 (.lst (ns.map V.int))) p4 (.lst (ms.map V.int))):=AJ hq3;have a2:(upd (upd H1 p2 (.lst (ns.map V.int))) p4 (.lst (ms.map V.int))) p2=some (.lst (ns.map V.int)):=s3 _ _ AB;have a4:(upd (upd H1 p2 (.lst (ns.map V.int))) p4 (.lst (ms.map V.int))) p4=some (.lst (ms.map V.int)):=AB;have Qh:=QB.trans s3;generalize upd (upd H1 p2 (.lst (ns.map V.int))) p4 (.lst (ms.map V.int))=H3 at a2 a4 Qh;rw[t4]at D3;have en:=Jq D3 FE;have em:=Jq hq1 uh;rw[<- BJ]at en em;have en:=(List.map_inj_right (fun x y e=>V.int.inj e)).mp en;have em:=(List.map_inj_right (fun x y e=>V.int.inj e)).mp em;refine ⟨.list (ns.map .int),.list (ms.map .int),.lst (Ao.of a2) (YT ns),.lst (Ao.of a4) (YT ms),shaped_ints ns,shaped_ints ms,_,rfl,?_⟩;have eo:PyData.eqv (.list (ns.map .int)) (.list (ms.map .int))=isOrder st (nats t):=by
   rw[PyData.eqv,bC,WD hA.ok.nd t3,en,em];exact decide_eq_decide.mpr ⟨jh,fun e=>by rw[e]⟩
  rw[eo];cases eq:isOrder st (nats t)with
  |false=>
   rw[eq,if_neg (by decide)]at q;exact CJ ⟨by show 1<=sizeLine;decide,fun p hp=>q _ p (After.same hA (Qh.trans (AJ hp))) AB⟩
  |true=>
  rw[eq,if_pos rfl]at q;refine B1 ?_;rw[WD hA.ok.nd t3,decide_eq_true_eq]at eq;have hpm:(nats t).Perm st.force:=((Au _).symm.trans (by rw[eq])).trans (Au st.force);refine ⟨_,rfl,h,dx,fs,rfl,Qh _ _ e1,e5 _ m1.nm.1 m1.nm.2,h,lc,lf,as,st,rfl,hA.same Qh,fun H4 d s4 hd=>?_⟩;have fe:=Qh.trans s4;refine ⟨_,rfl,h,dx,fs,rfl,fe _ _ e1,e5 _ m2.nm.1 m2.nm.2,_,rfl,h,lc,lf,as,st,ra,nats t,rfl,hA.same fe,?_,fun m hm=>hA.ok.Ur m (hpm.mem_iff.mp hm),by rw[hpm.length_eq];exact gb,fun H5 d5 s5 hd5=>?_⟩
  ·have:=fe _ _ ha;rw[t4,BJ]at this;exact this
  have s15:=fe.trans s5;obtain ⟨AV,hk,hh⟩:=hd;obtain ⟨kv5,hk5,hh5⟩:=hd5;have hdl:=bJ hh.ok hh5.ok;refine ⟨d,d5,_,_,_,rfl,⟨AV,s5 _ _ hk,hh⟩,⟨kv5,hk5,hh5⟩,by omega,fun H6 p6 bs s6 pY ax zf=>?_⟩;generalize differing (values st) (valuesBy st (nats t))=l at *;have s16:=s15.trans s6;have hl:=BZ ax;refine ⟨_,rfl,p6,_,rfl,.inl (Ao.of zf),by show 2<=sizeLine;decide,fun p7 uj=>?_⟩;rw[length_map,hl];have s7:AW H6 (upd H6 p7 (.lst [V.int 0,V.int (l.length:Int)])):=AJ uj;have s67:AW H6 (upd H6 p7 (.lst [V.int 0,V.int (l.length:Int)])):=AJ uj;refine ⟨_,rfl,p6,rfl,⟨_,Ao.of (s7 _ _ zf)⟩,Ch (K:=K) (a:=p6) (xs:=bs.map V.ref) (fun i σ H'=>∃va:Option V,σ=[some (.ref h),some (.ref ln),some (.ref lr),some (.ref ra),some (.ref p6),some (.ref p7),va]/\AW H6 H'/\H' p7=some (.lst ((0::(l.length:Int)::(l.take i).flatMap ZB).map V.int)))
   ⟨none,rfl,s7,AB⟩ ?_ ?_ ?_⟩
  ·intro i σ H' _ zz;isplit;obtain ⟨va,rfl,s',k⟩:=zz;kl_no;exact Ao.of (s' _ _ zf)
  ·intro i x σ H' hx zz;isplit;obtain ⟨va,rfl,s',k⟩:=zz;kl_no;obtain ⟨b,hb,rfl⟩:=J3 hx;obtain ⟨c,hc,kK⟩:=Az ax hb;have hi:=(List.getElem?_eq_some_iff.mp hc).1;refine ⟨_,rfl,.inl ⟨rfl,_,Ao.of k⟩,_,rfl,b,_,rfl,.inr (Gi.of (s' _ _ kK)),fun p8 hp8=>?_⟩;have s8:AW H' (upd H' p8 (.lst [.int ((c / 10:Nat):Int),.int ((c % 10:Nat):Int)])):=AJ hp8;refine ⟨p7,p8,_,_,rfl,rfl,s8 _ _ k,AB,?_,?_⟩
   ·have h1:=length_take_le' i l;simp only[length_map,length_cons,length_nil,Vj];rw[sizeLine_eq];omega
   ·refine ⟨_,rfl,fun x o e=>?_,?_⟩
    ·rw[AI (AH e uj)];exact s8 _ _ (s' _ _ e)
    ·rw[AB,Ay hc,List.flatMap_append];simp only[flatMap_cons,List.flatMap_nil,append_nil,ZB,map_append,map_cons,cons_append,map_nil,nil_append];rfl
  ·intro σ H' zz;isplit;obtain ⟨va,rfl,s',k⟩:=zz;kl_no;rw[length_map,hl,take_length]at k;exact ⟨_,rfl,q _ p7 (After.same hA (s16.trans s')) k⟩
theorem ft {f:Str}{v:V}:∀{fs:List (Str×V)},(BX f v fs).length<=fs.length+1
 | []=>Nat.le_refl _
 | (g,x)::r=>by
  unfold BX;split
  ·simp
  ·have:=ft (f:=f) (v:=v) (fs:=r);simp only[length_cons];omega
def chf (e:Int)(x a r w s t:Addr):List (Str×V):= [("editor",.int e),("text",.ref x),("acts",.ref a),("reads",.ref r),("writes",.ref w),("seen",.ref s),("stands",.ref t),("condition",.int 0)]
theorem E9 {f:Str}{v:V}:∀{fs:List (Str×V)} (ns:List Str),fs.map (·.1)=ns->(ns.all fun g=>decide (g≠f))=true->BX f v fs=fs ++ [(f,v)]
 | [],_,_,_=>rfl
 | (g,x)::r,ns,e,h=>by
  subst e;rw[map_cons,all_cons,Bool.and_eq_true,decide_eq_true_eq]at h;unfold BX;rw[if_neg h.1,E9 _ rfl h.2];rfl
def rF:List Str:= ["join","swap","need","empty"]
def rS:List Str:= ["copy","join","swap"]
def wF:List Str:= ["set","clear","copy","join","swap"]
def wS:List Str:= ["swap"]
def DY (k:String)(F:List Str):Bool:=F.any fun x=>x==S (Vbdhae.text k)
theorem xP:DY "set" rF=false:=by decide+kernel
theorem nc:DY "clear" rF=false:=by decide+kernel
theorem sv:DY "copy" rF=false:=by decide+kernel
theorem su:DY "join" rF=true:=by decide+kernel
theorem sr:DY "swap" rF=true:=by decide+kernel
theorem ss:DY "need" rF=true:=by decide+kernel
theorem na:DY "empty" rF=true:=by decide+kernel
theorem nZ:DY "set" rS=false:=by decide+kernel
theorem Zh:DY "clear" rS=false:=by decide+kernel
theorem sn:DY "copy" rS=true:=by decide+kernel
theorem sm:DY "join" rS=true:=by decide+kernel
theorem sk:DY "swap" rS=true:=by decide+kernel
theorem fk:DY "need" rS=false:=by decide+kernel
theorem Zg:DY "empty" rS=false:=by decide+kernel
theorem wv:DY "set" wF=true:=by decide+kernel
theorem mK:DY "clear" wF=true:=by decide+kernel
theorem sP:DY "copy" wF=true:=by decide+kernel
theorem sO:DY "join" wF=true:=by decide+kernel
theorem sM:DY "swap" wF=true:=by decide+kernel
theorem sN:DY "need" wF=false:=by decide+kernel
theorem mJ:DY "empty" wF=false:=by decide+kernel
theorem mH:DY "set" wS=false:=by decide+kernel
theorem Yy:DY "clear" wS=false:=by decide+kernel
theorem sL:DY "copy" wS=false:=by decide+kernel
theorem sK:DY "join" wS=false:=by decide+kernel
theorem sJ:DY "swap" wS=true:=by decide+kernel
theorem fQ:DY "need" wS=false:=by decide+kernel
theorem Yx:DY "empty" wS=false:=by decide+kernel
theorem XD (ops:List Op):Ce rF rS ops=readsOf ops:=by
 unfold Ce readsOf
 congr 1
 funext o
 cases o with
 |set c w=>
  show ((if DY "set" rF=true then [c]else [])++if DY "set" rS=true then [0]else [])=_;rw[xP,nZ];rfl
 |clear c=>
  show ((if DY "clear" rF=true then [c]else [])++if DY "clear" rS=true then [0]else [])=_;rw[nc,Zh];rfl
 |copy c d=>
  show ((if DY "copy" rF=true then [c]else [])++if DY "copy" rS=true then [d]else [])=_;rw[sv,sn];rfl
 |join c d=>
  show ((if DY "join" rF=true then [c]else [])++if DY "join" rS=true then [d]else [])=_;rw[su,sm];rfl
 |swap c d=>
  show ((if DY "swap" rF=true then [c]else [])++if DY "swap" rS=true then [d]else [])=_;rw[sr,sk];rfl
 |need c w=>
  by_cases h:w=[]
  ·subst h;show ((if DY "empty" rF=true then [c]else [])++if DY "empty" rS=true then [0]else [])=_;rw[na,Zg];rfl
  ·have e:EV (.need c w)=Vbdhae.text "need":=if_neg h;unfold EC;rw[e];show ((if DY "need" rF=true then [c]else [])++if DY "need" rS=true then [0]else [])=_;rw[ss,fk];rfl
theorem Uy (ops:List Op):Ce wF wS ops=writesOf ops:=by
 unfold Ce writesOf
 congr 1
 funext o
 cases o with
 |set c w=>
  show ((if DY "set" wF=true then [c]else [])++if DY "set" wS=true then [0]else [])=_;rw[wv,mH];rfl
 |clear c=>
  show ((if DY "clear" wF=true then [c]else [])++if DY "clear" wS=true then [0]else [])=_;rw[mK,Yy];rfl
 |copy c d=>
  show ((if DY "copy" wF=true then [c]else [])++if DY "copy" wS=true then [d]else [])=_;rw[sP,sL];rfl
 |join c d=>
  show ((if DY "join" wF=true then [c]else [])++if DY "join" wS=true then [d]else [])=_;rw[sO,sK];rfl
 |swap c d=>
  show ((if DY "swap" wF=true then [c]else [])++if DY "swap" wS=true then [d]else [])=_;rw[sM,sJ];rfl
 |need c w=>
  by_cases h:w=[]
  ·subst h;show ((if DY "empty" wF=true then [c]else [])++if DY "empty" wS=true then [0]else [])=_;rw[mJ,Yx];rfl
  ·have e:EV (.need c w)=Vbdhae.text "need":=if_neg h;unfold EC;rw[e];show ((if DY "need" wF=true then [c]else [])++if DY "need" wS=true then [0]else [])=_;rw[sN,fQ];rfl
theorem xM (o:Op)(h:EC o rS=true):gT o=true:=by
 cases o with
 |set c w=>
  have h:DY "set" rS=true:=h;rw[nZ]at h;cases h
 |clear c=>
  have h:DY "clear" rS=true:=h;rw[Zh]at h;cases h
 |copy c d=>rfl
 |join c d=>rfl
 |swap c d=>rfl
 |need c w=>
  by_cases e:w=[]
  ·subst e;have h:DY "empty" rS=true:=h;rw[Zg]at h;cases h
  ·have e:EV (.need c w)=Vbdhae.text "need":=if_neg e;unfold EC at h;rw[e]at h;have h:DY "need" rS=true:=h;rw[fk]at h;cases h
theorem wu (o:Op)(h:EC o wS=true):gT o=true:=by
 cases o with
 |set c w=>
  have h:DY "set" wS=true:=h;rw[mH]at h;cases h
 |clear c=>
  have h:DY "clear" wS=true:=h;rw[Yy]at h;cases h
 |copy c d=>rfl
 |join c d=>rfl
 |swap c d=>rfl
 |need c w=>
  by_cases e:w=[]
  ·subst e;have h:DY "empty" wS=true:=h;rw[Yx]at h;cases h
  ·have e:EV (.need c w)=Vbdhae.text "need":=if_neg e;unfold EC at h;rw[e]at h;have h:DY "need" wS=true:=h;rw[fQ]at h;cases h
def KT (K:PySem.W.Frag)(mg:Str->Option Value)(x:Str)(F:List Str):Prop:=∃a,mg x=some (.ref a)/\∀H,Gi K H a (F.map V.str)
def Jp (C:Addr):Sp:=fun vs H Q _=>∃(p dx lx la ls lt:Addr) (ed:Nat) (as:List Addr) (ops:List Op) (seen on:List Nat) (av:List Addr),vs=[.ref p,.int (ed:Int),.ref lx,.ref la,.ref ls,.ref lt]/\H p=some (.ins C dx [])/\
 H la=some (.lst (as.map V.ref))/\Iw H as ops/\ops.length<=12/\(∀o∈ops,Yp o)/\H lx=some (.lst (AY (printed ops)))/\(printed ops).length<=600/\H ls=some (.lst (AY seen))/\H lt=some (.lst (AY on))/\la∉av/\ls∉av/\lt∉av/\lx∉av/\
 ∀H':Hp,An C H' av p ⟨ed,ops,seen,on,0⟩->(∀b o,H b=some o->b≠p->H' b=some o)->Q .Bo H'
theorem Rw:AT ["self","editor","text","acts","seen","stands"] ["self","editor","text","acts","seen","stands"] (AO HB):=⟨rfl,rfl,rfl,by decide+kernel,rfl,by decide+kernel,by decide+kernel⟩
theorem Sq {f C g:Addr}{fd gd:FuncData}(F:CB K "__init__" "Change.__init__" HB f fd)(T:Br K C)(dr:Gv mg "DRAFT" (.int 0))
  (t1:KT K mg "READING_FIRST" rF) (t2:KT K mg "READING_SECOND" rS) (t3:KT K mg "WRITING_FIRST" wF) (t4:KT K mg "WRITING_SECOND" wS)
  (Bw:AR P w K mg base As 1 g gd ["acts","with_first","with_second"] (M9 K)) (b1:Binds K gd ["acts","with_first","with_second"] []) (Uq:mg "things_of"=some (.ref g)) (k1:keepIn K (.ref g)=true):
  AR P w K mg base As 2 f fd ["self","editor","text","acts","seen","stands"] (Jp C):=by
 refine F.ok Rw (fun vs H Q E h=>?_) (fun BM A outer s H vs Q E hr h=>?_)
 ·obtain ⟨p,dx,lx,la,ls,lt,ed,as,ops,seen,on,av,rfl,_⟩:=h;rfl
 ·obtain ⟨p,dx,lx,la,ls,lt,ed,as,ops,seen,on,av,rfl,hp,rg,hac,yJ,BL,zM,Mx,hls,C2,n1,n2,n3,n4,q⟩:=h;obtain ⟨uD,mD,rD⟩:=dr;obtain ⟨a1,m1,q1⟩:=t1;obtain ⟨a2,m2,q2⟩:=t2;obtain ⟨a3,m3,q3⟩:=t3;obtain ⟨a4,m4,q4⟩:=t4;refine ⟨_,AF (CV (pv 0) (pv 1) rfl) (AF (CV (pv 0) (pv 2) rfl) (AF (CV (pv 0) (pv 3) rfl)
   (AF (CV (pv 0) (AX Bw hr rfl Uq k1 b1 .nil AU (AA (pv 3) (AA (Ad (v:= .ref a1) rfl m1 rfl) (AA (Ad (v:= .ref a2) rfl m2 rfl) AC)))) rfl)
   (AF (CV (pv 0) (AX Bw hr rfl Uq k1 b1 .nil AU (AA (pv 3) (AA (Ad (v:= .ref a3) rfl m3 rfl) (AA (Ad (v:= .ref a4) rfl m4 rfl) AC)))) rfl)
   (AF (CV (pv 0) (pv 4) rfl) (AF (CV (pv 0) (pv 5) rfl) (AG (CV (pv 0) (Ad rfl mD rD) rfl)))))))),?_⟩
  refine ⟨_,rfl,_,rfl,p,C,dx,[],rfl,hp,T.cl,T.nE,(by show 0<1000;decide),?_⟩;refine ⟨_,rfl,_,rfl,p,C,dx,_,rfl,AB,T.cl,T.nX,(by show 1<1000;decide),?_⟩;rw[DU];refine ⟨_,rfl,_,rfl,p,C,dx,_,rfl,AB,T.cl,T.nA,Nat.lt_of_le_of_lt ft (by show 2<1000;decide),?_⟩;rw[DU,E9 (f:="text") ["editor"] rfl (by decide+kernel),E9 (f:="acts") ["editor","text"] rfl (by decide+kernel)];generalize gh:upd H p _=H1;have rZ:∀b o,H b=some o->b≠p->H1 b=some o:=fun b o e n=>by rw[<- gh,AI n];exact e
  have D3:H1 p=some (.ins C dx [("editor",.int (ed:Int)),("text",.ref lx),("acts",.ref la)]):=by rw[<- gh,AB];rfl
  have zA:la≠p:=A7 rg hp (by kpt_eq);have nls:ls≠p:=A7 hls hp (by kpt_eq);have nlt:lt≠p:=A7 C2 hp (by kpt_eq);have nlx:lx≠p:=A7 zM hp (by kpt_eq);have zp:Fx H H1:=fun b ys e=>rZ b _ e (A7 e hp (by kpt_eq));refine ⟨_,rfl,la,a1,a2,as,ops,rF,rS,rfl,rZ _ _ rg zA,hac.CW zp,yJ,q1 _,q2 _,fun o _=>xM o,fun H2 dr kr zR s2 er hkr HS=>?_⟩;refine ⟨_,rfl,p,C,dx,_,rfl,s2 _ _ D3,T.cl,T.nR,(by show 3<1000;decide),?_⟩;rw[E9 (f:="reads") ["editor","text","acts"] rfl (by decide+kernel)];have ndr:dr≠p:=fun e=>by rw[e,D3]at zR;cases zR
  generalize zT:upd H2 p _=H3;have xt:∀b o,H1 b=some o->b≠p->H3 b=some o:=fun b o e n=>by rw[<- zT,AI n];exact s2 _ _ e
  have Mj:H3 p=some (.ins C dx [("editor",.int (ed:Int)),("text",.ref lx),("acts",.ref la),("reads",.ref dr)]):=by rw[<- zT,AB];rfl
  have er3:H3 dr=some (.dT kr):=by rw[<- zT,AI ndr];exact er
  have ACk:Fx H H3:=fun b ys e=>xt b _ (zp b ys e) (A7 e hp (by kpt_eq));refine ⟨_,rfl,la,a3,a4,as,ops,wF,wS,rfl,xt _ _ (rZ _ _ rg zA) zA,hac.CW ACk,yJ,q3 _,q4 _,fun o _=>wu o,fun H4 dw kw hdw s4 ew hkw hlw=>?_⟩;refine ⟨_,rfl,p,C,dx,_,rfl,s4 _ _ Mj,T.cl,T.nW,(by show 4<1000;decide),?_⟩;rw[E9 (f:="writes") ["editor","text","acts","reads"] rfl (by decide+kernel)];have ndw:dw≠p:=fun e=>by rw[e,Mj]at hdw;cases hdw
  refine ⟨_,rfl,_,rfl,p,C,dx,_,rfl,AB,T.cl,T.nS,(by show 5<1000;decide),?_⟩;rw[DU,E9 (f:="seen") ["editor","text","acts","reads","writes"] rfl (by decide+kernel)];refine ⟨_,rfl,_,rfl,p,C,dx,_,rfl,AB,T.cl,T.nT,(by show 6<1000;decide),?_⟩;rw[DU,E9 (f:="stands") ["editor","text","acts","reads","writes","seen"] rfl (by decide+kernel)];refine ⟨_,rfl,p,C,dx,_,rfl,AB,T.cl,T.nC,(by show 7<1000;decide),?_⟩;rw[DU,E9 (f:="condition") ["editor","text","acts","reads","writes","seen","stands"] rfl (by decide+kernel)];generalize yR:upd H4 p _=H5;have k5':∀b o,H3 b=some o->b≠p->H5 b=some o:=fun b o e n=>by rw[<- yR,AI n];exact s4 _ _ e
  have lj:H5 p=some (.ins C dx (chf ed lx la dr dw ls lt)):=by rw[<- yR,AB];rfl
  have ew5:H5 dw=some (.dT kw):=by rw[<- yR,AI ndw];exact ew
  have er5:H5 dr=some (.dT kr):=k5' _ _ er3 ndr;have k:∀b o,H b=some o->b≠p->H5 b=some o:=fun b o e n=>k5' b o (xt b o (rZ b o e n) n) n;have ACj:Fx H H5:=fun b ys e=>k b _ e (A7 e hp (by kpt_eq));refine q H5 ⟨⟨dx,dr,dw,_,kr,kw,lj,by rfl,by rfl,er5,ew5,by rw[XD]at hkr;exact hkr,by rw[Uy]at hkw;exact hkw,HS,hlw⟩,
   ⟨dx,la,ls,lt,_,as,lj,by rfl,by rfl,by rfl,by rfl,by show 8<=20;decide,k _ _ rg zA,hac.CW ACj,k _ _ hls nls,k _ _ C2 nlt,n1,n2,n3⟩,BL,yJ,fun K8 GW e=>?_,⟨dx,lx,_,lj,by rfl,by rfl,k _ _ zM nlx,n4,Mx⟩⟩ k
  rw[lj]at e;cases e;rfl
def E3 (s:Vbdhae.State)(c:Change):Vbdhae.State:=⟨s.changes ++ [c],s.force⟩
theorem Mv.E3 {s:Vbdhae.State}(h:Mv s){c:Change}(hl:s.changes.length<40)(h0:c.status=0)(hs:c.seen=s.force)(ho:∀m∈c.on,1<=m/\m<=s.changes.length)(yJ:c.on.length<=40):Mv (E3 s c):=by
 have hle:(Dj.E3 s c).changes.length=s.changes.length+1:=by
  show (s.changes ++ [c]).length=_;rw[length_append];rfl
 refine ⟨by rw[hle];omega,h.nd,fun m hm=>?_,fun n h1 h2=>?_,fun d hd=>?_⟩
 ·rw[hle];have:=h.Ur m hm;omega
 ·rw[hle]at h2;show _↔n∈s.force;by_cases e:n<=s.changes.length
  ·have:changeAt (Dj.E3 s c) n=changeAt s n:=by
    unfold changeAt Dj.E3;simp only;rw[getElem?_append_left (by omega)]
   rw[this];exact h.st n h1 e
  ·have e2:n=s.changes.length+1:=by omega
   have:changeAt (Dj.E3 s c) n=c:=by
    unfold changeAt Dj.E3;simp only;rw[getElem?_append_right (by omega),show n - 1 - s.changes.length=0 by omega];rfl
   rw[this,h0];exact ⟨fun z=>by omega,fun z=>by have:=h.Ur n z;omega⟩
 ·rw[hle];rcases mem_append.mp (show d∈s.changes ++ [c]from hd)with z | z
  ·obtain ⟨k1,k2,k3⟩:=h.kn d z;exact ⟨fun m hm=>by have:=k1 m hm;omega,k2,k3⟩
  ·simp at z;subst z;refine ⟨fun m hm=>?_,by rw[hs];exact h.B4,yJ⟩;rw[hs]at hm;rcases mem_append.mp hm with y | y
   ·have:=h.Ur m y;omega
   ·have:=ho m y;omega
theorem Nm {as:List Addr}{x:Addr}(h:as.Nodup)(hx:x∉as):(as ++ [x]).Nodup:=by
 rw[nodup_append];exact ⟨h,by simp,fun a ha b hb e=>by simp at hb;subst hb;subst e;exact hx ha⟩
def NA (CH CC:Addr):Sp:=fun vs H Q _=>∃(h lc lf lt lx la:Addr) (as My:List Addr) (s:Vbdhae.State) (ed:Nat) (ops:List Op) (on:List Nat),vs=[.ref h,.int (ed:Int),.ref lt,.ref lx,.ref la]/\Ab CH CC H h lc lf as s/\s.changes.length<40/\
 H la=some (.lst (My.map V.ref))/\Iw H My ops/\ops.length<=12/\(∀o∈ops,Yp o)/\H lx=some (.lst (AY (printed ops)))/\(printed ops).length<=600/\H lt=some (.lst (AY on))/\(∀m∈on,1<=m/\m<=s.changes.length)/\on.length<=40/\la∉ [lc,lf]/\lt∉ [lc,lf]/\lx∉ [lc,lf]/\
 ∀(H':Hp) (x:Addr),Ab CH CC H' h lc lf (as ++ [x]) (E3 s ⟨ed,ops,s.force,on,0⟩)->H x=none->(∀b o,H b=some o->b≠lc->H' b=some o)->Q (.int ((s.changes.length+1:Nat):Int)) H'
theorem XN:AT ["self","editor","stands","text","acts"] ["self","editor","stands","text","acts"] (AO EH):=⟨rfl,rfl,rfl,by decide+kernel,rfl,by decide+kernel,by decide+kernel⟩
theorem Xk {f C CC g:Addr}{fd gd:FuncData}(F:CB K "put_draft" "House.put_draft" EH f fd)(T:Am K C)(bl:mg "len"=none)(bli:mg "list"=none)
  (M:Mk K CC g) (Bw:AR P w K mg base As 2 g gd ["self","editor","text","acts","seen","stands"] (Jp CC)) (b1:Binds K gd ["self","editor","text","acts","seen","stands"] []) (Uq:mg "Change"=some (.ref CC)):
  AR P w K mg base As 4 f fd ["self","editor","stands","text","acts"] (NA C CC):=by
 refine F.ok XN (fun vs H Q E h=>?_) (fun BM A outer s H vs Q E hr h=>?_)
 ·obtain ⟨h,lc,lf,lt,lx,la,as,My,s,ed,ops,on,rfl,_⟩:=h;rfl
 ·obtain ⟨h,lc,lf,lt,lx,la,as,My,st,ed,ops,on,rfl,hA,hlen,rg,hac,yJ,BL,zM,Mx,C2,hon,AD8,n1,n2,n3,q⟩:=h;kt_le;refine ⟨_,AF (Bt (JD plainAttrs_list PySem.F.slot_list_append PySem.F.type_list_append D8 (Ap (pv 0) rfl) (AA (RF M Bw hr rfl Uq b1 .nil AU
    (AA (pv 1) (AA (pv 3) (AA (pv 4) (AA (Cr ER (by rfl) bli boot_list (AA (Ap (pv 0) rfl) AC)) (AA (pv 2) AC)))))) AC)))
   (AG (AQ (Aa Ae (by rfl) bl PySem.boot_len (AA (Ap (pv 0) rfl) AC)))),?_⟩
  refine ⟨_,rfl,h,C,dx,fs,_,rfl,e1,T.cl,T.nC,e2,.inl ⟨rfl,_,Ao.of hA.Gf⟩,_,rfl,_,rfl,_,rfl,_,rfl,h,C,dx,fs,_,rfl,e1,T.cl,T.nF,e3,lf,_,rfl,.inl (Ao.of hA.Ep),fun ps dl=>⟨_,rfl,?_⟩⟩;have s1:AW H (upd H ps (.lst (AY st.force))):=AJ dl;have AA2:(upd H ps (.lst (AY st.force))) ps=some (.lst (AY st.force)):=AB;generalize upd H ps (.lst (AY st.force))=H1 at s1 AA2;intro x dxx nx ndx nex;have nps:ps∉ [lc,lf]:=fun z=>by
   rcases mem_cons.mp z with y | y
   ·rw[y,hA.Gf]at dl;cases dl
   ·simp at y;rw[y,hA.Ep]at dl;cases dl
  have s2:AW H1 (upd (upd H1 dxx (.own x)) x (.ins CC dxx [])):=fun b o e=>by
   rw[AI (AH e nx),AI (AH e ndx)];exact e
  have QB:=s1.trans s2;refine ⟨x,dxx,lx,la,ps,lt,ed,My,ops,st.force,on,[lc,lf],rfl,AB,QB _ _ rg,hac.CW (Fx.of QB),yJ,BL,QB _ _ zM,Mx,s2 _ _ AA2,QB _ _ C2,n1,nps,n2,n3,fun H3 hC k3=>⟨rfl,?_⟩⟩;have s3:AW H H3:=s1.trans (AW.made nx ndx k3);have ur:=hA.same s3;have ABC:=ur.Gf;refine ⟨lc,_,_,rfl,rfl,ABC,?_,?_⟩
  ·rw[length_map,hA.len,sizeLine_eq];omega
  generalize yS:upd H3 lc (.lst (as.map V.ref ++ [V.ref x]))=H4;have k4:∀b o,H3 b=some o->b≠lc->H4 b=some o:=fun b o e n=>by rw[<- yS,AI n];exact e
  have bE:=s3 _ _ e1;have AAb:h≠lc:=A7 bE ABC (by kpt_eq);have ABB:H4 lc=some (.lst ((as ++ [x]).map V.ref)):=by rw[<- yS,AB,map_append];rfl
  have hx3:x≠h:=fun z=>by
   have:=s1 _ _ e1;rw[<- z,nx]at this;cases this
  refine ⟨_,rfl,h,C,dx,fs,_,rfl,k4 _ _ bE AAb,T.cl,T.nC,e2,lc,_,rfl,.inl (Ao.of ABB),?_⟩;rw[length_map,length_append,hA.len];have kk:Keeps H3 H4 h [lc,lf]:=fun b o e n1 n2=>k4 b o e fun z=>n2 (by rw[z];simp);have xas:x∉as:=fun z=>by
   obtain ⟨j,hj⟩:=getElem?_of_mem z;obtain ⟨c,_,hc⟩:=Az (hA.same s1).all hj;isplit;obtain ⟨K8,_,_,_,GW,_,g1,_⟩:=hc.ex;kl_no;rw[nx]at g1;cases g1
  have wI:∀{a:Addr} {c:Change},An CC H3 [lc,lf] a c->a≠h:=fun {a c} hc z=>by
   subst z;isplit;obtain ⟨Hq,la,ls,lt,IB,asc,g1,g2,g3,g4,g5,g6⟩:=hc.ex;kl_no;rw[bE]at g1;cases g1;rw[e5 "condition" (by decide+kernel) (by decide+kernel)]at g5;cases g5
  refine q H4 x ⟨⟨dx,fs,k4 _ _ bE AAb,e2,e3,e4,e5⟩,hA.ne,ABB,k4 _ _ ur.Ep hA.ne.symm,Nm hA.nd xas,?_,hA.ok.E3 hlen rfl rfl hon AD8⟩ (s1.free nx) fun b o e n=>k4 b o (s3 b o e) n;exact FA (Paired.TD ur.all fun a c hc=>hc.keep bE ur.w.av kk (wI hc)) (hC.keep bE ur.w.av kk (wI hC))
def Iu (s:Vbdhae.State)(l:List Nat):Bool:=l.any fun m=> !isThere s m||(changeAt s m).status != 0
theorem nB (s:Vbdhae.State)(e:Int)(on t:List Int):stepNumbers s [[0,e],on,t]=if (inside e 1 5&&(Vbdhae.few on 4&&isText t))=true then
  (if Iu s (nats on)=true then (s,[-5])else if 40<=s.changes.length then (s,[-4])else match readOps (nats t)with
   | .error _=>(s,[-3])
   | .ok l=>(E3 s ⟨e.toNat,l,s.force,nats on,0⟩,[0,((s.changes.length+1:Nat):Int)]))else (s,[-1]):=by
 show (match Vbdhae.guard (inside e 1 5&&(Vbdhae.few on 4&&isText t)) (.draft e.toNat on t)with | none=>(s,[-1]) | some x=>Vbdhae.step s x)=_;unfold Vbdhae.guard;by_cases h:(inside e 1 5&&(Vbdhae.few on 4&&isText t))=true
 ·rw[if_pos h,if_pos h];show Vbdhae.step s (.draft e.toNat on t)=_;unfold Vbdhae.step does;dsimp only;rw[BK,BK,Er];rw[show ((nats on).any fun m=> !isThere s m||(changeAt s m).status != 0)=Iu s (nats on)from rfl];cases Iu s (nats on)with
  |true=>rfl
  |false=>
   simp only[Bool.false_eq_true,if_false];by_cases h2:40<=s.changes.length
   ·rw[if_pos (show decide (Vbdhae.CHANGES<=s.changes.length)=true from decide_eq_true h2),if_pos h2]
   ·rw[if_neg (show ¬ decide (Vbdhae.CHANGES<=s.changes.length)=true from fun z=>h2 (of_decide_eq_true z)),if_neg h2];generalize readOps (nats t)=o;cases o <;> rfl
 ·rw[if_neg h,if_neg h]
theorem mU {α:Type}{l:List α}(h:l.length=2):∃a b,l=[a,b]:=by
 match l,h with
 | [a,b],_=>exact ⟨a,b,rfl⟩
theorem AEy {l:List Int}(h:Vbdhae.few l 4=true):Vbdhae.few l 40=true/\l.length<=4:=by
 unfold Vbdhae.few at h ⊢;rw[Bool.and_eq_true,decide_eq_true_eq]at h;rw[Bool.and_eq_true,decide_eq_true_eq];exact ⟨⟨by omega,h.2⟩,h.1⟩
theorem ZW:AT ["house","numbers","rows","stands","read","number"] ["house","numbers","rows"] (AO NW):=⟨rfl,rfl,rfl,by decide+kernel,rfl,by decide+kernel,by decide+kernel⟩
theorem oO {f C CC CR g f1 f2 f3 f4:Addr}{fd gd d1 d2 d3 d4:FuncData}(F:CB K "draft" "draft" NW f fd)(T:Am K C)(TR:Hw K mg CR)(bl:mg "len"=none)(ba:mg "all"=none)(oC:Gv mg "OUT_OF_RANGE" (.int (-1)))(he:Gv mg "HIGHEST_EDITOR" (.int 5))(ms:Gv mg "MOST_STOOD_ON" (.int 4))(nsc:Gv mg "NO_SUCH_CHANGE" (.int (-5)))(mc:Gv mg "MOST_CHANGES" (.int 40))(tmc:Gv mg "TOO_MANY_CHANGES" (.int (-4)))(wl:Gv mg "WRONG_LINE" (.int (-3)))
  (MU:AR P w K mg base As 2 g gd ["row"] MG) (b0:Binds K gd ["row"] []) (Mb:mg "is_text"=some (.ref g)) (k0:keepIn K (.ref g)=true)
  (Bw:AR P w K mg base As 4 f1 d1 ["text"] (IJ K CR)) (b1:Binds K d1 ["text"] []) (Uq:mg "read_text"=some (.ref f1)) (k1:keepIn K (.ref f1)=true)
  (HH:AR P w K mg base As 2 f2 d2 ["row","longest"] F3) (b2:Binds K d2 ["row","longest"] []) (ol:mg "are_changes"=some (.ref f2)) (k2:keepIn K (.ref f2)=true)
  (JE:AR P w K mg base As 2 f3 d3 ["self","number"] (Jn C CC)) (m3:MH K C "is_draft" f3 d3 ["self","number"])
  (oQ:AR P w K mg base As 4 f4 d4 ["self","editor","stands","text","acts"] (NA C CC)) (m4:MH K C "put_draft" f4 d4 ["self","editor","stands","text","acts"]):
  AR P w K mg base As 8 f fd ["house","numbers","rows"] (BQ C CC 0 1 2):=by
 refine F.ok ZW (fun vs H Q E h=>?_) (fun BM A outer s H vs Q E hr h=>?_)
 ·kt_chr;rfl
 ·kt_str;obtain ⟨n,rfl⟩:=len_one HM;obtain ⟨on,t,rfl⟩:=mU Ge;cases Qt with
  |cons gX ADz=>
  cases ADz with
  |cons FD pd=>
  cases pd;rename_i ra rb;isplit;obtain ⟨ha,hza,na1,na2⟩:=gX;kl_no;isplit;obtain ⟨hb,hzb,nb1,nb2⟩:=FD;kl_no;kt_le;have nd:=ZW.nd;obtain ⟨u1,g1,r1⟩:=oC;obtain ⟨u2,g2,r2⟩:=he;obtain ⟨u3,g3,r3⟩:=ms;obtain ⟨u4,g4,r4⟩:=nsc;obtain ⟨u5,g5,r5⟩:=mc;obtain ⟨u6,g6,r6⟩:=tmc;obtain ⟨u7,g7,r7⟩:=wl;have VH:Aq 4 _:=hr.mono (by decide);kxf_eq;refine ⟨_,AF (AZ (i:=3) nd rfl (Or.inl rfl) (Ar Ag (pv 2) AK (fun _ _=>rfl)))
   (AF (A0 (V7 (EJ (SK GH GH AK (Ar Ag (pv 1) AK (fun _ _=>rfl)) (Ad (by rfl) g2 r2)))
     (V7 (EJ (CD (AX HH Gg (by rfl) ol k2 b2 .nil AU (AA (pv 3) (AA (Ad (by rfl) g3 r3) AC)))))
     (SJ (EJ (CD (AX MU Gg (by rfl) Mb k0 b0 .nil AU (AA (Ar Ag (pv 2) AK (fun _ _=>rfl)) AC))))))).pt (AG (AQ (Aj (AA (Ad rfl g1 r1) AC)))) Af)
   (AF (A0 (EJ (CD (Aa (UH rfl) (by rfl) ba boot_all (AA (GD (own:= [("number",5)]) rfl nd (BF (pv 3)) (Bn (by kernel_rfl)) (fun _ _ _ _ _=>A2 (i:=5) nd rfl (Or.inl rfl)) (fun _ _ _ _ _=>Ez)
     (fun _ _ _ _ _=>Ac (pv 0) T.cl m3.me JE Gg m3.bi .nil AU (AA (pv 5) AC))) AC)))) (AG (AQ (Aj (AA (Ad rfl g4 r4) AC)))) Af)
   (AF (A0 (Al Ea (Aa Ae (by rfl) bl PySem.boot_len (AA (Ap (pv 0) rfl) AC)) (Ad rfl g5 r5) (Av _)) (AG (AQ (Aj (AA (Ad rfl g6 r6) AC)))) Af)
   (AF (AZ (i:=4) nd rfl (Or.inl rfl) (AX Bw VH rfl Uq k1 b1 .nil AU (AA (Ar Ag (pv 2) AK (fun _ _=>rfl)) AC)))
   (AF (A0 (Al gB (Ap (pv 4) rfl) AK (Av _)) (AG (AQ (Aj (AA (Ad rfl g7 r7) AC)))) Af)
   (AG (AQ (Aj (AA AK (AA (Ac (pv 0) T.cl m4.me oQ VH m4.bi .nil AU (AA (Ar Ag (pv 1) AK (fun _ _=>rfl)) (AA (pv 3) (AA (Ar Ag (pv 2) AK (fun _ _=>rfl)) (AA (Ap (pv 4) rfl) AC))))) AC)))))))))),?_⟩
  rw[show (0 :: [n]) :: [on,t]=[[0,n],on,t]from rfl,nB]at q;have out:∀H1,AW H H1->¬ (inside n 1 5&&(Vbdhae.few on 4&&isText t))=true->1<=sizeLine/\∀p,H1 p=none->Q (.ref p) (upd H1 p (.lst [V.int (-1)])):=fun H1 s1 z=>by
   rw[if_neg z]at q;exact ⟨by decide,fun p hp=>q _ p (After.same hA (s1.trans (AJ hp))) AB⟩
  have eI:inside n 1 5=(decide (1<=n)&&decide (n<=5)):=rfl;refine ⟨_,rfl,lr,_,0,.ref ra,rfl,rfl,Ao.of HS,rfl,?_⟩;refine ⟨_,rfl,ln,_,0,.int n,rfl,rfl,Ao.of Bs,rfl,_,_,rfl,rfl,_,rfl,?_⟩;refine BG (fun z1=>?_) (fun z1=>?_)
  rotate_left
  ·exact ⟨_,rfl,CJ (CJ (out H (AW.refl _) (by rw[eI,Bool.eq_false_iff.mpr z1];simp)))⟩
  refine ⟨_,_,rfl,rfl,_,rfl,?_⟩;cases z2:decide (n<=5)with
  |false=>exact CJ (CJ (out H (AW.refl _) (by rw[eI,z2];simp)))
  |true=>
  refine B1 ?_;refine ⟨_,rfl,ra,on,4,rfl,ha,by omega,by omega,fun H1 s1=>⟨_,rfl,?_⟩⟩;cases z3:Vbdhae.few on 4 with
  |false=>exact CJ (CJ (out H1 s1 (by rw[z3];simp)))
  |true=>
  refine B1 ?_;refine ⟨_,rfl,lr,_,1,.ref rb,rfl,rfl,Ao.of (s1 _ _ HS),rfl,rb,t,rfl,s1 _ _ hb,by omega,fun H2 s2=>⟨_,rfl,?_⟩⟩;have QB:=s1.trans s2;cases z4:isText t with
  |false=>exact CJ (out H2 QB (by rw[z4];simp))
  |true=>
  refine B1 ?_;rw[if_pos (by rw[eI,z1,z2,z3,z4];rfl)]at q;clear out;have z1:1<=n:=of_decide_eq_true z1;have z2:n<=5:=of_decide_eq_true z2;obtain ⟨z5,z6⟩:=AEy z3;isplit;obtain ⟨t1,t2,t3,t4⟩:=qL z5;kl_no;obtain ⟨i1,i2⟩:=QN z4;refine ⟨_,rfl,ra,rfl,⟨_,Ao.of (QB _ _ ha)⟩,fun D hD=>?_⟩;refine DI (K:=K) (a:=ra) (xs:=on.map V.int) (fun i H'=>H' D=some (.lst (((on.take i).map fun n=>isThere st n.toNat&&(changeAt st n.toNat).status==0).map V.bl))/\AW H2 H')
   ⟨AB,AJ hD⟩ (fun i H' _ ⟨_,s'⟩=>Ao.of (s' _ _ (QB _ _ ha))) ?_ ?_
  ·rintro i x H' hx ⟨Ct,s'⟩;obtain ⟨m,hm,rfl⟩:=ints_get hx;have hmr:=t2 m (mem_of_getElem? hm);have hs:=QB.trans s';have hmm:m=((m.toNat:Nat):Int):=by omega
   refine ⟨rfl,Ut ?_⟩;exact ⟨_,rfl,h,dx,fs,rfl,hs _ _ e1,e5 _ m3.nm.1 m3.nm.2,_,rfl,h,lc,lf,as,st,m.toNat,by rw[<- hmm];rfl,hA.same hs,by omega,Ip hD hm Ct s' (AW.refl _) rfl (by omega)⟩
  rintro H3 ⟨hD3,s3⟩;have Qh:=QB.trans s3;rw[length_map,take_length]at hD3;refine ⟨D,_,rfl,Ao.of hD3,_,rfl,?_⟩;rw[all_map];show if (!on.all fun n=>isThere st n.toNat&&(changeAt st n.toNat).status==0)=true then _ else _;have eg:(!on.all fun n=>isThere st n.toNat&&(changeAt st n.toNat).status==0)=Iu st (nats on):=by
   unfold Iu nats;rw[any_map,List.not_all_eq_any_not]
   congr 1
   funext x
   show (!(_&&_))=(!_||_);rw[Bool.not_and];rfl
  rw[eg];cases z7:Iu st (nats on)with
  |true=>
   rw[z7,if_pos rfl]at q;exact CJ ⟨by show 1<=sizeLine;decide,fun p hp=>q _ p (After.same hA (Qh.trans (AJ hp))) AB⟩
  |false=>
  rw[z7,if_neg (by decide)]at q;refine B1 ?_;have hon:∀m∈nats on,1<=m/\m<=st.changes.length:=fun m hm=>by
   have:=z7;unfold Iu at this;rw[List.any_eq_false]at this;have:=this m hm;simp only[Bool.or_eq_true,not_or,Bool.not_eq_true]at this;exact FC.mp (by simpa using this.1)
  have hlen:=hA.ok.len;refine ⟨_,rfl,h,C,dx,fs,_,rfl,Qh _ _ e1,T.cl,T.nC,e2,lc,_,rfl,.inl (Ao.of (Qh _ _ hA.Gf)),rfl,_,rfl,?_⟩;rw[length_map,hA.len];refine BG (fun z8=>?_) (fun z8=>?_)
  ·have z8:V.int (st.changes.length:Int)=V.int 40:=of_decide_eq_true z8;have z8:=V.int.inj z8;rw[if_pos (by omega)]at q;exact ⟨by show 1<=sizeLine;decide,fun p hp=>q _ p (After.same hA (Qh.trans (AJ hp))) AB⟩
  have z8:¬ st.changes.length=40:=fun e=>z8 (decide_eq_true (by rw[e];rfl));rw[if_neg (by omega)]at q;refine ⟨_,rfl,lr,_,1,.ref rb,rfl,rfl,Ao.of (Qh _ _ HS),rfl,rb,nats t,rfl,by rw[<- i2];exact Ao.of (Qh _ _ hb),by unfold nats;rw[length_map];omega,fun H4 r s4 hR=>?_⟩;have fe:=Qh.trans s4;isplit;obtain ⟨Qz,la,My,ops,wn,x1,x2,x3,x4,x5,x6,x7,x8⟩:=hR.ex;kl_no;refine ⟨_,rfl,r,CR,Qz,_,_,rfl,x4,TR.cl,TR.nW,R1 _ _,wn,0,rfl,rfl,_,rfl,?_⟩;rcases x8 with ⟨y1,y2⟩ | ⟨y1,y2⟩
  rotate_left
  ·rw[y1]at q;have z:decide ((0:Int)<wn)=true:=decide_eq_true (by omega);refine BG (fun _=>?_) (fun z'=>absurd z z');exact ⟨by show 1<=sizeLine;decide,fun p hp=>q _ p (After.same hA (fe.trans (AJ hp))) AB⟩
  subst y2;rw[y1]at q;refine B1 ?_;isplit;obtain ⟨v1,v2,v3,v4⟩:=Xd y1;kl_no;have yA:(printed ops).length<=600:=by rw[v1];unfold nats;rw[length_map];exact i1
  have KQ:n=((n.toNat:Nat):Int):=by omega
  have nin:∀{a:Addr},a≠lc->a≠lf->a∉ [lc,lf]:=fun {a} h1 h2 z=>by
   rcases mem_cons.mp z with y | y
   ·exact h1 y
   ·simp at y;exact h2 y
  have zA:la∉ [lc,lf]:=nin (fun z=>by rw[z,Qh _ _ hA.Gf]at x3;cases x3) (fun z=>by rw[z,Qh _ _ hA.Ep]at x3;cases x3);refine ⟨_,rfl,h,dx,fs,rfl,fe _ _ e1,e5 _ m4.nm.1 m4.nm.2,_,rfl,ln,_,0,.int n,rfl,rfl,Ao.of (fe _ _ Bs),rfl,_,rfl,_,rfl,lr,_,1,.ref rb,rfl,rfl,Ao.of (fe _ _ HS),rfl,_,rfl,r,CR,Qz,_,_,rfl,x4,TR.cl,TR.nA,fh _ _,
   h,lc,lf,ra,rb,la,as,My,st,n.toNat,ops,nats on,by rw[<- KQ];rfl,hA.same fe,by omega,x5,x6,x7,v2,?_,yA,?_,hon,by unfold nats;rw[length_map];omega,zA,nin na1 na2,nin nb1 nb2,fun H5 x hA5 hx k5=>?_⟩
  ·have:=fe _ _ hb;rw[i2]at this;rw[v1];exact this
  ·have:=fe _ _ ha;rw[t4,BJ]at this;exact this
  ·refine ⟨by show 2<=sizeLine;decide,fun p hp=>?_⟩;refine q _ p (After.more ⟨⟨lf,_,hA5,.inl rfl,fun a YD=>?_⟩,fun b o e _ n2 _ _=>k5 b o (fe _ _ e) n2⟩ (AJ hp)) AB;rcases mem_append.mp YD with y | y
   ·exact .inl y
   ·simp at y;subst y;exact .inr (fe.free hx)
def pO:HO->Bool
 | .EA _ _=>true
 | .v7 _ _=>true
 |_=>false
def Uc (H H':Hp):Prop:=∀b o,H b=some o->pO o=false->H' b=some o
theorem Uc.CW {H H':Hp}(s:Uc H H'):Fx H H':=fun b ys e=>s b _ e rfl
theorem RW.off {C:Addr}{H H':Hp}{a:Addr}{ops:List Op}(s:Uc H H')(h:RW C H a ops):RW C H' a ops:=
 h.keep (fun dx fs e=>⟨fs,s _ _ e rfl,rfl,rfl⟩) fun b AV e=>s _ _ e rfl
theorem An.off {C:Addr}{H H':Hp}{av:List Addr}{a:Addr}{c:Change}(s:Uc H H')(h:An C H av a c):An C H' av a c:=by
 obtain ⟨dx,la,ls,lt,fs,as,h1,h2,h3,h4,h5,h6,h7,h8,h9,cF,Yt⟩:=h.ex;exact ⟨h.rw.off s,⟨dx,la,ls,lt,fs,as,s _ _ h1 rfl,h2,h3,h4,h5,h6,s _ _ h7 rfl,h8.CW s.CW,s _ _ h9 rfl,s _ _ cF rfl,Yt⟩,h.ok,h.len,fun K8 GW e=>h.kn K8 GW (by rw[s _ _ h1 rfl]at e;cases e;exact h1),h.ed.keep rfl rfl (fun dx fs e=>⟨fs,s _ _ e rfl,rfl,rfl⟩) fun b xs e _=>s _ _ e rfl⟩
theorem Ab.off {CH CC:Addr}{H H':Hp}{h lc lf:Addr}{as:List Addr}{s:Vbdhae.State}(z:Uc H H')(a:Ab CH CC H h lc lf as s):Ab CH CC H' h lc lf as s:=by
 obtain ⟨dx,fs,h1,h2⟩:=a.ex;exact ⟨⟨dx,fs,z _ _ h1 rfl,h2⟩,a.ne,z _ _ a.Gf rfl,z _ _ a.Ep rfl,a.nd,Paired.TD a.all fun _ _ q=>q.off z,a.ok⟩
def nnL:List Nat:= [1,0,1,1,1,1,1,1,0,2,0,1,1,1,1,2,1,2,0,0,0]
def xa:List Nat:= [2,1,0,0,0,0,0,0,0,0,0,0,0,0,0,0,0,0,1,0,0]
def zn (K:PySem.W.Frag)(mg:Str->Option Value)(x:Str)(xs:List V):Prop:=∃a,mg x=some (.ref a)/\∀H,Gi K H a xs
structure rQ (P:Program)(w:World)(K:PySem.W.Frag)(mg:Str->Option Value)(base:Heap)(C CC:Addr)(k nn nr:Nat)(f:Addr):Prop where
 ex:∃fd,AR P w K mg base As 8 f fd ["house","numbers","rows"] (BQ C CC (k:Int) nn nr)/\Binds K fd ["house","numbers","rows"] []
 kp:keepIn K (.ref f)=true
def NC (CH CC:Addr):Sp:=fun vs H Q _=>∃(h lc lf ln lr:Addr) (as:List Addr) (s:Vbdhae.State) (k nn nr:Nat) (nums:List Int) (EX:List Addr) (rows:List (List Int)),vs=[.ref h,.int (k:Int),.ref ln,.ref lr]/\nnL[k]? =some nn/\xa[k]? =some nr/\Ab CH CC H h lc lf as s/\
 H ln=some (.lst (nums.map V.int))/\H lr=some (.lst (EX.map V.ref))/\Paired (fun a r=>H a=some (.lst (r.map V.int))/\r.length<=2000/\a≠lc/\a≠lf) EX rows/\nums.length=nn/\rows.length=nr/\
 ∀H' p,After CH CC H H' h lc lf as (stepNumbers s (((k:Int)::nums)::rows)).1->H' p=some (.lst ((stepNumbers s (((k:Int)::nums)::rows)).2.map V.int))->Q (.ref p) H'
theorem NK:AT ["house","number","numbers","rows","call"] ["house","number","numbers","rows"] (AO J0):=⟨rfl,rfl,rfl,by decide+kernel,rfl,by decide+kernel,by decide+kernel⟩
theorem Xn {f C CC:Addr}{fd:FuncData}{fs:List Addr}(F:CB K "answer_to" "answer_to" J0 f fd)(tc:zn K mg "CALLS" (fs.map V.ref))
  (tb:∀k nn nr,nnL[k]? =some nn->xa[k]? =some nr->∃g,fs[k]? =some g/\rQ P w K mg base C CC k nn nr g):
  AR P w K mg base As 9 f fd ["house","number","numbers","rows"] (NC C CC):=by
 refine F.ok NK (fun vs H Q E h=>?_) (fun BM A outer s H vs Q E hr h=>?_)
 ·obtain ⟨h,lc,lf,ln,lr,as,s,k,nn,nr,nums,EX,rows,rfl,_⟩:=h;rfl
 ·obtain ⟨h,lc,lf,ln,lr,as,st,k,nn,nr,nums,EX,rows,rfl,k1,k2,hA,Bs,HS,Qt,HM,Ge,q⟩:=h;obtain ⟨a,m1,q1⟩:=tc;obtain ⟨g,hg,hC⟩:=tb k nn nr k1 k2;have nd:=NK.nd;refine ⟨_,AF (AZ (i:=4) nd rfl (Or.inl rfl) (Ar Cw (Ad (v:= .ref a) rfl m1 rfl) (pv 1) (fun _ _=>rfl)))
   (AG (AQ (oA (CX:=As) (k:=8) (i:=4) (Tb:=fun g sp=>∃(k nn nr:Nat),rQ P w K mg base C CC k nn nr g/\sp=BQ C CC (k:Int) nn nr) (fun g sp ⟨k,nn,nr,⟨⟨fd,h1,h2⟩,kp⟩,e⟩=>⟨fd,_,by subst e;exact h1,kp,h2⟩) hr rfl (Or.inl rfl) AU (AA (pv 0) (AA (pv 2) (AA (pv 3) AC)))))),?_⟩
  refine ⟨_,rfl,a,_,_,.ref g,rfl,rfl,q1 _,Iq (by rw[getElem?_map,hg];rfl),?_⟩;exact ⟨g,_,rfl,⟨k,nn,nr,hC,rfl⟩,_,rfl,_,rfl,_,rfl,h,lc,lf,ln,lr,as,st,nums,EX,rows,rfl,hA,Bs,HS,Qt,HM,Ge,q⟩
theorem mC (c:List (List Int)):PyVbdhae.whole c=c:=by
 rcases c with _|⟨_|⟨n|n,x⟩,t⟩
 ·rfl
 ·rfl
 ·iterate 21(rcases n with _|n;rotate_left)
  ·rfl
  all_goals(rcases x with _|⟨a,_|⟨b,x⟩⟩)<;>first|rfl|(rcases t with _|⟨r,_|⟨s,_|⟨u,t⟩⟩⟩<;>rfl)|(rcases x with _|⟨d,x⟩<;>(first|rfl|(rcases t with _|⟨r,t⟩<;>rfl)))
 ·rfl
theorem iM (cs:List (List (List Int))):cs.map PyVbdhae.whole=cs:=by
 rw[show PyVbdhae.whole=id from funext mC,map_id]
def nk (s:Vbdhae.State)(cs:List (List (List Int))):List Int:=PyFlat.told (PyFlat.played stepNumbers s cs)
theorem jK (s:Vbdhae.State)(c:List (List Int))(cs:List (List (List Int))):nk s (c::cs)=(((stepNumbers s c).2.length:Int)::(stepNumbers s c).2)++nk (stepNumbers s c).1 cs:=by
 unfold nk PyFlat.told;rw[PyFlat.played,flatMap_cons]
theorem Yo {l:List Int}{cs:List (List (List Int))}(h:PyFlat.calls PyVbdhae.shape l.length l=some cs):PyVbdhae.answers l=nk ⟨[],[]⟩ cs:=by
 unfold PyVbdhae.answers PyVbdhae.calls;rw[h];show PyFlat.told (PyFlat.played VbdhaeNeutral.step VbdhaeNeutral.start (cs.map PyVbdhae.whole))=_;rw[iM];rfl
theorem nG {p:Int}{n k:Nat}(h:PyVbdhae.shape p=some (n,k)):nnL[p.toNat]? =some n/\xa[p.toNat]? =some k/\p=((p.toNat:Nat):Int)/\(PyVbdhae.bound p).2=replicate k (-1000000000000000000,1000000000000000000,0,2000):=by
 by_cases hp:0<=p/\p<=20
 ·obtain ⟨j,rfl⟩:∃j:Nat,p=j:=⟨p.toNat,by omega⟩;have hj:j<21:=by omega
  match j,hj with
  |0,_=>
   have h:some (1,2)=some (n,k):=h;cases h;exact ⟨rfl,rfl,rfl,rfl⟩
  |1,_=>
   have h:some (0,1)=some (n,k):=h;cases h;exact ⟨rfl,rfl,rfl,rfl⟩
  |2,_=>
   have h:some (1,0)=some (n,k):=h;cases h;exact ⟨rfl,rfl,rfl,rfl⟩
  |3,_=>
   have h:some (1,0)=some (n,k):=h;cases h;exact ⟨rfl,rfl,rfl,rfl⟩
  |4,_=>
   have h:some (1,0)=some (n,k):=h;cases h;exact ⟨rfl,rfl,rfl,rfl⟩
  |5,_=>
   have h:some (1,0)=some (n,k):=h;cases h;exact ⟨rfl,rfl,rfl,rfl⟩
  |6,_=>
   have h:some (1,0)=some (n,k):=h;cases h;exact ⟨rfl,rfl,rfl,rfl⟩
  |7,_=>
   have h:some (1,0)=some (n,k):=h;cases h;exact ⟨rfl,rfl,rfl,rfl⟩
  |8,_=>
   have h:some (0,0)=some (n,k):=h;cases h;exact ⟨rfl,rfl,rfl,rfl⟩
  |9,_=>
   have h:some (2,0)=some (n,k):=h;cases h;exact ⟨rfl,rfl,rfl,rfl⟩
  |10,_=>
   have h:some (0,0)=some (n,k):=h;cases h;exact ⟨rfl,rfl,rfl,rfl⟩
  |11,_=>
   have h:some (1,0)=some (n,k):=h;cases h;exact ⟨rfl,rfl,rfl,rfl⟩
  |12,_=>
   have h:some (1,0)=some (n,k):=h;cases h;exact ⟨rfl,rfl,rfl,rfl⟩
  |13,_=>
   have h:some (1,0)=some (n,k):=h;cases h;exact ⟨rfl,rfl,rfl,rfl⟩
  |14,_=>
   have h:some (1,0)=some (n,k):=h;cases h;exact ⟨rfl,rfl,rfl,rfl⟩
  |15,_=>
   have h:some (2,0)=some (n,k):=h;cases h;exact ⟨rfl,rfl,rfl,rfl⟩
  |16,_=>
   have h:some (1,0)=some (n,k):=h;cases h;exact ⟨rfl,rfl,rfl,rfl⟩
  |17,_=>
   have h:some (2,0)=some (n,k):=h;cases h;exact ⟨rfl,rfl,rfl,rfl⟩
  |18,_=>
   have h:some (0,1)=some (n,k):=h;cases h;exact ⟨rfl,rfl,rfl,rfl⟩
  |19,_=>
   have h:some (0,0)=some (n,k):=h;cases h;exact ⟨rfl,rfl,rfl,rfl⟩
  |20,_=>
   have h:some (0,0)=some (n,k):=h;cases h;exact ⟨rfl,rfl,rfl,rfl⟩
 ·unfold PyVbdhae.shape at h;rw[if_neg (by omega),if_neg (by omega),if_neg (by omega),if_neg (by omega),if_neg (by omega),if_neg (by omega),if_neg (by omega),if_neg (by omega),if_neg (by omega),if_neg (by omega),if_neg (by omega),if_neg (by omega),if_neg (by omega),if_neg (by omega),if_neg (by omega),if_neg (by omega),if_neg (by omega),if_neg (by omega),if_neg (by omega),if_neg (by omega),if_neg (by omega)]at h;cases h
theorem QJ:∀(k:Nat) (rows:List (List Int)),PyInside.lists (replicate k (-1000000000000000000,1000000000000000000,0,2000)) rows=true->rows.length=k->∀r∈rows,r.length<=2000
 |0,[],_,_,r,hr=>by cases hr
 |k+1,x::rows,h,hl,r,hr=>by
  rw[List.replicate_succ,PyInside.lists,Bool.and_eq_true,Bool.and_eq_true,Bool.and_eq_true,decide_eq_true_eq,decide_eq_true_eq]at h;rcases mem_cons.mp hr with rfl | z
  ·exact h.1.1.2
  ·exact QJ k rows h.2 (by simpa using hl) r z
theorem ZZ:∀(k:Nat) (r t:List Int) (xs:List (List Int)),PyFlat.rows k r=some (xs,t)->xs.length=k
 |0,r,t,xs,h=>by cases h;rfl
 |k+1,r,t,xs,h=>by
  unfold PyFlat.rows at h;split at h
  ·cases h
  ·split at h
   ·cases h
   ·rename_i _ x s _ ys u e;cases h;rw[length_cons,ZZ k _ _ _ e]
theorem jI {k:Nat}{r t:List Int}{xs:List (List Int)}(h:PyFlat.rows (k+1) r=some (xs,t)):∃(m:Nat) (r':List Int) (ys:List (List Int)),r=(m:Int)::r'/\m<=r'.length/\xs=r'.take m::ys/\PyFlat.rows k (r'.drop m)=some (ys,t):=by
 unfold PyFlat.rows at h;cases r with
 |nil=>cases h
 |cons n r'=>
  unfold PyFlat.row at h;by_cases z:0<=n/\n.toNat<=r'.length
  ·simp only[z,and_self,if_true]at h;cases e:PyFlat.rows k (r'.drop n.toNat)with
   |none=>rw[e]at h;cases h
   |some y=>
    obtain ⟨ys,u⟩:=y;rw[e]at h;cases h;exact ⟨n.toNat,r',ys,by rw[Int.toNat_of_nonneg z.1],z.2,rfl,e⟩
  ·simp only[z,if_false]at h;cases h
theorem lF {p:Int}{r t:List Int}{c:List (List Int)}(h:PyFlat.call PyVbdhae.shape (p::r)=some (c,t)):∃(n k:Nat) (xs:List (List Int)),PyVbdhae.shape p=some (n,k)/\n<=r.length/\PyFlat.rows k (r.drop n)=some (xs,t)/\c=(p::r.take n)::xs:=by
 unfold PyFlat.call at h;simp only at h;cases e:PyVbdhae.shape p with
 |none=>rw[e]at h;cases h
 |some y=>
  obtain ⟨n,k⟩:=y;rw[e]at h;simp only at h;by_cases z:r.length<n
  ·rw[if_pos z]at h;cases h
  ·rw[if_neg z]at h;cases e2:PyFlat.rows k (r.drop n)with
   |none=>rw[e2]at h;cases h
   |some y=>
    obtain ⟨xs,u⟩:=y;rw[e2]at h;cases h;exact ⟨n,k,xs,rfl,by omega,e2,rfl⟩
theorem ef {f:Nat}{p:Int}{r:List Int}{rest:List (List (List Int))}(h:PyFlat.calls PyVbdhae.shape f (p::r)=some rest):∃f' c t Za,rest=c::Za/\PyFlat.call PyVbdhae.shape (p::r)=some (c,t)/\PyFlat.calls PyVbdhae.shape f' t=some Za:=by
 cases f with
 |zero=>cases h
 |succ f=>
  unfold PyFlat.calls at h;cases e:PyFlat.call PyVbdhae.shape (p::r)with
  |none=>rw[e]at h;cases h
  |some y=>
   obtain ⟨c,t⟩:=y;rw[e]at h;simp only at h;cases e2:PyFlat.calls PyVbdhae.shape f t with
   |none=>rw[e2]at h;cases h
   |some cs=>
    rw[e2]at h;cases h;exact ⟨f,c,t,cs,rfl,rfl,e2⟩
theorem lE {f:Nat}{rest:List (List (List Int))}(h:PyFlat.calls PyVbdhae.shape f []=some rest):rest=[]:=by
 cases f <;> (unfold PyFlat.calls at h;cases h;rfl)
theorem drop_cons {α:Type}{l:List α}{i:Nat}{x:α}{r:List α}(h:l.drop i=x::r):l[i]? =some x/\r=l.drop (i+1)/\i<l.length:=by
 have hi:i<l.length:=by
  cases Nat.lt_or_ge i l.length with
  |inl z=>exact z
  |inr z=>rw[List.drop_eq_nil_of_le z]at h;cases h
 rw[drop_eq_getElem_cons hi]at h;cases h;exact ⟨getElem?_eq_getElem hi,rfl,hi⟩
theorem An.gen {C:Addr}{H H':Hp}{av:List Addr}{a:Addr}{c:Change}(h:An C H av a c)(s:∀b o,H b=some o->pO o=false->(∀C dx fs,o≠ .ins C dx fs)->H' b=some o)
  (ha:∀dx fs,H a=some (.ins C dx fs)->H' a=some (.ins C dx fs)):An C H' av a c:=by
 obtain ⟨dx,la,ls,lt,fs,as,h1,h2,h3,h4,h5,h6,h7,h8,h9,cF,Yt⟩:=h.ex;have sl:∀b xs,H b=some (.lst xs)->H' b=some (.lst xs):=fun b xs e=>s b _ e rfl (by intro _ _ _ z;cases z);exact ⟨h.rw.keep (fun dx fs e=>⟨fs,ha _ _ e,rfl,rfl⟩) fun b AV e=>s b _ e rfl (by intro _ _ _ z;cases z),⟨dx,la,ls,lt,fs,as,ha _ _ h1,h2,h3,h4,h5,h6,sl _ _ h7,h8.CW (fun b ys e=>s b _ e rfl (by intro _ _ _ z;cases z)),sl _ _ h9,sl _ _ cF,Yt⟩,h.ok,h.len,
  fun K8 GW e=>h.kn K8 GW (by rw[ha _ _ h1]at e;cases e;exact h1),h.ed.keep rfl rfl (fun dx fs e=>⟨fs,ha _ _ e,rfl,rfl⟩) fun b xs e _=>sl _ _ e⟩
theorem Ab.gen {CH CC:Addr}{H H':Hp}{h lc lf:Addr}{as:List Addr}{s:Vbdhae.State}(a:Ab CH CC H h lc lf as s)(z:∀b o,H b=some o->pO o=false->(∀C dx fs,o≠ .ins C dx fs)->H' b=some o)
  (hh:H' h=H h) (has:∀b∈as,H' b=H b):Ab CH CC H' h lc lf as s:=by
 obtain ⟨dx,fs,h1,h2⟩:=a.ex;refine ⟨⟨dx,fs,hh.trans h1,h2⟩,a.ne,z _ _ a.Gf rfl (by intro _ _ _ z;cases z),z _ _ a.Ep rfl (by intro _ _ _ z;cases z),a.nd,?_,a.ok⟩;exact EL a.all fun i b c e q=>q.gen z fun dx fs e'=>(has b (mem_of_getElem? e)).trans e'
def Xq (H:Hp)(g r:Addr):Hp:=upd (upd H g (.v7 0 0)) r (.v7 0 0)
theorem Sr {H:Hp}{g r:Addr}:Xq H g r r=some (.v7 0 0):=AB
theorem dE {H:Hp}{g r:Addr}(h:g≠r):Xq H g r g=some (.v7 0 0):=by unfold Xq;rw[AI h,AB]
theorem IZ {H:Hp}{g r b:Addr}(h1:b≠g)(h2:b≠r):Xq H g r b=H b:=by unfold Xq;rw[AI h2,AI h1]
theorem tT {H H':Hp}{g r:Addr}(h:∀b o,H b=some o->b≠g->b≠r->H' b=some o):Uc (Xq H g r) H':=fun b o e n=>by
 by_cases e1:b=r
 ·subst e1;rw[Sr]at e;cases e;cases n
 ·by_cases e2:b=g
  ·subst e2;rw[dE e1]at e;cases e;cases n
  ·rw[IZ e2 e1]at e;exact h b o e e2 e1
def vv (K:PySem.W.Frag)(H:Hp)(a:Addr)(xs:List V):Prop:=(∃o,H a=some (.EA o (.lst xs)))\/∀H,Ao K H a xs
theorem vv.sq {K:PySem.W.Frag}{H:Hp}{a:Addr}{xs:List V}(h:vv K H a xs):Ao K H a xs:=by
 rcases h with ⟨o,h⟩ | h
 ·exact .inl (.inr ⟨o,h⟩)
 ·exact h H
theorem vv.keep {K:PySem.W.Frag}{H H':Hp}{a:Addr}{xs:List V}(h:vv K H a xs)(k:∀o,H a=some (.EA o (.lst xs))->H' a=some (.EA o (.lst xs))):vv K H' a xs:=by
 rcases h with ⟨o,h⟩ | h
 ·exact .inl ⟨o,k o h⟩
 ·exact .inr h
theorem QE {α β:Type}{F G:α->β->Prop}:∀{l:List α} {m:List β},Paired F l m->(∀a b,b∈m->F a b->G a b)->Paired G l m
 |_,_,.nil,_=> .nil
 |_,_,.cons r t,h=> .cons (h _ _ mem_cons_self r) (QE t fun a b e q=>h a b (mem_cons_of_mem _ e) q)
def MI (K:PySem.W.Frag):Sp:=fun vs H Q _=>∃(a:Addr) (l:List Int),vs=[.ref a]/\vv K H a (l.map V.int)/\PyVbdhae.answers_asked l=true/\∀(H':Hp) (p:Addr),H' p=some (.lst ((PyVbdhae.answers l).map V.int))->Q (.ref p) H'
theorem Ru:AT ["calls","house","reader","given","call","numbers","rows","answer","place"] ["calls"] (AO Ot):=⟨rfl,rfl,rfl,by decide+kernel,rfl,by decide+kernel,by decide+kernel⟩
theorem dD {f C CC CR fA fH fI f1 f2 f3 f4:Addr}{fd dA dH dI d1 d2 d3 d4:FuncData}(F:CB K "answers" "answers" Ot f fd)(TR:GZ K CR)(bl:mg "len"=none)(br:mg "range"=none)
  (t1:zn K mg "HOW_MANY_NUMBERS" (AY nnL)) (t2:zn K mg "HOW_MANY_ROWS" (AY xa))
  (MH':Mk K C fH) (okH:AR P w K mg base As 1 fH dH ["self"] (La C CC)) (bH:Binds K dH ["self"] []) (mgH:mg "House"=some (.ref C))
  (MR:Mk K CR fI) (okI:AR P w K mg base As 1 fI dI ["self","source"] (Jo CR)) (bI:Binds K dI ["self","source"] []) (mgR:mg "Reader"=some (.ref CR))
  (Bw:AR P w K mg base As 1 f1 d1 ["self"] (Rb K CR)) (m1:Meth K CR "is_done" f1) (b1:Binds K d1 ["self"] [])
  (HH:AR P w K mg base As 1 f2 d2 ["self"] (F1 K CR)) (m2:Meth K CR "take_number" f2) (b2:Binds K d2 ["self"] [])
  (JE:AR P w K mg base As 1 f3 d3 ["self","how_many"] (FI K CR)) (m3:Meth K CR "take_numbers" f3) (b3:Binds K d3 ["self","how_many"] [])
  (oQ:AR P w K mg base As 2 f4 d4 ["self"] (P3 K CR)) (m4:Meth K CR "take_row" f4) (b4:Binds K d4 ["self"] [])
  (okA:AR P w K mg base As 9 fA dA ["house","number","numbers","rows"] (NC C CC)) (bA:Binds K dA ["house","number","numbers","rows"] []) (mgA:mg "answer_to"=some (.ref fA)) (kA:keepIn K (.ref fA)=true):
  AR P w K mg base As 10 f fd ["calls"] (MI K):=by
 refine F.ok Ru (fun vs H Q E h=>?_) (fun BM A outer s H vs Q E hr h=>?_)
 ·obtain ⟨a,l,rfl,_⟩:=h;rfl
 ·obtain ⟨a,l,rfl,hS,az,q⟩:=h;obtain ⟨an,mn,qn⟩:=t1;obtain ⟨ar,mr,qr⟩:=t2;have nd:=Ru.nd;kxf_eq;have hrM:Aq (1+1) _:=hr.mono (by decide);ktn_lt;refine ⟨_,AF (AZ (i:=1) nd rfl (Or.inl rfl) (nz MH' okH hrM rfl mgH bH .nil AU))
   (AF (AZ (i:=2) nd rfl (Or.inr rfl) (RF MR okI hrM rfl mgR bI .nil AU (AA (pv 0) AC)))
   (AF (AZ (i:=3) nd rfl (Or.inl rfl) (Aj AC))
   (AF (Zk PassesOwn.never (EJ (CD (C8 (pv 2) TR.cl m1 Bw FD b1 .nil AU)))
    (AF (AZ (i:=4) nd rfl (Or.inl rfl) (C8 (pv 2) TR.cl m2 HH FD b2 .nil AU))
    (AF (AZ (i:=5) nd rfl (Or.inl rfl) (Ac (pv 2) TR.cl m3 JE FD b3 .nil AU (AA (Ar Cw (Ad (v:= .ref an) rfl mn rfl) (pv 4) (fun _ _=>rfl)) AC)))
    (AF (Zm (i:=6) (own:= [("place",8)]) rfl nd rfl rfl (fV rfl rfl rfl (by decide+kernel)) (jM rfl br (AA (Ar Cw (Ad (v:= .ref ar) rfl mr rfl) (pv 4) (fun _ _=>rfl)) AC)) (Bn (by kernel_rfl)) (fun _ _ _ _ _=>A2 (i:=8) nd rfl (Or.inl rfl)) (fun _ _ _ _ _=>Ez)
     (fun _ _ _ _ _=>C8 (pv 2) TR.cl m4 oQ Gg b4 .nil AU))
    (AF (sy (AZ (i:=7) nd rfl (Or.inl rfl) (AX okA hr rfl mgA kA bA .nil AU (AA (pv 1) (AA (pv 4) (AA (pv 5) (AA (pv 6) AC)))))))
    (AF (Bt (JD plainAttrs_list PySem.F.slot_list_append PySem.F.type_list_append D8 (pv 3) (AA (Aa Ae (by rfl) bl PySem.boot_len (AA (pv 7) AC)) AC)))
    (AG (Bt (JD plainAttrs_list slot_list_extend type_list_extend PB (pv 3) (AA (pv 7) AC))))))))))
   (AG (AQ (pv 3)))))),?_⟩
  isplit;obtain ⟨raw,AA0,JY,dk⟩:∃raw,PyFlat.calls PyVbdhae.shape l.length l=some raw/\PyInside.calls PyVbdhae.bound raw=true/\(PyVbdhae.answers l).length<=10000000:=by
   unfold PyVbdhae.answers_asked at az;split at az
   ·cases az
   ·rename_i raw e;simp only[Bool.and_eq_true]at az;exact ⟨raw,e,az.1.1.2,of_decide_eq_true az.2⟩
  have AEp:=Yo AA0;kl_no;intro h dxh nh ADT AHQ;refine ⟨h,dxh,rfl,AB,fun H1 lc0 lf0 rl Gf Ep k1=>⟨rfl,?_⟩⟩;have s1:AW H H1:=AW.made nh ADT k1;refine ⟨_,rfl,?_⟩;intro r Qz nr ADS AHP;refine ⟨r,Qz,a,rfl,AB,rfl,?_⟩;rw[DU];generalize Wj:upd (upd H1 Qz (.own r)) r (.ins CR Qz (Ov a 0))=H2;have s2:AW H1 H2:=fun b o e=>by rw[<- Wj,AI (AH e nr),AI (AH e ADS)];exact e
  have gX:H2 r=some (.ins CR Qz (Ov a 0)):=by rw[<- Wj,AB]
  refine ⟨zero_le _,fun g hg=>?_⟩;have s3:AW H2 (upd H2 g (.lst [])):=AJ hg;have hg3:(upd H2 g (.lst [])) g=some (.lst []):=AB;generalize upd H2 g (.lst [])=H3 at s3 hg3;let Pv:L2.St->Hp->Prop:=fun σ H'=>∃(i:Nat) (st:Vbdhae.State) (out:List Int) (rest:List (List (List Int))) (lc lf:Addr) (as:List Addr) (vc vn vr va:Option V),σ=[some (.ref a),some (.ref h),some (.ref r),some (.ref g),vc,vn,vr,va,none]/\
   H' r=some (.ins CR Qz (Ov a (i:Int)))/\vv K H' a (l.map V.int)/\H' g=some (.lst (out.map V.int))/\Ab C CC (Xq H' g r) h lc lf as st/\i<=l.length/\(∃f,PyFlat.calls PyVbdhae.shape f (l.drop i)=some rest)/\PyVbdhae.answers l=out++nk st rest/\PyInside.calls PyVbdhae.bound rest=true
  refine Yv Pv (fun _ H'=>match H' r with | some (.ins _ _ [_,(_,.int i)])=>l.length - i.toNat | _=>0) ?_ ?_ ?_
  ·refine ⟨0,⟨[],[]⟩,[],raw,lc0,lf0,[],none,none,none,none,rfl,s3 _ _ gX,hS.keep fun o e=>s3 _ _ (s2 _ _ (s1 _ _ e)),hg3,rl.same fun b o e=>?_,zero_le _,⟨_,AA0⟩,AEp,JY⟩;have e2:=s2 _ _ e;rw[IZ (AH e2 hg) (AH e nr)];exact s3 _ _ e2
  ·intro σ H' zz;isplit;obtain ⟨i,st,out,rest,lc,lf,as,vc,vn,vr,va,rfl,pX,hS',yO,zU,hi,⟨f',hf'⟩,Ls,yN⟩:=zz;kl_no;have wH:g≠r:=A7 yO pX (by kpt_eq);have AF9:out.length<=10000000:=by rw[Ls,length_append]at dk;omega
   refine ⟨_,rfl,r,Qz,_,rfl,pX,by rfl,r,Qz,a,(i:Int),l,rfl,pX,hS'.sq,_,rfl,?_⟩;kpt_hd
   rotate_left
   ·have z:i=l.length:=by
     simp at z;omega
    rw[z,drop_length]at hf';rw[lE hf']at Ls;have Ls:PyVbdhae.answers l=out ++ []:=Ls;rw[append_nil]at Ls;refine ⟨_,rfl,q H' g ?_⟩;rw[Ls];exact yO
   isplit;obtain ⟨p,r',hd⟩:∃p r',l.drop i=p::r':=by
    have z:i<l.length:=by
     simp at z;omega
    exact ⟨_,_,drop_eq_getElem_cons z⟩
   rw[hd]at hf';obtain ⟨f2',c,t,Za,er,hc,aq⟩:=ef hf';obtain ⟨n,k,xs,hsh,hn,pW,ec⟩:=lF hc;obtain ⟨KQ,hnr,wU,hbd⟩:=nG hsh;obtain ⟨d1',d2',d3'⟩:=drop_cons hd;have hxl:=ZZ _ _ _ _ pW;subst er;have ABH:PyInside.call PyVbdhae.bound c=true/\PyInside.calls PyVbdhae.bound Za=true:=by
    unfold PyInside.calls at yN ⊢;rw[all_cons,Bool.and_eq_true]at yN;exact yN
   have ug:∀x∈xs,x.length<=2000:=by
    have h1:=ABH.1;subst ec;unfold PyInside.call at h1;simp only[Bool.and_eq_true]at h1;rw[hbd]at h1;exact QJ k xs h1.2 hxl
   rw[jK]at Ls;kl_no;refine ⟨_,rfl,r,Qz,_,rfl,pX,by rfl,r,Qz,a,i,l,p,rfl,pX,hS'.sq,d1',?_⟩;have ha1:=Ao.inst (o':= .ins CR Qz (Ov a ((i+1:Nat):Int))) pX hS'.sq;have AGI:r'.length=l.length - (i+1):=by rw[d2',length_drop]
   refine ⟨_,rfl,r,Qz,_,rfl,AB,by rfl,_,rfl,an,_,_,.int (n:Int),rfl,rfl,qn _,at_of (j:=p.toNat) wU (by unfold AY;rw[getElem?_map,KQ];rfl),r,Qz,a,i+1,n,l,rfl,AB,ha1,by omega,fun ln Bs=>?_⟩;rw[<- d2',DU];have nlr:ln≠r:=fun e=>by rw[e,AB]at Bs;cases Bs
   rw[AI nlr]at Bs;generalize hHb:upd (upd H' r (.ins CR Qz (Ov a ((i+1+n:Nat):Int)))) ln (.lst ((r'.take n).map V.int))=Hb;have kb:∀b o,H' b=some o->b≠r->Hb b=some o:=fun b o e nb=>by rw[<- hHb,AI (AH e Bs),AI nb];exact e
   have hrb:Hb r=some (.ins CR Qz (Ov a ((i+1+n:Nat):Int))):=by rw[<- hHb,AI nlr.symm,AB]
   have AEG:Hb ln=some (.lst ((r'.take n).map V.int)):=by rw[<- hHb,AB]
   have hSb:vv K Hb a (l.map V.int):=hS'.keep fun o e=>kb _ _ e (A7 e pX (by kpt_eq));have hd2:r'.drop n=l.drop (i+1+n):=by rw[d2',drop_drop]
   rw[hd2]at pW;refine ⟨_,rfl,ar,_,_,.int (k:Int),rfl,rfl,qr _,at_of (j:=p.toNat) wU (by unfold AY;rw[getElem?_map,hnr];rfl),(k:Int),rfl,by omega,?_,fun D hD=>?_⟩
   ·have:k<=2:=by
     have:=mem_of_getElem? hnr;unfold xa at this;simp at this;omega
    omega
   have nDr:D≠r:=fun e=>by rw[e,hrb]at hD;cases hD
   refine pA (lo:=0) (n:=k) (fun j H4=>∃(pos:Nat) (done rst:List (List Int)) (EX:List Addr),H4 D=some (.lst (EX.map V.ref))/\Paired (fun b x=>H4 b=some (.lst (x.map V.int))/\Hb b=none/\b≠D) EX done/\xs=done++rst/\done.length=j/\
     PyFlat.rows (k - j) (l.drop pos)=some (rst,t)/\pos<=l.length/\i<pos/\H4 r=some (.ins CR Qz (Ov a (pos:Int)))/\∀b o,Hb b=some o->b≠r->H4 b=some o) ?_ ?_ ?_
   ·exact ⟨i+1+n,[],xs,[],AB,.nil,rfl,rfl,pW,by omega,by omega,by rw[AI nDr.symm];exact hrb,fun b o e nb=>by rw[AI (AH e hD)];exact e⟩
   ·intro j H4 hj zz;isplit;obtain ⟨pos,done,rst,EX,c1,c2,c3,c4,c5,c6,c7,c8,c9⟩:=zz;kl_no;rw[show k - j=(k - (j+1))+1 by omega]at c5;isplit;obtain ⟨m,r2,ys,y1,y2,y3,y4⟩:=jI c5;kl_no;obtain ⟨w1,w2,w3⟩:=drop_cons y1;have hSc:vv K H4 a (l.map V.int):=hSb.keep fun o e=>c9 _ _ e (A7 e hrb (by kpt_eq));have hl2:r2.length=l.length - (pos+1):=by rw[w2,length_drop]
    refine ⟨rfl,Ut ?_⟩;refine ⟨_,rfl,r,Qz,_,rfl,c8,by rfl,r,Qz,a,pos,m,l,rfl,c8,hSc.sq,w1,by omega,fun qa yB=>?_⟩;rw[<- w2];have nqr:qa≠r:=fun e=>by rw[e,c8]at yB;cases yB
    have nqD:qa≠D:=fun e=>by rw[e,c1]at yB;cases yB
    generalize yR:upd (upd H4 r (.ins CR Qz (Ov a ((pos+1+m:Nat):Int)))) qa (.lst ((r2.take m).map V.int))=H5;have k5:∀b o,H4 b=some o->b≠r->H5 b=some o:=fun b o e nb=>by rw[<- yR,AI (AH e yB),AI nb];exact e
    have hq5:H5 qa=some (.lst ((r2.take m).map V.int)):=by rw[<- yR,AB]
    have cE:H5 r=some (.ins CR Qz (Ov a ((pos+1+m:Nat):Int))):=by rw[<- yR,AI nqr.symm,AB]
    have Yr:=BZ c2;refine ⟨_,k5 _ _ c1 nDr,?_,pos+1+m,done ++ [r2.take m],ys,EX ++ [qa],?_,?_,?_,?_,?_,by omega,by omega,?_,?_⟩
    ·rw[length_map,sizeLine_eq,Yr,c4];have:=mem_of_getElem? hnr;unfold xa at this;simp at this;omega
    ·rw[AB,map_append];rfl
    ·refine FA (Paired.TD c2 fun b x ⟨u1,u2,u3⟩=>⟨?_,u2,u3⟩) ⟨?_,?_,nqD⟩
     ·rw[AI u3];exact k5 _ _ u1 (A7 u1 c8 (by kpt_eq))
     ·rw[AI nqD];exact hq5
     ·cases e:Hb qa with
      |none=>rfl
      |some o=>rw[c9 _ _ e nqr]at yB;cases yB
    ·rw[c3,y3,append_assoc];rfl
    ·rw[length_append,c4];rfl
    ·rw[w2,drop_drop]at y4;exact y4
    ·rw[AI nDr.symm];exact cE
    ·intro b o e nb;rw[AI (AH e hD)];exact k5 _ _ (c9 b o e nb) nb
   ·intro H4 zz;isplit;obtain ⟨pos,done,rst,EX,c1,c2,c3,c4,c5,c6,c7,c8,c9⟩:=zz;kl_no;rw[Nat.sub_self]at c5;have c5:some ([],l.drop pos)=some (rst,t):=c5;cases c5;rw[append_nil]at c3;subst c3;have hg4:H4 g=some (.lst (out.map V.int)):=c9 _ _ (kb _ _ yO wH) wH;refine ⟨g,_,hg4,trivial,fun od=>?_⟩;have so:Uc (Xq H' g r) (upd H4 g (.EA od (.lst (out.map V.int)))):=tT fun b o e n1 n2=>by rw[AI n1];exact c9 _ _ (kb _ _ e n2) n2
    have yU:=zU.off so;have hgl:(upd H4 g (.EA od (.lst (out.map V.int)))) g=some (.EA od (.lst (out.map V.int))):=AB;have kl:∀b o,H4 b=some o->b≠g->(upd H4 g (.EA od (.lst (out.map V.int)))) b=some o:=fun b o e nb=>by rw[AI nb];exact e
    generalize upd H4 g (.EA od (.lst (out.map V.int)))=Hl at so yU hgl kl;have nlg:ln≠g:=fun e=>by rw[e,yO]at Bs;cases Bs
    have nDg:D≠g:=fun e=>by
     have:=kb _ _ yO wH;rw[<- e,hD]at this;cases this
    have ABD:H' lc=some (.lst (as.map V.ref)):=by
     have:=zU.Gf;rw[IZ (fun e=>by rw[e,dE wH]at this;cases this) (fun e=>by rw[e,Sr]at this;cases this)]at this;exact this
    have j9:H' lf=some (.lst (AY st.force)):=by
     have:=zU.Ep;rw[IZ (fun e=>by rw[e,dE wH]at this;cases this) (fun e=>by rw[e,Sr]at this;cases this)]at this;exact this
    have AEK:=kb _ _ ABD (A7 ABD pX (by kpt_eq));have AEJ:=kb _ _ j9 (A7 j9 pX (by kpt_eq));have hpr:Paired (fun b x=>Hl b=some (.lst (x.map V.int))/\x.length<=2000/\b≠lc/\b≠lf) EX xs:=by
     refine QE c2 fun b x hx ⟨u1,u2,u3⟩=>⟨kl _ _ u1 (fun z=>?_),ug x hx,fun z=>?_,fun z=>?_⟩
     ·rw[z,kb _ _ yO wH]at u2;cases u2
     ·rw[z,AEK]at u2;cases u2
     ·rw[z,AEJ]at u2;cases u2
    refine ⟨_,rfl,_,rfl,_,rfl,_,rfl,h,lc,lf,ln,D,as,st,p.toNat,n,k,r'.take n,EX,xs,by rw[<- wU];rfl,KQ,hnr,yU,kl _ _ (c9 _ _ AEG nlr) nlg,kl _ _ c1 nDg,hpr,by rw[length_take,Nat.min_eq_left hn],hxl,fun H6 pa haf aj=>?_⟩;rw[<- wU, <- ec]at haf aj;generalize stepNumbers st c=sa at haf aj Ls;obtain ⟨yz,ans⟩:=sa;isplit;obtain ⟨lf2,as2,hA6,AIY,AEo⟩:=haf.ex;kl_no;isplit;obtain ⟨dxa,fsa,ea,_⟩:=yU.ex;kl_no;isplit;obtain ⟨dxb,fsb,eb,_⟩:=zU.ex;kl_no;have Yr:Hl r=some (.ins CR Qz (Ov a (pos:Int))):=kl _ _ c8 wH.symm;have nrh:r≠h:=fun e=>by rw[<- e,Sr]at eb;cases eb
    have wP:∀b∈as, ∃dx fs,(Xq H' g r) b=some (.ins CC dx fs):=fun b hb=>by
     obtain ⟨j,hj⟩:=getElem?_of_mem hb;obtain ⟨x,_,hx⟩:=Az zU.all hj;isplit;obtain ⟨K8,_,_,_,GW,_,g1,_⟩:=hx.ex;kl_no;exact ⟨_,_,g1⟩
    have AAV:r∉as:=fun hb=>by
     obtain ⟨_,_,e⟩:=wP r hb;rw[Sr]at e;cases e
    have Ib:∀b∈as, ∃dx fs,Hl b=some (.ins CC dx fs):=fun b hb=>by
     obtain ⟨_,_,e⟩:=wP b hb;exact ⟨_,_,so _ _ e rfl⟩
    have kN:∀b o u,Hl b=some (.EA o u)->H6 b=some (.EA o u):=fun b o u e=>haf.keep b _ e (A7 e ea (by kpt_eq)) (A7 e yU.Gf (by kpt_eq)) (A7 e yU.Ep (by kpt_eq)) fun hb=>by
     obtain ⟨_,_,e2⟩:=Ib b hb;rw[e]at e2;cases e2
    have wV:=kN _ _ _ hgl;have wR:H6 r=some (.ins CR Qz (Ov a (pos:Int))):=haf.keep r _ Yr nrh (A7 Yr yU.Gf (by kpt_eq)) (A7 Yr yU.Ep (by kpt_eq)) AAV;have npg:pa≠g:=A7 aj wV (by kpt_eq);have AFz:out.length+(1+ans.length)<=10000000:=by
     rw[Ls]at dk;simp only[length_append,length_cons]at dk;omega
    refine ⟨wV,?_⟩;refine ⟨_,rfl,.inl ⟨rfl,_,Ao.of AB⟩,_,rfl,pa,_,rfl,.inl (Ao.of (by rw[AI npg];exact aj)),g,_,_,rfl,rfl,AB,by rw[length_map,sizeLine_eq];omega,?_⟩;rw[DU];refine ⟨_,rfl,.inl ⟨rfl,_,Ao.of AB⟩,_,rfl,g,pa,_,_,rfl,rfl,AB,by rw[AI npg];exact aj,by simp only[length_append,length_map,length_cons,length_nil];rw[sizeLine_eq];omega,?_⟩;rw[DU];generalize hH9:upd H6 g _=H9;have k9:∀b,b≠g->H9 b=H6 b:=fun b nb=>by rw[<- hH9,AI nb]
    have hr9:H9 r=some (.ins CR Qz (Ov a (pos:Int))):=(k9 _ wH.symm).trans wR;isplit;obtain ⟨Hq,IB,ec6,_⟩:=hA6.ex;kl_no;have nhg:h≠g:=A7 ec6 wV (by kpt_eq);refine ⟨⟨pos,yz,out++((ans.length:Int)::ans),Za,lc,lf2,as2,_,_,_,_,rfl,hr9,hS'.keep fun o e=>?_,?_,hA6.gen (fun b o e n1 n2=>?_) ?_ (fun b hb=>?_),c6,⟨f2',aq⟩,by rw[Ls,append_assoc],ABH.2⟩,?_⟩
    ·have nag:a≠g:=A7 e yO (by kpt_eq);have nar:a≠r:=A7 e pX (by kpt_eq);exact (k9 _ nag).trans (kN _ _ _ (kl _ _ (c9 _ _ (kb _ _ e nar) nar) nag))
    ·rw[<- hH9,AB];simp only[map_append,map_cons,length_map,append_assoc];rfl
    ·rw[IZ (fun z=>by rw[z,wV]at e;cases e;cases n1) (fun z=>by rw[z,wR]at e;cases e;exact n2 _ _ _ rfl),k9 _ (fun z=>by rw[z,wV]at e;cases e;cases n1)];exact e
    ·rw[IZ nhg nrh.symm,k9 _ nhg]
    ·obtain ⟨j,hj⟩:=getElem?_of_mem hb;obtain ⟨x,_,hx⟩:=Az hA6.all hj;isplit;obtain ⟨K8,_,_,_,GW,_,g1,_⟩:=hx.ex;kl_no;have nbg:b≠g:=A7 g1 wV (by kpt_eq);have nbr:b≠r:=fun z=>by
      rcases AEo b hb with y | y
      ·exact AAV (by rw[<- z];exact y)
      ·rw[z,Yr]at y;cases y
     rw[IZ nbg nbr,k9 _ nbg]
    ·rw[hr9,pX];show l.length - ((pos:Nat):Int).toNat<l.length - ((i:Nat):Int).toNat;omega
  ·intro σ H' Q' Q'' hq zz;isplit;obtain ⟨x,hx,p,dx,fs,ex,hp,hl,p',K8,a',i',l',e',hp',YD,y,ey,qy⟩:=zz;kl_no;exact ⟨x,hx,p,dx,fs,ex,hp,hl,p',K8,a',i',l',e',hp',YD,y,ey,hq _ _ qy⟩
end
end Dj
namespace Dj
open PySem
abbrev lW:=SetTable.Probe
def lV (mask:Nat)(p:lW):lW:=
 if p.more > 0 then { p with j:=p.j+1,more:=p.more - 1 } else
 let (i,perturb):=SetTable.leap mask p.i p.perturb
 { p with j:=i,more:=SetTable.runEnd mask i - i,i,perturb }
def GA (mask:Nat)(x:Nat×Nat):lW:={ j:=x.1,more:=SetTable.runEnd mask x.1 - x.1,i:=x.1,perturb:=x.2,dummy:=none }
def Fj (mask:Nat):Nat->Nat×Nat->Nat×Nat
 |0,x=>x
 |m+1,x=>Fj mask m (SetTable.leap mask x.1 x.2)
def HR (mask:Nat):Nat->lW->lW
 |0,p=>p
 |n+1,p=>HR mask n (lV mask p)
theorem Kk (mask:Nat):∀(a b:Nat) (p:lW),HR mask (a+b) p=HR mask b (HR mask a p)
 |0,b,p=>by rw[Nat.zero_add];rfl
 |a+1,b,p=>by rw[succ_add];exact Kk mask a b (lV mask p)
theorem WR (mask:Nat):∀(a b:Nat) (x:Nat×Nat),Fj mask (a+b) x=Fj mask b (Fj mask a x)
 |0,b,x=>by rw[Nat.zero_add];rfl
 |a+1,b,x=>by rw[succ_add];exact WR mask a b _
def Cv (mask i:Nat):Nat:=SetTable.runEnd mask i - i
theorem Ou (mask i:Nat):Cv mask i<=9:=by
 unfold Cv SetTable.runEnd;split <;> omega
theorem fg {mask i:Nat}(h:i<=mask):i+Cv mask i<=mask:=by
 unfold Cv SetTable.runEnd;split <;> omega
theorem UW (mask:Nat):∀(k:Nat) (p:lW),k<=p.more->HR mask k p={ p with j:=p.j+k,more:=p.more - k }
 |0,p,_=>rfl
 |k+1,p,h=>by
  have e:lV mask p={ p with j:=p.j+1,more:=p.more - 1 }:=by
   unfold lV;rw[if_pos (by omega)]
  rw[HR,e,UW mask k _ (by show k<=p.more - 1;omega)];show ({ p with j:=p.j+1+k,more:=p.more - 1 - k }:lW)=_
  congr 1 <;> omega
theorem Pu (mask:Nat)(x:Nat×Nat):HR mask (Cv mask x.1+1) (GA mask x)=GA mask (SetTable.leap mask x.1 x.2):=by
 rw[Kk,UW mask (Cv mask x.1) (GA mask x) (Nat.le_refl _)];show lV mask _=_;unfold lV;rw[if_neg (by show ¬ Cv mask x.1 - Cv mask x.1 > 0;omega)];rfl
theorem UX (mask:Nat):∀(m:Nat) (x:Nat×Nat), ∃n,n<=10*m/\HR mask n (GA mask x)=GA mask (Fj mask m x)
 |0,x=>⟨0,Nat.le_refl _,rfl⟩
 |m+1,x=>by
  obtain ⟨n,h1,h2⟩:=UX mask m (SetTable.leap mask x.1 x.2);have:=Ou mask x.1;refine ⟨Cv mask x.1+1+n,by omega,?_⟩;rw[Kk,Pu];exact h2
def lcg (mask i:Nat):Nat:=(i*5+1) % (mask+1)
def ld (mask:Nat):Nat->Nat×Nat
 |0=>(0,0)
 |n+1=>(lcg mask (ld mask n).1,(ld mask n).2 ||| 2 ^ (ld mask n).1)
def Qr (mask:Nat):Nat->Nat->Nat
 |0,i=>i
 |m+1,i=>Qr mask m (lcg mask i)
theorem KM (mask:Nat):∀(a b i:Nat),Qr mask (a+b) i=Qr mask b (Qr mask a i)
 |0,b,i=>by rw[Nat.zero_add];rfl
 |a+1,b,i=>by rw[succ_add];exact KM mask a b _
theorem cK (mask:Nat):∀n,(ld mask n).1=Qr mask n 0
 |0=>rfl
 |n+1=>by
  rw[KM mask n 1 0];show lcg mask (ld mask n).1=lcg mask (Qr mask n 0);rw[cK mask n]
theorem fR (mask:Nat):∀(n j:Nat),(ld mask n).2.testBit j=true->∃m,m<n/\Qr mask m 0=j
 |0,j,h=>by
  have:(0:Nat).testBit j=true:=h;rw[Nat.zero_testBit]at this;cases this
 |n+1,j,h=>by
  have h:((ld mask n).2 ||| 2 ^ (ld mask n).1).testBit j=true:=h;rw[Nat.testBit_or,Bool.or_eq_true]at h;rcases h with h | h
  ·obtain ⟨m,h1,h2⟩:=fR mask n j h;exact ⟨m,by omega,h2⟩
  ·rw[Nat.testBit_two_pow]at h;have h:=of_decide_eq_true h;exact ⟨n,by omega,by rw[<- cK];exact h⟩
def Fi:List Nat:= [7,15,31,63,127,255,511,1023]
theorem sQ:∀mask∈Fi,(ld mask (mask+1)).2=2 ^ (mask+1) - 1/\(ld mask (mask+1)).1=0:=by decide+kernel
theorem uJ {mask:Nat}(hm:mask∈Fi){i j:Nat}(hi:i<=mask)(hj:j<=mask):∃m,m<=mask/\Qr mask m i=j:=by
 obtain ⟨v1,v2⟩:=sQ mask hm;have hb:∀k,k<=mask->∃m,m<mask+1/\Qr mask m 0=k:=fun k hk=>by
  refine fR mask (mask+1) k ?_;rw[v1,Nat.testBit_two_pow_sub_one];exact decide_eq_true (by omega)
 obtain ⟨a,ha,ea⟩:=hb i hi;obtain ⟨b,hb',eb⟩:=hb j hj;have per:Qr mask (mask+1) 0=0:=by rw[<- cK];exact v2
 by_cases z:a<=b
 ·refine ⟨b - a,by omega,?_⟩;rw[<- ea, <- KM,show a+(b - a)=b by omega,eb]
 ·refine ⟨mask+1 - a+b,by omega,?_⟩;rw[<- ea, <- KM,show a+(mask+1 - a+b)=mask+1+b by omega,KM,per,eb]
theorem aS (mask i p:Nat):(SetTable.leap mask i p).1<=mask:=Nat.lt_succ_iff.mp (mod_lt _ (Nat.succ_pos _))
theorem o8 (mask i p:Nat):(SetTable.leap mask i p).2=p / 32:=rfl
theorem WQ {mask:Nat}:∀(m:Nat) (x:Nat×Nat),x.1<=mask->(Fj mask m x).1<=mask
 |0,x,h=>h
 |m+1,x,h=>WQ m _ (aS _ _ _)
theorem TQ {mask:Nat}:∀(m:Nat) (x:Nat×Nat),(Fj mask m x).2=x.2 / 32 ^ m
 |0,x=>by rw[Nat.pow_zero,Nat.div_one];rfl
 |m+1,x=>by
  rw[Fj,TQ m,o8,Nat.div_div_eq_div_mul,Nat.pow_succ,Nat.mul_comm]
theorem TN {mask:Nat}:∀(m i:Nat),Fj mask m (i,0)=(Qr mask m i,0)
 |0,i=>rfl
 |m+1,i=>by
  have e:SetTable.leap mask i 0=(lcg mask i,0):=by
   show ((i*5+1+0 / 32) % (mask+1),0 / 32)=_;rfl
  rw[Fj,Qr];show Fj mask m (SetTable.leap mask i 0)=_;rw[e];exact TN m _
theorem cover {mask:Nat}(hm:mask∈Fi){x:Nat×Nat}(h1:x.1<=mask)(h2:x.2<2 ^ 64){j:Nat}(hj:j<=mask):∃m,m<SetTable.turns mask/\(Fj mask m x).1=j:=by
 have e:Fj mask 13 x=((Fj mask 13 x).1,0):=by
  have:(Fj mask 13 x).2=0:=by
   rw[TQ,Nat.div_eq_zero_iff];right;exact Nat.lt_of_lt_of_le h2 (by decide)
  rw[<- this]
 obtain ⟨m,h3,h4⟩:=uJ hm (WQ 13 x h1) hj;refine ⟨13+m,by show 13+m<mask+15;omega,?_⟩;rw[WR,e,TN];exact h4
theorem hE (h:Int):SetTable.bits h<2 ^ 64:=by
 unfold SetTable.bits;have h1:=Int.emod_nonneg h (show (2 ^ 64:Int)≠0 by decide);have h2:=Int.emod_lt_of_pos h (show (0:Int)<2 ^ 64 by decide);omega
theorem vm {mask:Nat}{p:lW}(h:p.j+p.more<=mask):(lV mask p).j+(lV mask p).more<=mask:=by
 unfold lV;split
 ·show p.j+1+(p.more - 1)<=mask;omega
 ·exact fg (aS _ _ _)
theorem bm {mask:Nat}:∀(n:Nat) (p:lW),p.j+p.more<=mask->(HR mask n p).j+(HR mask n p).more<=mask
 |0,p,h=>h
 |n+1,p,h=>bm n _ (vm h)
def vV (mask:Nat)(h:Int):Nat×Nat:=(SetTable.bits h % (mask+1),SetTable.bits h)
theorem Yg (mask:Nat)(h:Int):(vV mask h).1<=mask:=Nat.lt_succ_iff.mp (mod_lt _ (Nat.succ_pos _))
theorem ZG (t:SetTable)(h:Int):t.probeStart h=GA t.mask (vV t.mask h):=rfl
def pl (mask:Nat)(h:Int)(n:Nat):Nat:=(HR mask n (GA mask (vV mask h))).j
theorem ci (mask:Nat)(h:Int)(n:Nat):pl mask h n<=mask:=by
 have:=bm n (GA mask (vV mask h)) (fg (Yg mask h));unfold pl;omega
theorem nu {mask:Nat}(hm:mask∈Fi)(h:Int){j:Nat}(hj:j<=mask):∃n,n<10*SetTable.turns mask/\pl mask h n=j:=by
 obtain ⟨m,h1,h2⟩:=cover hm (Yg mask h) (hE h) hj;obtain ⟨n,h3,h4⟩:=UX mask m (vV mask h);refine ⟨n,by omega,?_⟩;unfold pl;rw[h4];exact h2
end Dj
namespace Dj
open PySem
theorem least {P:Nat->Prop}:∀n,P n->∃m,m<=n/\P m/\∀k,k<m->¬ P k:=by
 intro n;induction n using Nat.strongRecOn with
 |ind n ih=>
  intro h;by_cases z:∃k,k<n/\P k
  ·obtain ⟨k,h1,h2⟩:=z;obtain ⟨m,h3,h4⟩:=ih k h1 h2;exact ⟨m,by omega,h4⟩
  ·exact ⟨n,Nat.le_refl _,h,fun k hk hp=>z ⟨k,hk,hp⟩⟩
theorem RU:∀{a b:List Nat},a.Nodup->(∀x∈a,x∈b)->a.length<=b.length
 | [],b,_,_=>zero_le _
 |x::a,b,h,hs=>by
  rw[nodup_cons]at h;have hx:=hs x mem_cons_self;have:=RU (b:=b.erase x) h.2 fun y hy=>(List.mem_erase_of_ne (fun e=>h.1 (by rw[<- e];exact hy))).mpr (hs y (mem_cons_of_mem _ hy));rw[List.length_erase_of_mem hx]at this;have:=List.length_pos_of_mem hx;rw[length_cons];omega
theorem Tw {l:List Nat}{n:Nat}(h:l.length<n):∃j,j<n/\j∉l:=by
 cases q:(List.range n).all fun j=>l.contains j with
 |true=>
  rw[all_eq_true]at q;have:=RU (a:=List.range n) (b:=l) List.nodup_range fun x hx=>by simpa using q x hx
  rw[List.length_range]at this;omega
 |false=>
  rw[List.all_eq_false]at q;obtain ⟨j,h1,h2⟩:=q;exact ⟨j,mem_range.mp h1,by simpa using h2⟩
def bt (xs:Array Nat):Prop:=∀(a b x y:Nat),a<b->xs[a]? =some x->xs[b]? =some y->x<y
theorem NZ {xs:Array Nat}(h:xs.toList.Pairwise (· < ·)):bt xs:=fun a b x y Wh hx hy=>by
 rw[<- getElem?_toList]at hx hy;obtain ⟨h1,e1⟩:=List.getElem?_eq_some_iff.mp hx;obtain ⟨h2,e2⟩:=List.getElem?_eq_some_iff.mp hy;rw[<- e1, <- e2];exact List.pairwise_iff_getElem.mp h a b h1 h2 Wh
theorem UN {xs:Array Nat}{j:Nat}(R:bt xs):∀(fuel lo hi:Nat),hi - lo<=fuel->lo<=hi->hi<=xs.size->(∀i x,i<lo->xs[i]? =some x->x<j)->(∀i x,hi<=i->xs[i]? =some x->j<=x)->
  let r:=SetTable.below.go xs j fuel lo hi;r<=xs.size/\(∀i x,i<r->xs[i]? =some x->x<j)/\(∀i x,r<=i->xs[i]? =some x->j<=x)
 |0,lo,hi,h1,h2,h3,h4,h5=>by
  have e:hi=lo:=by omega
  subst e;exact ⟨h3,h4,h5⟩
 |fuel+1,lo,hi,h1,h2,h3,h4,h5=>by
  unfold SetTable.below.go;by_cases z:lo<hi
  ·rw[if_pos z];have hm:(lo+hi) / 2<xs.size:=by omega
   have hx:xs[(lo+hi) / 2]? =some xs[(lo+hi) / 2]:=Array.getElem?_eq_getElem hm;have hg:xs.getD ((lo+hi) / 2) j=xs[(lo+hi) / 2]:=by simp[hm]
   simp only;rw[hg];by_cases y:xs[(lo+hi) / 2]<j
   ·rw[if_pos y];refine UN R fuel _ _ (by omega) (by omega) h3 (fun i x hi' e=>?_) h5;by_cases w:i=(lo+hi) / 2
    ·subst w;rw[hx]at e;cases e;exact y
    ·exact Nat.lt_trans (R i _ x _ (by omega) e hx) y
   ·rw[if_neg y];refine UN R fuel _ _ (by omega) (by omega) (by omega) h4 (fun i x hi' e=>?_);by_cases w:i=(lo+hi) / 2
    ·subst w;rw[hx]at e;cases e;omega
    ·have:=R _ i _ x (by omega) hx e;omega
  ·rw[if_neg z];have e:hi=lo:=by omega
   subst e;exact ⟨h3,h4,h5⟩
theorem OJ {xs:Array Nat}(R:bt xs)(j:Nat):SetTable.below xs j<=xs.size/\(∀i x,i<SetTable.below xs j->xs[i]? =some x->x<j)/\(∀i x,SetTable.below xs j<=i->xs[i]? =some x->j<=x):=
 UN R xs.size 0 xs.size (by omega) (by omega) (Nat.le_refl _) (fun i x h=>by omega) (fun i x h e=>by
  have:=(Array.getElem?_eq_some_iff.mp e).1;omega)
theorem below_at {xs:Array Nat}(R:bt xs){i j:Nat}(h:xs[i]? =some j):SetTable.below xs j=i:=by
 obtain ⟨h1,h2,h3⟩:=OJ R j;by_cases z:i<SetTable.below xs j
 ·exact absurd (h2 i j z h) (Nat.lt_irrefl _)
 ·by_cases y:SetTable.below xs j<i
  ·have hs:=(Array.getElem?_eq_some_iff.mp h).1;have hx:xs[SetTable.below xs j]? =some xs[SetTable.below xs j]:=Array.getElem?_eq_getElem (by omega);have:=R _ i _ j y hx h;have:=h3 _ _ (Nat.le_refl _) hx;omega
  ·omega
theorem e8 {xs:Array Nat}(R:bt xs){i j:Nat}(h:xs[i]? =some j):SetTable.below xs (j+1)=i+1:=by
 obtain ⟨h1,h2,h3⟩:=OJ R (j+1);have hs:=(Array.getElem?_eq_some_iff.mp h).1;have a1:i<SetTable.below xs (j+1):=by
  cases Nat.lt_or_ge i (SetTable.below xs (j+1))with
  |inl z=>exact z
  |inr z=>have:=h3 i j z h;omega
 cases Nat.lt_or_ge (i+1) (SetTable.below xs (j+1))with
 |inr z=>omega
 |inl z=>
  have hx:xs[i+1]? =some xs[i+1]:=Array.getElem?_eq_getElem (by omega);have:=h2 _ _ z hx;have:=R i (i+1) j _ (by omega) h hx;omega
theorem Vm {t:SetTable}(R:bt t.place){i j:Nat}(h:t.place[i]? =some j):t.slot j= .live i:=by
 unfold SetTable.slot;simp only;rw[below_at R h,h];rw[if_pos (by simp)]
theorem cY {t:SetTable}(hd:t.dummies= #[]){j:Nat}(h:j∉t.place.toList):t.slot j= .empty:=by
 unfold SetTable.slot SetTable.has;simp only;rw[if_neg,hd,if_neg]
 ·simp
 ·intro z;have z:t.place[SetTable.below t.place j]? =some j:=by simpa using z
  rw[<- getElem?_toList]at z;exact h (mem_of_getElem? z)
theorem lU (mask:Nat)(p:lW):(lV mask p).dummy=p.dummy:=by
 unfold lV;split <;> rfl
theorem UY (mask:Nat):∀(n:Nat) (p:lW),(HR mask n p).dummy=p.dummy
 |0,p=>rfl
 |n+1,p=>by rw[HR,UY mask n,lU]
section
variable {t:SetTable}{hashAt:Nat->Int}{h:Int}
theorem YG (R:bt t.place):∀(n fuel:Nat) (p:lW),n<=fuel->(∀m,m<n->∃i,t.place[i]? =some (HR t.mask m p).j/\hashAt i≠h)->SetTable.probe.go t hashAt h fuel p=SetTable.probe.go t hashAt h (fuel - n) (HR t.mask n p)
 |0,fuel,p,_,_=>rfl
 |n+1,0,p,hn,_=>by omega
 |n+1,fuel+1,p,hn,hs=>by
  obtain ⟨i,h1,h2⟩:=hs 0 (by omega);have h1:t.place[i]? =some p.j:=h1;have e:SetTable.probe.go t hashAt h (fuel+1) p=SetTable.probe.go t hashAt h fuel (lV t.mask p):=by
   rw[SetTable.probe.go,Vm R h1];simp only;rw[if_neg (by simpa using h2)];rfl
  rw[e,YG R n fuel (lV t.mask p) (by omega) fun m hm=>hs (m+1) (by omega),show fuel+1 - (n+1)=fuel - n by omega];rfl
end
def wp (mask:Nat)(xY:List Nat)(h:Int)(j:Nat):Prop:=∃n,n<10*SetTable.turns mask/\pl mask h n=j/\∀m,m<n->pl mask h m∈xY
theorem wp.more {mask:Nat}{xY AAT:List Nat}{h:Int}{j:Nat}(r:wp mask xY h j)(hs:∀x∈xY,x∈AAT):wp mask AAT h j:=by
 obtain ⟨n,h1,h2,h3⟩:=r;exact ⟨n,h1,h2,fun m hm=>hs _ (h3 m hm)⟩
structure Tab (t:SetTable)(hs:List Int):Prop where
 mask:t.mask∈Fi
 rise:t.place.toList.Pairwise (· < ·)
 low:∀j∈t.place.toList,j<=t.mask
 sB:t.dummies= #[]
 size:t.place.size=hs.length
 reach:∀(i:Nat) (h:Int) (j:Nat),hs[i]? =some h->t.place[i]? =some j->wp t.mask t.place.toList h j
 nd:hs.Nodup
 room:hs.length<t.mask
section
variable {t:SetTable}{hs:List Int}{hashAt:Nat->Int}{h:Int}
theorem Tab.at (T:Tab t hs){j:Nat}(hj:j∈t.place.toList):∃(i:Nat) (h':Int),t.place[i]? =some j/\hs[i]? =some h':=by
 obtain ⟨i,hi⟩:=getElem?_of_mem hj;have hl:=(List.getElem?_eq_some_iff.mp hi).1;rw[length_toList,T.size]at hl;rw[getElem?_toList]at hi;exact ⟨i,_,hi,getElem?_eq_getElem hl⟩
theorem Tab.absent (T:Tab t hs)(hn:h∉hs)(hA:∀i h',hs[i]? =some h'->hashAt i=h'):
  ∃j,t.probe hashAt h (t.probeStart h)=some (.empty j none)/\j∉t.place.toList/\j<=t.mask/\wp t.mask t.place.toList h j:=by
 obtain ⟨j0,f1,f2⟩:=Tw (l:=t.place.toList) (n:=t.mask+1) (by rw[length_toList,T.size];have:=T.room;omega);obtain ⟨n0,g1,g2⟩:=nu T.mask h (j:=j0) (by omega);obtain ⟨N,l1,l2,l3⟩:=least (P:=fun n=>pl t.mask h n∉t.place.toList) n0 (by rw[g2];exact f2);have AA7:∀m,m<N->pl t.mask h m∈t.place.toList:=fun m hm=>Decidable.not_not.mp (l3 m hm);have R:=NZ T.rise;have AEF:pl t.mask h N<=t.mask:=ci _ _ _;refine ⟨pl t.mask h N,?_,l2,AEF,N,by omega,rfl,AA7⟩;unfold SetTable.probe;rw[ZG,YG R N _ _ (by omega) fun m hm=>?_]
 ·have hf:10*SetTable.turns t.mask - N=(10*SetTable.turns t.mask - N - 1)+1:=by omega
  have e:(HR t.mask N (GA t.mask (vV t.mask h))).j=pl t.mask h N:=rfl;rw[hf,SetTable.probe.go,e,cY T.sB l2];show some (SetTable.Met.empty (pl t.mask h N) _)=_;rw[UY];rfl
 ·obtain ⟨i,h',h1,h2⟩:=T.at (AA7 m hm);refine ⟨i,h1,fun e=>hn ?_⟩;rw[hA i h' h2]at e;rw[<- e];exact mem_of_getElem? h2
theorem Tab.tD (T:Tab t hs){i:Nat}(hi:hs[i]? =some h)(hA:∀i h',hs[i]? =some h'->hashAt i=h'):
  ∃j nx,t.probe hashAt h (t.probeStart h)=some (.candidate j i nx)/\t.place[i]? =some j:=by
 have hil:=(List.getElem?_eq_some_iff.mp hi).1;obtain ⟨j,hj⟩:∃j,t.place[i]? =some j:=⟨_,Array.getElem?_eq_getElem (by rw[T.size];exact hil)⟩;obtain ⟨n,r1,r2,r3⟩:=T.reach i h j hi hj;have R:=NZ T.rise;have inj:∀a b x,t.place[a]? =some x->t.place[b]? =some x->a=b:=fun a b x e1 e2=>(below_at R e1).symm.trans (below_at R e2);obtain ⟨N,l1,l2,l3⟩:=least (P:=fun n=>pl t.mask h n=j) n r2;unfold SetTable.probe;rw[ZG,YG R N _ _ (by omega) fun m hm=>?_]
 ·have hf:10*SetTable.turns t.mask - N=(10*SetTable.turns t.mask - N - 1)+1:=by omega
  have e:(HR t.mask N (GA t.mask (vV t.mask h))).j=j:=l2;rw[hf,SetTable.probe.go,e,Vm R hj];simp only;rw[if_pos (by rw[hA i h hi];exact beq_self_eq_true h)];exact ⟨_,_,rfl,hj⟩
 ·obtain ⟨i',h',h1,h2⟩:=T.at (r3 m (by omega));refine ⟨i',h1,fun e=>l3 m hm ?_⟩;rw[hA i' h' h2]at e;subst e;have:i'=i:=by
   have hl2:=(List.getElem?_eq_some_iff.mp h2).1;exact (List.getElem?_inj hl2 T.nd).mp (h2.trans hi.symm)
  subst this;rw[h1]at hj;exact Option.some.inj hj
def Ib {α:Type}(l:List α)(p:Nat)(x:α):List α:=l.take p++x::l.drop p
theorem ah {α:Type}(xs:Array α)(p:Nat)(x:α):(SetTable.insertAt xs p x).toList=Ib xs.toList p x:=by
 unfold SetTable.insertAt Ib;simp;exact take_of_length_le (by rw[length_drop,length_toList];exact Nat.le_refl _)
theorem K5 {α:Type}(l:List α)(p:Nat)(x:α):(Ib l p x).Perm (x::l):=by
 unfold Ib;refine List.perm_middle.trans (List.Perm.cons x ?_);rw[take_append_drop]
theorem N5 {α:Type}(l:List α)(p:Nat)(x:α):(Ib l p x).length=l.length+1:=(K5 l p x).length_eq
theorem ag {α:Type}{l:List α}{p:Nat}{x:α}(hp:p<=l.length)(i:Nat):(Ib l p x)[i]? =if i<p then l[i]? else if i=p then some x else l[i - 1]? :=by
 unfold Ib;have hl:(l.take p).length=p:=by rw[length_take];omega
 by_cases h1:i<p
 ·rw[if_pos h1,getElem?_append_left (by omega),getElem?_take_of_lt h1]
 ·rw[if_neg h1,getElem?_append_right (by omega),hl];by_cases h2:i=p
  ·rw[if_pos h2,show i - p=0 by omega];rfl
  ·rw[if_neg h2,show i - p=(i - 1 - p)+1 by omega,getElem?_cons_succ,List.getElem?_drop]
   congr 1
   omega
theorem Tab.put (T:Tab t hs)(hn:h∉hs){j:Nat}(hj:j∉t.place.toList)(hm:j<=t.mask)(hr:wp t.mask t.place.toList h j)(room:hs.length+1<t.mask):Tab (t.put j).1 (Ib hs (t.put j).2 h):=by
 have R:=NZ T.rise;obtain ⟨b1,b2,b3⟩:=OJ R j;have Mx:(t.put j).1.place=SetTable.insertAt t.place (SetTable.below t.place j) j:=rfl;have FE:(t.put j).2=SetTable.below t.place j:=rfl;have hmk:(t.put j).1.mask=t.mask:=rfl;have hle:SetTable.below t.place j<=hs.length:=by rw[<- T.size];exact b1
 have yA:(t.put j).1.place.toList=Ib t.place.toList (SetTable.below t.place j) j:=by rw[Mx,ah]
 have PR:∀x,x∈(t.put j).1.place.toList↔x=j\/x∈t.place.toList:=fun x=>by rw[yA,(K5 _ _ _).mem_iff,mem_cons]
 have hd:(t.put j).1.dummies= #[]:=by
  show (if SetTable.has t.dummies j then SetTable.eraseAt t.dummies (SetTable.below t.dummies j)else t.dummies)= #[];have:SetTable.has t.dummies j=false:=by unfold SetTable.has;rw[T.sB];simp
  rw[this];exact T.sB
 refine ⟨T.mask,?_,fun x hx=>?_,hd,?_,?_,?_,?_⟩
 ·rw[yA];unfold Ib;rw[List.pairwise_append,pairwise_cons];have tk:∀x,x∈t.place.toList.take (SetTable.below t.place j)->x<j:=fun x hx=>by
   obtain ⟨i,hi⟩:=getElem?_of_mem hx;have hl:=(List.getElem?_eq_some_iff.mp hi).1;rw[length_take]at hl;rw[getElem?_take_of_lt (by omega),getElem?_toList]at hi;exact b2 i x (by omega) hi
  have dr:∀x,x∈t.place.toList.drop (SetTable.below t.place j)->j<x:=fun x hx=>by
   obtain ⟨i,hi⟩:=getElem?_of_mem hx;rw[List.getElem?_drop,getElem?_toList]at hi;have h1:=b3 _ x (by omega) hi;have h2:x≠j:=fun e=>hj (by rw[<- e, <- getElem?_toList]at *;exact List.mem_of_mem_drop hx);omega
  refine ⟨T.rise.sublist (List.take_sublist _ _),⟨dr,T.rise.sublist (List.drop_sublist _ _)⟩,fun a ha b hb=>?_⟩;rcases mem_cons.mp hb with e | e
  ·rw[e];exact tk a ha
  ·exact Nat.lt_trans (tk a ha) (dr b e)
 ·rcases (PR x).mp hx with e | e
  ·rw[e];exact hm
  ·exact T.low x e
 ·rw[<- length_toList,yA,N5,N5,length_toList,T.size]
 ·intro i h' j' e1 e2;rw[FE]at e1;rw[<- getElem?_toList,yA]at e2;rw[ag hle]at e1;rw[ag (by rw[length_toList];exact b1)]at e2;rw[hmk];have more:∀x∈t.place.toList,x∈(t.put j).1.place.toList:=fun x hx=>(PR x).mpr (.inr hx);by_cases c1:i<SetTable.below t.place j
  ·rw[if_pos c1]at e1 e2;rw[getElem?_toList]at e2;exact (T.reach i h' j' e1 e2).more more
  ·rw[if_neg c1]at e1 e2;by_cases c2:i=SetTable.below t.place j
   ·rw[if_pos c2]at e1 e2;cases e1;cases e2;exact hr.more more
   ·rw[if_neg c2]at e1 e2;rw[getElem?_toList]at e2;exact (T.reach _ h' j' e1 e2).more more
 ·rw[(K5 _ _ _).nodup_iff,nodup_cons];exact ⟨hn,T.nd⟩
 ·rw[N5,hmk];exact room
end
theorem Tab.fresh (finger moves:Nat)(led:Bool):Tab (SetTable.fresh finger moves led) [] where
 mask:=by show 7∈Fi;decide
 rise:=List.Pairwise.nil
 low:=fun j hj=>by cases hj
 sB:=rfl
 size:=rfl
 reach:=fun i h j e=>by simp at e
 nd:=List.Pairwise.nil
 room:=by show 0<7;decide
end Dj
namespace Dj
open PySem
abbrev Own:=Array (Option Nat)
def isFree (o:Own)(j:Nat):Bool:=(o.getD j (some 0)).isNone
theorem Wl {mask:Nat}{o:Own}:∀(fuel:Nat) (x:Nat×Nat),(∃m,m<fuel/\isFree o (Fj mask m x).1=true)->
  ∃j n,SetTable.layClean.free mask o fuel x.1 x.2=some j/\n<10*fuel/\(HR mask n (GA mask x)).j=j/\isFree o j=true/\∀m,m<n->isFree o (HR mask m (GA mask x)).j=false
 |0,x,⟨m,h,_⟩=>by omega
 |fuel+1,x,⟨m,hm,hf⟩=>by
  have Yr:SetTable.runEnd mask x.1+1 - x.1=Cv mask x.1+1:=by
   unfold Cv SetTable.runEnd;split <;> omega
  have hj:∀k,k<=Cv mask x.1->(HR mask k (GA mask x)).j=x.1+k:=fun k hk=>by
   rw[UW mask k (GA mask x) hk];rfl
  unfold SetTable.layClean.free;rw[Yr];cases e:(List.range (Cv mask x.1+1)).find? fun k=>(o.getD (x.1+k) (some 0)).isNone with
  |some k=>
   rw[List.find?_range_eq_some]at e;obtain ⟨e1,e2,e3⟩:=e;have e2:=mem_range.mp e2;have:=Ou mask x.1;refine ⟨x.1+k,k,rfl,by omega,hj k (by omega),e1,fun m hm=>?_⟩;rw[hj m (by omega)];have:=e3 m hm;unfold isFree;simpa using this
  |none=>
   rw[List.find?_range_eq_none]at e;have xY:∀k,k<=Cv mask x.1->isFree o (x.1+k)=false:=fun k hk=>by
    have:=e k (by omega);unfold isFree;simpa using this
   have hm0:m≠0:=fun z=>by
    subst z;have:=xY 0 (zero_le _);have hf:isFree o x.1=true:=hf;rw[Nat.add_zero]at this;rw[this]at hf;cases hf
   obtain ⟨m',rfl⟩:∃m',m=m'+1:=⟨m - 1,by omega⟩;obtain ⟨j,n,f1,f2,f3,f4,f5⟩:=Wl fuel (SetTable.leap mask x.1 x.2) ⟨m',by omega,hf⟩;have hl:=Ou mask x.1;refine ⟨j,Cv mask x.1+1+n,f1,by omega,?_,f4,fun k hk=>?_⟩
   ·rw[Kk,Pu];exact f3
   ·by_cases z:k<=Cv mask x.1
    ·rw[hj k z];exact xY k z
    ·obtain ⟨k',rfl⟩:∃k',k=Cv mask x.1+1+k':=⟨k - (Cv mask x.1+1),by omega⟩;rw[Kk,Pu];exact f5 k' (by omega)
structure Laid (mask:Nat)(o:Own)(js:List Nat)(pre:List Int):Prop where
 size:o.size=mask+1
 len:js.length=pre.length
 nd:js.Nodup
 low:∀j∈js,j<=mask
 own:∀(j idx:Nat),j<=mask->(o.getD j none=some idx↔js[idx]? =some j)
 reach:∀(idx:Nat) (h:Int) (j:Nat),pre[idx]? =some h->js[idx]? =some j->wp mask js h j
theorem Laid.free {mask:Nat}{o:Own}{js:List Nat}{pre:List Int}(L:Laid mask o js pre){j:Nat}(hj:j<=mask):isFree o j=true↔j∉js:=by
 have hs:j<o.size:=by rw[L.size];omega
 have e1:o.getD j (some 0)=o[j]:=by simp[hs]
 have e2:o.getD j none=o[j]:=by simp[hs]
 unfold isFree;rw[e1];constructor
 ·intro h hm;obtain ⟨i,hi⟩:=getElem?_of_mem hm;have:=(L.own j i hj).mpr hi;rw[e2]at this;rw[this]at h;cases h
 ·intro h;cases e:o[j]with
  |none=>rfl
  |some idx=>
   exact absurd (mem_of_getElem? ((L.own j idx hj).mp (by rw[e2];exact e))) h
def N2 (mask:Nat)(acc:Option (Own×Nat))(h:Int):Option (Own×Nat):=do
 let (owner,k) <- acc;let j <- SetTable.layClean.free mask owner (SetTable.turns mask) (SetTable.bits h % (mask+1)) (SetTable.bits h)
 pure (owner.setIfInBounds j (some k),k+1)
theorem uK {mask:Nat}(hm:mask∈Fi){o:Own}{js:List Nat}{pre:List Int}(L:Laid mask o js pre)(h:Int)(room:pre.length<mask):
  ∃o' j,N2 mask (some (o,pre.length)) h=some (o',pre.length+1)/\Laid mask o' (js ++ [j]) (pre ++ [h]):=by
 obtain ⟨j0,f1,f2⟩:=Tw (l:=js) (n:=mask+1) (by rw[L.len];omega);obtain ⟨m,c1,c2⟩:=cover hm (Yg mask h) (hE h) (j:=j0) (by omega);isplit;obtain ⟨j,n,g1,g2,g3,g4,g5⟩:=Wl (mask:=mask) (o:=o) (SetTable.turns mask) (vV mask h) ⟨m,c1,by rw[c2];exact (L.free (by omega)).mpr f2⟩;kl_no;have Mx:∀k,(HR mask k (GA mask (vV mask h))).j=pl mask h k:=fun k=>rfl;have zO:j<=mask:=by rw[<- g3,Mx];exact ci _ _ _
 have hjn:j∉js:=(L.free zO).mp g4;refine ⟨o.setIfInBounds j (some pre.length),j,?_,?_⟩
 ·unfold N2;have g1:SetTable.layClean.free mask o (SetTable.turns mask) (SetTable.bits h % (mask+1)) (SetTable.bits h)=some j:=g1;show (do let j <- SetTable.layClean.free mask o (SetTable.turns mask) (SetTable.bits h % (mask+1)) (SetTable.bits h);pure (o.setIfInBounds j (some pre.length),pre.length+1))=_;rw[g1];rfl
 ·have ga:(js ++ [j])[pre.length]? =some j:=by rw[<- L.len,getElem?_append_right (Nat.le_refl _),Nat.sub_self];rfl
  refine ⟨by rw[Array.size_setIfInBounds];exact L.size,by rw[length_append,length_append,L.len];rfl,?_,?_,?_,?_⟩
  ·rw[nodup_append];exact ⟨L.nd,by simp,fun a ha b hb e=>by simp at hb;subst hb;subst e;exact hjn ha⟩
  ·intro x hx;rcases mem_append.mp hx with z | z
   ·exact L.low x z
   ·simp at z;rw[z];exact zO
  ·intro x idx hx;have hsx:x<o.size:=by rw[L.size];omega
   have ADy:x<(o.setIfInBounds j (some pre.length)).size:=by rw[Array.size_setIfInBounds];exact hsx
   have e2:(o.setIfInBounds j (some pre.length)).getD x none=(o.setIfInBounds j (some pre.length))[x]'ADy:=by simp[hsx]
   rw[e2,Array.getElem_setIfInBounds hsx];by_cases z:j=x
   ·rw[if_pos z];subst z;constructor
    ·intro e;cases e;exact ga
    ·intro e;by_cases y:idx<js.length
     ·rw[getElem?_append_left y]at e;exact absurd (mem_of_getElem? e) hjn
     ·rw[getElem?_append_right (by omega)]at e;have:idx - js.length=0:=by
       have:=(List.getElem?_eq_some_iff.mp e).1;simp at this;omega
      rw[<- L.len]
      congr 1
      omega
   ·rw[if_neg z];have e3:o.getD x none=o[x]:=by simp[hsx]
    rw[<- e3,L.own x idx hx];by_cases y:idx<js.length
    ·rw[getElem?_append_left y]
    ·rw[getElem?_append_right (by omega),List.getElem?_eq_none (by omega)];constructor
     ·intro e;cases e
     ·intro e;have:=mem_of_getElem? e;simp at this;exact absurd this.symm z
  ·intro idx h' x e1 e2;have sub:∀y∈js,y∈js ++ [j]:=fun y hy=>mem_append_left _ hy;by_cases y:idx<pre.length
   ·rw[getElem?_append_left y]at e1;rw[getElem?_append_left (by rw[L.len];exact y)]at e2;exact (L.reach idx h' x e1 e2).more sub
   ·have hi:idx=pre.length:=by
     have:=(List.getElem?_eq_some_iff.mp e1).1;simp at this;omega
    subst hi;rw[ga]at e2;cases e2;rw[getElem?_append_right (Nat.le_refl _),Nat.sub_self]at e1;cases e1;refine ⟨n,by omega,by rw[<- Mx];exact g3,fun k hk=>sub _ ?_⟩;have:=g5 k hk;rw[Mx]at this;cases q:decide (pl mask h k∈js)with
    |true=>exact of_decide_eq_true q
    |false=>
     have:=(L.free (ci mask h k)).mpr (of_decide_eq_false q)
     simp_all
theorem gP {mask:Nat}(hm:mask∈Fi):∀(hs:List Int) {o:Own} {js:List Nat} {pre:List Int},Laid mask o js pre->pre.length+hs.length<=mask->∃o' js',hs.foldl (N2 mask) (some (o,pre.length))=some (o',(pre++hs).length)/\Laid mask o' js' (pre++hs)
 | [],o,js,pre,L,_=>⟨o,js,by simp,by simpa using L⟩
 |h::hs,o,js,pre,L,hl=>by
  rw[length_cons]at hl;obtain ⟨o1,j,e1,L1⟩:=uK hm L h (by omega);rw[foldl_cons,e1];have:=gP hm hs L1 (by rw[length_append];show pre.length+1+hs.length<=mask;omega);rw[show (pre ++ [h]).length=pre.length+1 by simp,append_assoc]at this;exact this
theorem pC (mask:Nat):Laid mask (Array.replicate (mask+1) none) [] [] where
 size:=Array.size_replicate
 len:=rfl
 nd:=List.Pairwise.nil
 low:=fun j hj=>by cases hj
 own:=fun j idx hj=>by
  have:(Array.replicate (mask+1) (none:Option Nat)).getD j none=none:=by
   rw[Array.getD_eq_getD_getElem?,Array.getElem?_replicate];split <;> rfl
  rw[this];simp
 reach:=fun idx h j e=>by simp at e
theorem aT (mask:Nat)(hs:List Int):SetTable.layClean mask hs.toArray=(hs.foldl (N2 mask) (some (Array.replicate (mask+1) none,0))).map (·.1):=by
 unfold SetTable.layClean;rw[List.foldl_toArray];rfl
theorem Fg {β:Type}{f:Nat->Option β}{R:Nat->Nat->Prop}:∀{l:List Nat},l.Pairwise R->(l.filterMap fun j=>(f j).map fun x=>(j,x)).Pairwise fun a b=>R a.1 b.1
 | [],_=> .nil
 |x::l,h=>by
  rw[pairwise_cons]at h;rw[filterMap_cons];cases e:f x with
  |none=>exact Fg h.2
  |some y=>
   refine pairwise_cons.mpr ⟨fun b hb=>?_,Fg h.2⟩;rw[mem_filterMap]at hb;obtain ⟨j,hj,ej⟩:=hb;cases e2:f j with
   |none=>rw[e2]at ej;cases ej
   |some z=>
    rw[e2]at ej;cases ej;exact h.1 j hj
theorem gQ {mask:Nat}(hm:mask∈Fi){hs:List Int}(nd:hs.Nodup)(room:hs.length<mask)(finger moves:Nat)(led plain:Bool):
  ∃t order,SetTable.laid mask finger moves led plain hs.toArray=some (t,order)/\t.mask=mask/\t.led=led/\t.plain=plain/\t.moves=moves/\order.toList.Perm (List.range hs.length)/\Tab t (order.toList.filterMap (hs[·]?)):=by
 isplit;obtain ⟨o,js,e,L⟩:=gP hm hs (pC mask) (by rw[length_nil];omega);kl_no;rw[nil_append]at e L;have e:hs.foldl (N2 mask) (some (Array.replicate (mask+1) none,0))=some (o,hs.length):=e;let live:List (Nat×Nat):=(List.range (mask+1)).filterMap fun j=>(o.getD j none).map fun x=>(j,x);have KR:∀j idx,(j,idx)∈live↔js[idx]? =some j:=fun j idx=>by
  show (j,idx)∈List.filterMap _ _↔_;rw[mem_filterMap];constructor
  ·rintro ⟨j',h1,h2⟩;cases e2:o.getD j' none with
   |none=>rw[e2]at h2;cases h2
   |some x=>
    rw[e2]at h2;cases h2;exact (L.own j idx (by have:=mem_range.mp h1;omega)).mp e2
  ·intro h1;have hj:=L.low j (mem_of_getElem? h1);refine ⟨j,mem_range.mpr (by omega),?_⟩;rw[(L.own j idx hj).mpr h1];rfl
 have Gy:live.Pairwise fun a b=>a.1<b.1:=Fg List.pairwise_lt_range;have pc:(live.map (·.2)).Nodup:=by
  refine pairwise_map.mpr (List.Pairwise.imp_of_mem (fun {a b} ha hb Wh=>?_) Gy);intro e2;obtain ⟨a1,a2⟩:=a;obtain ⟨b1,b2⟩:=b;have h1:=(KR a1 a2).mp ha;have h2:=(KR b1 b2).mp hb;have e2:a2=b2:=e2;subst e2;rw[h1]at h2;cases h2;exact absurd Wh (Nat.lt_irrefl _)
 have N8:(live.map (·.2)).Perm (List.range hs.length):=by
  refine (List.perm_ext_iff_of_nodup pc List.nodup_range).mpr fun idx=>?_;rw[mem_map,mem_range, <- L.len];constructor
  ·intro zz;isplit;obtain ⟨⟨j,i⟩,h1,rfl⟩:=zz;kl_no;exact (List.getElem?_eq_some_iff.mp ((KR j i).mp h1)).1
  ·intro h1;exact ⟨(js[idx],idx),(KR _ _).mpr (getElem?_eq_getElem h1),rfl⟩
 refine ⟨{ mask:=mask,place:=(live.map (·.1)).toArray,dummies:= #[],finger:=finger,led:=led,moves:=moves,plain:=plain },(live.map (·.2)).toArray,?_,rfl,rfl,rfl,rfl,by simpa using N8,?_⟩
 ·unfold SetTable.laid;rw[aT,e];rfl
 ·have JY:∀x∈live, ∃h,hs[x.2]? =some h:=fun x hx=>by
   have h1:=(KR x.1 x.2).mp hx;have:=(List.getElem?_eq_some_iff.mp h1).1;rw[L.len]at this;exact ⟨_,getElem?_eq_getElem this⟩
  have AD7:((live.map (·.2)).toArray.toList.filterMap (hs[·]?))=live.map fun x=>(hs[x.2]?).getD 0:=by
   show (live.map (·.2)).filterMap (hs[·]?)=_;rw[List.filterMap_map];clear Gy pc N8 KR;revert JY;generalize live=l;intro JY;induction l with
   |nil=>rfl
   |cons x l ih=>
    obtain ⟨h,eh⟩:=JY x mem_cons_self;rw[filterMap_cons,map_cons, <- ih fun y hy=>JY y (mem_cons_of_mem _ hy)];have eh2:((fun x=>hs[x]?)∘fun (x:Nat×Nat)=>x.2) x=some h:=eh;rw[eh2,eh];rfl
  rw[AD7];have AD4:∀(i j:Nat),((live.map (·.1)).toArray)[i]? =some j↔∃idx,live[i]? =some (j,idx):=fun i j=>by
   rw[getElem?_toArray,getElem?_map];cases live[i]? with
   |none=>simp
   |some x=>
    obtain ⟨a,b⟩:=x;simp
  have PR:∀j,j∈live.map (·.1)↔j∈js:=fun j=>by
   rw[mem_map];constructor
   ·intro zz;isplit;obtain ⟨⟨a,b⟩,h1,rfl⟩:=zz;kl_no;exact mem_of_getElem? ((KR a b).mp h1)
   ·intro h1;obtain ⟨i,hi⟩:=getElem?_of_mem h1;exact ⟨(j,i),(KR j i).mpr hi,rfl⟩
  refine ⟨hm,?_,?_,rfl,?_,?_,?_,?_⟩
  ·show (live.map (·.1)).Pairwise _;exact pairwise_map.mpr Gy
  ·intro j hj;exact L.low j ((PR j).mp hj)
  ·show ((live.map (·.1)).toArray).size=_;rw[size_toArray,length_map,length_map]
  ·intro i h j e1 e2;obtain ⟨idx,hx⟩:=(AD4 i j).mp e2;rw[getElem?_map,hx]at e1;have zM:=(KR j idx).mp (mem_of_getElem? hx);obtain ⟨h',eh⟩:=JY _ (mem_of_getElem? hx);have e1:some ((hs[idx]?).getD 0)=some h:=e1;have eh:hs[idx]? =some h':=eh;rw[eh]at e1;cases e1;exact (L.reach idx _ j eh zM).more fun y hy=>(PR y).mpr hy
  ·refine pairwise_map.mpr (List.Pairwise.imp_of_mem (fun {a b} ha hb Wh=>?_) Gy);obtain ⟨h1,g1⟩:=JY a ha;obtain ⟨h2,g2⟩:=JY b hb;intro e2;rw[g1,g2]at e2;have e2:h1=h2:=e2;subst e2;have ga:=(List.getElem?_eq_some_iff.mp g1).1;have:a.2=b.2:=(List.getElem?_inj ga nd).mp (g1.trans g2.symm);have k1:=(KR a.1 a.2).mp ha;have k2:=(KR b.1 b.2).mp hb;rw[this,k2]at k1;have:=Option.some.inj k1;omega
  ·show (live.map _).length<mask;rw[length_map];have:=N8.length_eq;rw[length_map,List.length_range]at this;omega
end Dj
namespace Dj
open PySem PySem.Spec PyProof.Rows L2
abbrev Pt:=Addr×Nat
def ent (hf:Nat->Int)(p:Pt):Int×Value:=(hf p.2,.ref p.1)
def DS (hf:Nat->Int)(ps:List Pt):List Int:=ps.map fun p=>hf p.2
structure BI (hf:Nat->Int)(h:Heap)(a:Addr)(ps:List Pt)(led:Bool)(t:SetTable)(ep:Nat):Prop where
 ex:∃o,h.get? a=some o/\o.ExactSet/\o.data= .set (ps.map (ent hf)).toArray ep t
 tab:Tab t (DS hf ps)
 led:t.led=led
 nq:t.plain=true
theorem BI.fits {hf:Nat->Int}{h:Heap}{a:Addr}{ps:List Pt}{led:Bool}{t:SetTable}{ep:Nat}(S:BI hf h a ps led t ep):t.fits (ps.map (ent hf)).toArray.size=true:=by
 unfold SetTable.fits SetTable.fill;have h1:=S.tab.size;have h2:=S.tab.room;have h3:=S.tab.sB;unfold DS at h1 h2;rw[length_map]at h1 h2;rw[h3,h1,size_toArray,length_map];simp;omega
theorem jm:∀m∈Fi,m % 2=1:=by decide
theorem BI.keeps {hf:Nat->Int}{h h':Heap}{a:Addr}{ps:List Pt}{led:Bool}{t:SetTable}{ep:Nat}(S:BI hf h a ps led t ep)(k:∀o,h.get? a=some o->h'.get? a=some o):BI hf h' a ps led t ep:=by
 obtain ⟨o,h1,h2⟩:=S.ex;exact ⟨⟨o,k o h1,h2⟩,S.tab,S.led,S.nq⟩
section
variable {P:Program}{w:World}{A:Around}{E:Value->Shared->Prop}{s:Shared}{hf:Nat->Int}{a b:Addr}{ps:List Pt}{led:Bool}{t:SetTable}{ep:Nat}{c:Nat}
theorem A3 {Q:(Array (Int×Value)×Nat×SetTable)->Shared->Prop}(S:BI hf s.heap a ps led t ep)(h:Q ((ps.map (ent hf)).toArray,ep,t) s):wpAny (model P w) A (setState a) Q E s:=by
 obtain ⟨o,h1,h2,h3⟩:=S.ex;exact wpAny_setState_of h1 h3 S.fits h
theorem Wg:∀(i:Nat) (h':Int),(DS hf ps)[i]? =some h'->(((ps.map (ent hf)).toArray[i]?).map (·.1)).getD 0=h':=fun i h' e=>by
 unfold DS at e;rw[getElem?_map]at e;rw[getElem?_toArray,getElem?_map];cases q:ps[i]? with
 |none=>rw[q]at e;cases e
 |some p=>rw[q]at e;cases e;rfl
theorem BI.way (S:BI hf s.heap a ps led t ep):t.gaveWay=false:=by
 unfold SetTable.gaveWay;rw[jm _ S.tab.mask];rfl
theorem i9 {Q:SetFound->Shared->Prop}(S:BI hf s.heap a ps led t ep)(hn:hf c∉DS hf ps)(h:∀j,j∉t.place.toList->j<=t.mask->wp t.mask t.place.toList (hf c) j->Q (.free j false) s):
  wpAny (model P w) A (setSearch a (.ref b) (hf c) true) Q E s:=by
 isplit;obtain ⟨j,h1,h2,h3,h4⟩:=S.tab.absent (h:=hf c) (hashAt:=fun i=>(((ps.map (ent hf)).toArray[i]?).map (·.1)).getD 0) hn Wg;kl_no;show wpAny _ _ (setSearchFrom a (.ref b) (hf c) true (99999+1) none) _ _ _;rw[setSearchFrom];refine wpAny_bind (A3 S ?_);simp only[S.way,Bool.false_eq_true,if_false];rw[Option.getD_none];erw[h1];exact wpAny_pure (h j h2 h3 h4)
theorem jb (n:Nat){v:Value}(h:carriedByValue v=true):ofAClassStatement n v=pure false:=by
 cases v with
 |ref a=>simp[carriedByValue]at h
 |_=>first | rfl | (unfold ofAClassStatement;rfl)
theorem WH {ks:List Key}{Q:Bool->Shared->Prop}(hk:IsTupleKey (Ah P w) s.heap ks a)(h:Q false s):wpAny (model P w) A (ofAClassStatement 8 (.ref a)) Q E s:=by
 have hT:=hk.typeIs;obtain ⟨o,items,n,ho,_,hd,hi⟩:=hk;unfold ofAClassStatement;refine wpAny_bind (wpAny_typeOf hT ?_);simp only;refine wpAny_bind ?_;refine wpAny_pure ?_;simp only[Bool.not_true,Bool.false_eq_true,if_false];refine wpAny_bind (wpAny_seqItems ho hd ?_);simp only;refine wpAny_bind ?_;rw[<- forIn_toList];refine wpAny_forIn_list _ (fun rest r s'=>r.1=none/\s'=s/\∀v∈rest,carriedByValue v=true) _ ?_ ?_ _ _ ⟨rfl,rfl,hi.byValue⟩
 ·rintro v rest r s' ⟨hr,rfl,Gh⟩;rw[jb _ (Gh v mem_cons_self)];refine wpAny_bind (wpAny_pure ?_);simp only[Bool.false_eq_true,if_false];exact wpAny_pure ⟨rfl,rfl,fun u x9=>Gh u (mem_cons_of_mem _ x9)⟩
 ·rintro ⟨r1,r2⟩ s' ⟨hr,rfl,_⟩;simp only at hr;subst hr;exact wpAny_pure h
theorem Wd (n:Nat){k:Key}{v:Value}(h:(Ah P w).is k v=true):hashByValue n v=pure (match k with | .inl _=>true | .inr _=>false):=by
 rcases Bm h with ⟨i,t,rfl,rfl⟩ | ⟨x,t,rfl,rfl⟩ <;> (cases n <;> (unfold hashByValue;rfl))
theorem kJ {i j:Int}{Q:Bool->Shared->Prop}(hk:IsTupleKey (Ah P w) s.heap [Sum.inl i,Sum.inl j] a)(h:Q true s):wpAny (model P w) A (hashByValue 8 (.ref a)) Q E s:=by
 have hT:=hk.typeIs;isplit;obtain ⟨o,items,n,ho,_,hd,hi⟩:=hk;kl_no;unfold hashByValue;refine wpAny_bind (wpAny_specialOf hT PySem.F.slot_tuple_hash.lookup ?_);show wpAny _ _ (seqItems? (.ref a) >>= _) _ _ s;refine wpAny_bind (wpAny_seqItems ho hd ?_);refine wpAny_bind ?_;show wpAny _ _ (forIn items _ _) _ _ s;rw[<- forIn_toList];refine wpAny_forIn_list _ (fun rest r s'=>r.1=none/\s'=s/\∀v∈rest,hashByValue 7 v=pure true) _ ?_ ?_ _ _ ⟨rfl,rfl,?_⟩
 ·rintro v rest r s' ⟨hr,rfl,Gh⟩;rw[Gh v mem_cons_self];refine wpAny_bind (wpAny_pure ?_);simp only[Bool.not_true,Bool.false_eq_true,if_false];exact wpAny_pure ⟨rfl,rfl,fun u x9=>Gh u (mem_cons_of_mem _ x9)⟩
 ·rintro ⟨r1,r2⟩ s' ⟨hr,rfl,_⟩;simp only at hr;subst hr;exact wpAny_pure h
 ·intro v hv;cases hx:items.toList with
  |nil=>rw[hx]at hv;cases hv
  |cons u us=>
   rw[hx]at hi hv;cases hi with
   |cons h1 h2=>
    cases h2 with
    |cons h3 h4=>
     cases h4;rcases mem_cons.mp hv with rfl | hv
     ·exact Wd 7 h1
     ·simp at hv;subst hv;exact Wd 7 h3
theorem nJ {kb:List Key}{st:List Value}{Q:Bool->Shared->Prop}(hb:IsTupleKey (Ah P w) s.heap kb b)(hs:∀y∈st, ∃p k,y= .ref p/\IsTupleKey (Ah P w) s.heap k p)(h:Q false s):wpAny (model P w) A (searchCouldBeSeen (.ref b) st) Q E s:=by
 unfold searchCouldBeSeen;refine wpAny_bind ?_;refine wpAny_forIn_list _ (fun rest r s'=>r.1=none/\s'=s/\∀y∈rest, ∃p k,y=Value.ref p/\IsTupleKey (Ah P w) s.heap k p) _ ?_ ?_ _ _ ⟨rfl,rfl,hs⟩
 ·rintro v rest r s' ⟨hr,rfl,Gh⟩;obtain ⟨p,k,rfl,hp⟩:=Gh v mem_cons_self;have fin:∀y∈rest, ∃p k,y=Value.ref p/\IsTupleKey (Ah P w) s'.heap k p:=fun u x9=>Gh u (mem_cons_of_mem _ x9);simp only;split
  ·exact wpAny_pure ⟨rfl,rfl,fin⟩
  ·refine wpAny_bind (wpAny_eqIsQuiet_tuple hb ?_);simp only[Bool.not_true,Bool.false_eq_true,if_false];refine wpAny_bind (wpAny_eqIsQuiet_tuple hp ?_);simp only[Bool.not_true,Bool.false_eq_true,if_false];refine wpAny_bind (WH hb ?_);simp only[Bool.false_eq_true,if_false];refine wpAny_bind (WH hp ?_);simp only[Bool.false_eq_true,if_false];exact wpAny_pure ⟨rfl,rfl,fin⟩
 ·rintro ⟨r1,r2⟩ s' ⟨hr,rfl,_⟩;simp only at hr;subst hr;exact wpAny_pure h
theorem cW {kf:Nat->List Key}{Q:SetFound->Shared->Prop}(hu:A.units<cLine)(S:BI hf s.heap a ps led t ep)(hT:∀p∈ps,IsTupleKey (Ah P w) s.heap (kf p.2) p.1)(hb:IsTupleKey (Ah P w) s.heap (kf c) b){i:Nat}{b':Addr}(hi:ps[i]? =some (b',c))(h:Q (.there none) s):
  wpAny (model P w) A (setSearch a (.ref b) (hf c) true) Q E s:=by
 have hh:(DS hf ps)[i]? =some (hf c):=by unfold DS;rw[getElem?_map,hi];rfl
 isplit;obtain ⟨j,nx,h1,h2⟩:=S.tab.tD (h:=hf c) (hashAt:=fun i=>(((ps.map (ent hf)).toArray[i]?).map (·.1)).getD 0) hh Wg;kl_no;have hb':=hT _ (mem_of_getElem? hi);show wpAny _ _ (setSearchFrom a (.ref b) (hf c) true (99999+1) none) _ _ _;rw[setSearchFrom];refine wpAny_bind (A3 S ?_);simp only[S.way,Bool.false_eq_true,if_false];rw[Option.getD_none];erw[h1];simp only;have he:(ps.map (ent hf)).toArray[i]? =some (hf c,.ref b'):=by rw[getElem?_toArray,getElem?_map,hi];rfl
 have seen:∀y∈((ps.map (ent hf)).toArray.filter fun x=>x.1==hf c).toList.map (·.2), ∃p k,y=Value.ref p/\IsTupleKey (Ah P w) s.heap k p:=fun y hy=>by
  obtain ⟨x,hx,rfl⟩:=mem_map.mp hy;rw[Array.toList_filter]at hx;have hx:=(mem_filter.mp hx).1;rw[toList_toArray]at hx;obtain ⟨p,hp,rfl⟩:=mem_map.mp hx;exact ⟨p.1,_,rfl,hT p hp⟩
 rw[he];simp only;split
 ·refine wpAny_bind (nJ hb seen ?_);simp only[Bool.false_eq_true,if_false];refine wpAny_bind (wpAny_holding (wpAny_eqBool_tuple hu hb' hb ?_));refine wpAny_bind (A3 S ?_);rw[decide_eq_true rfl];simp only[Bool.and_self,if_true];exact wpAny_pure h
 ·refine wpAny_bind (wpAny_holding (wpAny_eqBool_tuple hu hb' hb ?_));refine wpAny_bind (A3 S ?_);rw[decide_eq_true rfl];simp only[Bool.and_self,if_true];exact wpAny_pure h
theorem pT:(ps.map (ent hf)).toArray.map (·.1)=(DS hf ps).toArray:=by
 rw[List.map_toArray,map_map];rfl
theorem Kv {CY:List Pt}{t':SetTable}{Q:Unit->Shared->Prop}(S:BI hf s.heap a ps led t ep)(hz:CY.length<=1000)(T:Tab t' (DS hf CY))(hl:t'.led=led)(hp:t'.plain=true)(h:∀h',Heap.SameBut a s.heap h'->BI hf h' a CY led t' (ep+1)->Q () { s with heap:=h' }):
  wpAny (model P w) A (storeSet a (CY.map (ent hf)).toArray t') Q E s:=by
 obtain ⟨o,h1,h2,h3⟩:=S.ex;refine wpAny_storeSet_of h1 h3 ?_ (by rw[size_toArray,length_map,sizeLine_eq];omega);refine h _ (Heap.SameBut.update s.heap a _) ⟨⟨{ o with data:= .set (CY.map (ent hf)).toArray (ep+1) t' },?_,h2,rfl⟩,T,hl,hp⟩;have:=get?_update_self (Obj.putSet (CY.map (ent hf)).toArray t') h1 (by rw[putSet_of _ t' h3];rfl);rw[putSet_of _ t' h3]at this;exact this
theorem SV {α:Type}{l:List α}{o:List Nat}(h:o.Perm (List.range l.length)):(o.filterMap (l[·]?)).Perm l:=by
 have:=h.filterMap (l[·]?);rw[List.filterMap_getElem?_range_length]at this;exact this
theorem Ky {α β:Type}(f:α->β)(l:List α)(o:List Nat):o.filterMap ((l.map f)[·]?)=(o.filterMap (l[·]?)).map f:=by
 rw[List.map_filterMap]
 congr 1
 funext i
 rw[getElem?_map]
theorem ox:∀m∈Fi,m<=1023:=by decide
theorem Vn {wanted:Nat}{Q:Unit->Shared->Prop}(S:BI hf s.heap a ps led t ep)(hz:ps.length<=1000)(hm:SetTable.sizeAbove wanted - 1∈Fi)(room:ps.length<SetTable.sizeAbove wanted - 1)
  (h:∀h' CY t',Heap.SameBut a s.heap h'->BI hf h' a CY led t' (ep+1)->CY.Perm ps->t'.mask=SetTable.sizeAbove wanted - 1->Q () { s with heap:=h' }):
  wpAny (model P w) A (setRelay a wanted) Q E s:=by
 unfold setRelay;refine wpAny_bind (A3 S ?_);have hle:=ox _ hm;simp only;rw[if_neg (by rw[sizeLine_eq];omega)];obtain ⟨t',order,e1,e2,e3,e4,e5,e6,e7⟩:=gQ hm S.tab.nd (by unfold DS;rw[length_map];exact room) t.finger (t.movedTo (SetTable.sizeAbove wanted - 1)) t.led t.plain;have e1:t.relaid ((ps.map (ent hf)).toArray.map (·.1)) wanted=some (t',order):=by
  rw[pT];exact e1
 rw[e1];have hlen:(DS hf ps).length=ps.length:=by unfold DS;rw[length_map]
 rw[hlen]at e6;have pp:=SV e6;have arr:order.filterMap (fun i=>(ps.map (ent hf)).toArray[i]?)=((order.toList.filterMap (ps[·]?)).map (ent hf)).toArray:=by
  apply ext';rw[Array.toList_filterMap,toList_toArray, <- Ky]
  congr 1
  funext i
  rw[getElem?_toArray]
 have hh:order.toList.filterMap ((DS hf ps)[·]?)=DS hf (order.toList.filterMap (ps[·]?)):=Ky _ _ _;rw[hh]at e7;refine wpAny_bind ?_;show wpAny (model P w) A (if (((order.filterMap (fun i=>(ps.map (ent hf)).toArray[i]?)).size != (ps.map (ent hf)).toArray.size)=true)then (do (unsupported "internal:set-table-lost-an-element":Sem PUnit);pure (order.filterMap (fun i=>(ps.map (ent hf)).toArray[i]?),t'))else pure (order.filterMap (fun i=>(ps.map (ent hf)).toArray[i]?),t')) _ _ _;rw[arr,size_toArray,size_toArray,length_map,length_map,pp.length_eq,if_neg (by simp)];refine wpAny_pure ?_;simp only;refine Kv S (by rw[pp.length_eq];exact hz) e7 (e3.trans S.led) (e4.trans S.nq) fun h' k1 k2=>h h' _ t' k1 k2 pp e2
theorem fZ:∀m,m<1001->(SetTable.sizeAbove m - 1∈Fi/\m<=SetTable.sizeAbove m - 1):=by decide+kernel
theorem ub {p:Nat}{x:Pt}:SetTable.insertAt (ps.map (ent hf)).toArray p (ent hf x)=((Ib ps p x).map (ent hf)).toArray:=by
 apply ext';rw[ah,toList_toArray,toList_toArray];unfold Ib;rw[map_append,map_cons,map_take,map_drop]
theorem x0 {p:Nat}{x:Pt}:Ib (DS hf ps) p (hf x.2)=DS hf (Ib ps p x):=by
 unfold Ib DS;rw[map_append,map_cons,map_take,map_drop]
theorem sf {kf:Nat->List Key}{Q:Bool->Shared->Prop}(hu:A.units<cLine)(S:BI hf s.heap a ps led t ep)(load:ps.length*5<t.mask*3)(hz:ps.length<=200)(hT:∀p∈ps,IsTupleKey (Ah P w) s.heap (kf p.2) p.1)
  (hb:IsTupleKey (Ah P w) s.heap (kf c) b) (hk:∃i j,kf c=[Sum.inl i,Sum.inl j]) (hn:c∉ps.map (·.2)->hf c∉DS hf ps)
  (h1:c∈ps.map (·.2)->Q false s) (h2:c∉ps.map (·.2)->∀h' CY t' Qx,Heap.SameBut a s.heap h'->BI hf h' a CY led t' Qx->CY.length*5<t'.mask*3->CY.Perm ((b,c)::ps)->Q true { s with heap:=h' }):
  wpAny (model P w) A (setAddHashed a (.ref b) (hf c)) Q E s:=by
 unfold setAddHashed;refine wpAny_holding ?_;show wpAny _ _ (setAddHashedIn a (.ref b) (hf c) (99999+1)) _ _ _;rw[setAddHashedIn];refine wpAny_bind (A3 S ?_);simp only;have hsc:byScan (Value.ref b) (ps.map (ent hf)).toArray=false:=rfl;rw[hsc];simp only[Bool.false_eq_true,if_false];by_cases hc:c∈ps.map (·.2)
 ·obtain ⟨p,hp,e⟩:=mem_map.mp hc;obtain ⟨i,hi⟩:=getElem?_of_mem hp;obtain ⟨b',c'⟩:=p;have e:c'=c:=e;subst e;refine wpAny_bind (cW hu S hT hb hi ?_);simp only;exact wpAny_pure (h1 hc)
 ·refine wpAny_bind (i9 S (hn hc) fun j j1 j2 j3=>?_);simp only;refine wpAny_bind (A3 S ?_);simp only;have Mx:(t.put j).1.plain=true:=S.nq;rw[Mx];simp only[if_true];obtain ⟨ki,kj,hk⟩:=hk;rw[hk]at hb;refine wpAny_bind (kJ hb ?_);simp only[if_true];have ga:(DS hf ps).length=ps.length:=by unfold DS;rw[length_map]
  have hm7:7<=t.mask:=(by decide:∀m∈Fi,7<=m) _ S.tab.mask;have T:=S.tab.put (hn hc) j1 j2 j3 (by rw[ga];omega);rw[show hf c=hf ((b,c):Pt).2 from rfl,x0]at T;have AEN:SetTable.insertAt (ps.map (ent hf)).toArray (t.put j).2 (hf c,Value.ref b)=((Ib ps (t.put j).2 (b,c)).map (ent hf)).toArray:=ub (x:=(b,c));rw[AEN];have hpm:=K5 ps (t.put j).2 (b,c);have hlen:(Ib ps (t.put j).2 (b,c)).length=ps.length+1:=N5 _ _ _;refine wpAny_bind (Kv S (by rw[hlen];omega) T S.led Mx fun h' k1 k2=>?_);simp only[Bool.not_false,Bool.true_and];cases hf2:(t.put j).1.tooFull with
  |false=>
   simp only[Bool.false_eq_true,if_false];refine wpAny_pure (h2 hc h' _ _ _ k1 k2 ?_ hpm);unfold SetTable.tooFull SetTable.fill at hf2;have hsz:=T.size;have hdm:=T.sB;unfold DS at hsz;rw[length_map]at hsz;rw[hsz,hdm]at hf2;simpa using hf2
  |true=>
   simp only[if_true];have hg:SetTable.grown ((ps.map (ent hf)).toArray.size+1)=(ps.length+1)*4:=by
    rw[size_toArray,length_map];unfold SetTable.grown;rw[if_neg (by omega)]
   rw[hg];obtain ⟨z1,z2⟩:=fZ ((ps.length+1)*4) (by omega);refine wpAny_bind (Vn (s:={ s with heap:=h' }) k2 (by rw[hlen];omega) z1 (by rw[hlen];omega) fun h3 lg t3 k3 k4 k5 k6=>wpAny_pure ?_);refine h2 hc h3 lg t3 _ (k1.trans k3) k4 ?_ (k5.trans hpm);rw[k5.length_eq,hlen,k6];omega
theorem nI {more:Nat}{Q:Unit->Shared->Prop}(S:BI hf s.heap a ps led t ep)(load:ps.length*5<t.mask*3)(hz:ps.length+more<=500)
  (h:∀h' CY t' Qx,Heap.SameBut a s.heap h'->BI hf h' a CY led t' Qx->CY.length*5<t'.mask*3->CY.Perm ps->(ps.length+more)*5<t'.mask*3->Q () { s with heap:=h' }):
  wpAny (model P w) A (setRoomFor a more) Q E s:=by
 have hsz:=S.tab.size;have hdm:=S.tab.sB;unfold DS at hsz;rw[length_map]at hsz;unfold setRoomFor;refine wpAny_bind (A3 S ?_);have e:t.roomFor more=if (ps.length+more)*5 ≥ t.mask*3 then some ((ps.length+more)*2)else none:=by
  unfold SetTable.roomFor SetTable.fill;rw[hsz,hdm];rfl
 show wpAny _ _ (match t.roomFor more with | some wanted=>setRelay a wanted | _=>pure ()) _ _ _;rw[e];by_cases z:(ps.length+more)*5 ≥ t.mask*3
 ·rw[if_pos z];simp only;obtain ⟨z1,z2⟩:=fZ ((ps.length+more)*2) (by omega);have hm7:7<=t.mask:=(by decide:∀m∈Fi,7<=m) _ S.tab.mask;refine Vn S (by omega) z1 (by omega) fun h3 lg t3 k3 k4 k5 k6=>h h3 lg t3 _ k3 k4 (by rw[k5.length_eq,k6];omega) k5 (by rw[k6];omega)
 ·rw[if_neg z];have e:s={ s with heap:=s.heap }:=by cases s;rfl
  rw[e];exact wpAny_pure (h s.heap ps t ep (Heap.SameBut.refl a s.heap) S load (List.Perm.refl _) (by omega))
end
structure Dm (hf:Nat->Int)(kf:Nat->List Key)(D:Nat->Prop):Prop where
 inj:∀{c d},D c->D d->hf c=hf d->c=d
 shape:∀{c},D c->∃i j,kf c=[Sum.inl i,Sum.inl j]
 len:∀{l:List Nat},l.Nodup->(∀c∈l,D c)->l.length<=200
structure GS (P:Program)(w:World)(hf:Nat->Int)(kf:Nat->List Key)(D:Nat->Prop)(h:Heap)(a:Addr)(ps:List Pt):Prop where
 ex:∃t ep,BI hf h a ps (!(w.params.followText "set-order")) t ep/\ps.length*5<t.mask*3
 tup:∀p∈ps,IsTupleKey (Ah P w) h (kf p.2) p.1/\D p.2
 nd:(ps.map (·.2)).Nodup
def B3 (ps xs CY:List Pt):Prop:=(∀p∈CY,p∈ps\/p∈xs)/\∀c,c∈CY.map (·.2)↔(c∈ps.map (·.2)\/c∈xs.map (·.2))
theorem B3.none {ps:List Pt}:B3 ps [] ps:=⟨fun p h=> .inl h,fun c=>by simp⟩
theorem B3.perm {ps CY:List Pt}(h:CY.Perm ps):B3 ps [] CY:=⟨fun p z=> .inl (h.mem_iff.mp z),fun c=>by rw[(h.map _).mem_iff];simp⟩
theorem B3.trans {ps xs ys p2 p3:List Pt}(h:B3 ps xs p2)(g:B3 p2 ys p3):B3 ps (xs++ys) p3:=
 ⟨fun p z=>by
  rcases g.1 p z with z | z
  ·rcases h.1 p z with z | z
   ·exact .inl z
   ·exact .inr (mem_append_left _ z)
  ·exact .inr (mem_append_right _ z),fun c=>by rw[g.2,h.2,map_append,mem_append,or_assoc]⟩
theorem key_ne {P:Program}{w:World}{hf:Nat->Int}{h:Heap}{a b:Addr}{ps:List Pt}{led:Bool}{t:SetTable}{ep:Nat}{k:List Key}(S:BI hf h a ps led t ep)(hk:IsTupleKey (Ah P w) h k b):b≠a:=by
 rintro rfl;obtain ⟨o,h1,h2,h3⟩:=S.ex;obtain ⟨o',items,n,g1,g2,g3,_⟩:=hk;rw[h1]at g1;cases g1;rw[h3]at g3;cases g3
theorem EQ {P:Program}{w:World}{h h':Heap}{b:Addr}{k:List Key}(e:∀o,h.get? b=some o->h'.get? b=some o)(hk:IsTupleKey (Ah P w) h k b):IsTupleKey (Ah P w) h' k b:=by
 obtain ⟨o',items,n,g1,g⟩:=hk;exact ⟨o',items,n,e _ g1,g⟩
section
variable {P:Program}{w:World}{A:Around}{E:Value->Shared->Prop}{s:Shared}{hf:Nat->Int}{kf:Nat->List Key}{D:Nat->Prop}{a b:Addr}{ps:List Pt}{c:Nat}
theorem GS.keep {h h':Heap}(G:GS P w hf kf D h a ps)(k:∀b o,h.get? b=some o->h'.get? b=some o):GS P w hf kf D h' a ps:=by
 obtain ⟨⟨t,ep,S,l⟩,h2,h3⟩:=G;exact ⟨⟨t,ep,S.keeps (k a),l⟩,fun p hp=>⟨EQ (k _) (h2 p hp).1,(h2 p hp).2⟩,h3⟩
theorem GS.small (M:Dm hf kf D){h:Heap}(G:GS P w hf kf D h a ps):ps.length<=200:=by
 have:=M.len G.nd fun c hc=>by
  obtain ⟨p,hp,rfl⟩:=mem_map.mp hc;exact (G.tup p hp).2
 simpa using this
theorem GS.qC (M:Dm hf kf D){h:Heap}(G:GS P w hf kf D h a ps)(hc:D c)(hn:c∉ps.map (·.2)):hf c∉DS hf ps:=by
 intro z;obtain ⟨p,hp,e⟩:=mem_map.mp z;have:=M.inj (G.tup p hp).2 hc e;exact hn (mem_map.mpr ⟨p,hp,this⟩)
theorem qF (M:Dm hf kf D){Q:Bool->Shared->Prop}(hu:A.units<cLine)(G:GS P w hf kf D s.heap a ps)(hb:IsTupleKey (Ah P w) s.heap (kf c) b)(hc:D c)
  (h:∀r h' CY,Heap.SameBut a s.heap h'->GS P w hf kf D h' a CY->B3 ps [(b,c)] CY->Q r { s with heap:=h' }):
  wpAny (model P w) A (setAddHashed a (.ref b) (hf c)) Q E s:=by
 obtain ⟨t,ep,S,load⟩:=G.ex;refine sf (kf:=kf) hu S load (G.small M) (fun p hp=>(G.tup p hp).1) hb (M.shape hc) (fun z=>G.qC M hc z) (fun z=>?_) fun z h' CY t' Qx k1 k2 k3 k4=>?_
 ·have e:s={ s with heap:=s.heap }:=by cases s;rfl
  rw[e];refine h false s.heap ps (Heap.SameBut.refl _ _) G ⟨fun p hp=> .inl hp,fun d=>?_⟩;constructor
  ·intro y;exact .inl y
  ·rintro (y | y)
   ·exact y
   ·simp at y;rw[y];exact z
 ·refine h true h' CY k1 ⟨⟨t',Qx,k2,k3⟩,fun p hp=>?_,?_⟩ ⟨fun p hp=>?_,fun d=>?_⟩
  ·rcases mem_cons.mp (k4.mem_iff.mp hp)with y | y
   ·subst y;exact ⟨EQ (fun o e=>by rw[k1.2 _ (key_ne S hb)];exact e) hb,hc⟩
   ·have:=G.tup p y;exact ⟨EQ (fun o e=>by rw[k1.2 _ (key_ne S this.1)];exact e) this.1,this.2⟩
  ·rw[(k4.map _).nodup_iff,map_cons,nodup_cons];exact ⟨z,G.nd⟩
  ·rcases mem_cons.mp (k4.mem_iff.mp hp)with y | y
   ·exact .inr (by rw[y];simp)
   ·exact .inl y
  ·rw[(k4.map _).mem_iff,map_cons,mem_cons];simp only[map_cons,map_nil,List.mem_singleton];exact or_comm
theorem gj (M:Dm hf kf D){more:Nat}{Q:Unit->Shared->Prop}(G:GS P w hf kf D s.heap a ps)(hz:more<=200)
  (h:∀h' CY t' Qx,Heap.SameBut a s.heap h'->GS P w hf kf D h' a CY->BI hf h' a CY (!(w.params.followText "set-order")) t' Qx->CY.Perm ps->(ps.length+more)*5<t'.mask*3->Q () { s with heap:=h' }):
  wpAny (model P w) A (setRoomFor a more) Q E s:=by
 obtain ⟨t,ep,S,load⟩:=G.ex;have:=G.small M;refine nI S load (by omega) fun h' CY t' Qx k1 k2 k3 k4 k5=>h h' CY t' Qx k1 ⟨⟨t',Qx,k2,k3⟩,fun p hp=>?_,?_⟩ k2 k4 k5
 ·have:=G.tup p (k4.mem_iff.mp hp);exact ⟨EQ (fun o e=>by rw[k1.2 _ (key_ne S this.1)];exact e) this.1,this.2⟩
 ·rw[(k4.map _).nodup_iff];exact G.nd
theorem yV {Q:Value->Shared->Prop}(h:GS P w hf kf D (s.heap.push { cls:= .type "set",dict:=none,data:= .set #[] 0 (.fresh 0 0 (!(w.params.followText "set-order"))) }) s.heap.objs.size []->
   Q (.ref s.heap.objs.size) { s with heap:=s.heap.push { cls:= .type "set",dict:=none,data:= .set #[] 0 (.fresh 0 0 (!(w.params.followText "set-order"))) } }):
  wpAny (model P w) A (newSet (.type "set")) Q E s:=by
 unfold newSet setsByText;refine wpAny_bind (wpAny_bind (wpAny_askSetting (wpAny_pure ?_)));refine wpAny_newObj_type (h ⟨⟨_,0,⟨⟨_,get?_push_size _ rfl,?_,rfl⟩,Tab.fresh ..,rfl,rfl⟩,?_⟩,by simp,by simp⟩)
 ·exact ⟨rfl,rfl,rfl⟩
 ·show 0*5<7*3;decide
structure DictAt (P:Program)(w:World)(hf:Nat->Int)(kf:Nat->List Key)(D:Nat->Prop)(h:Heap)(d:Addr)(xs:List Pt):Prop where
 ex:∃o es ep,h.get? d=some o/\o.ExactDict/\o.data= .dict es ep/\es.toList.map (fun e=>(e.hash,e.key))=xs.map (ent hf)
 tup:∀p∈xs,IsTupleKey (Ah P w) h (kf p.2) p.1/\D p.2
theorem uw {id:String}(M:Dm hf kf D){d:Addr}{xs:List Pt}{Q:Unit->Shared->Prop}(hu:A.units<cLine)(G:GS P w hf kf D s.heap a ps)(hd:DictAt P w hf kf D s.heap d xs)(lo:(d==sysModules)=false)(hz:xs.length<=200)
  (h:∀h' CY,Heap.SameBut a s.heap h'->GS P w hf kf D h' a CY->B3 ps xs CY->Q () { s with heap:=h' }):
  wpAny (model P w) A (updateFrom id a (.ref d)) Q E s:=by
 isplit;obtain ⟨o,es,ep,h1,h2,h3,h4⟩:=hd.ex;kl_no;have hda:d≠a:=by
  rintro rfl;isplit;obtain ⟨_,_,S,_⟩:=G.ex;kl_no;isplit;obtain ⟨o',g1,g2,g3⟩:=S.ex;kl_no;rw[h1]at g1;cases g1;rw[h3]at g3;cases g3
 have hT:s.TypeIs (.ref d) "dict":=⟨o,h1,h2.1⟩;have hlen:es.size=xs.length:=by
  have:=congrArg length h4;simpa using this
 unfold updateFrom isAnySet;refine wpAny_bind ?_;unfold orM;refine wpAny_bind (wpAny_isInstance hT PySem.F.sub_dict_set ?_);show wpAny _ _ (isInstance (.ref d) (.type "frozenset")) _ _ s;refine wpAny_isInstance hT PySem.F.sub_dict_frozenset ?_;simp only[Bool.false_eq_true,if_false];refine wpAny_bind (wpAny_typeOf hT ?_);simp only[beq_self_eq_true,if_true];refine wpAny_bind (wpAny_rule ?_);refine wpAny_bind (wpAny_pure ?_);simp only[lo,Bool.false_eq_true,if_false];refine wpAny_bind (wpAny_dictEpoch h1 h3 ?_);refine wpAny_bind (wpAny_dictEntries h1 h3 ?_);refine wpAny_bind (gj M G (by rw[hlen];exact hz) fun h0 p0 t0 e0 k1 k2 _ k4 _=>?_);have ho0:h0.get? d=some o:=by rw[k1.2 d hda];exact h1
 refine wpAny_bind (wpAny_dictEntries ho0 h3 ?_);refine wpAny_bind ?_;rw[Std.Legacy.Range.forIn_eq_forIn_range'];simp only[Std.Legacy.Range.size,Nat.sub_zero,Nat.add_sub_cancel,Nat.div_one];refine wpAny_forIn_list _
  (fun rest _ s'=>∃h' CY i,s'={ s with heap:=h' }/\rest=range' i (es.size - i)/\i<=es.size/\Heap.SameBut a s.heap h'/\GS P w hf kf D h' a CY/\B3 ps (xs.take i) CY)
  _ ?_ ?_ _ _ ⟨h0,p0,0,rfl,by simp,zero_le _,k1,k2,by simpa using B3.perm k4⟩
 ·intro x rest b s' zz;isplit;obtain ⟨h',CY,i,rfl,hr,hi,hs,hg,hj⟩:=zz;kl_no;have C2:i<es.size:=by
   rcases Nat.lt_or_ge i es.size with h | h
   ·exact h
   ·rw[Nat.sub_eq_zero_of_le h]at hr;simp at hr
  obtain ⟨rfl,AAz⟩:x=i/\rest=range' (i+1) (es.size - (i+1)):=by
   have e:es.size - i=(es.size - (i+1))+1:=by omega
   rw[e,List.range'_succ]at hr;injection hr with h1 h2
   exact ⟨h1,h2⟩
  have Wa:h'.get? d=some o:=by rw[hs.2 d hda];exact h1
  refine wpAny_bind (wpAny_dictEntries Wa h3 ?_);rw[Array.getElem?_eq_getElem C2];obtain ⟨q,hq⟩:∃q,xs[x]? =some q:=⟨xs[x]'(by omega),getElem?_eq_getElem _⟩;have hqe:(es[x].hash,es[x].key)=ent hf q:=by
   have:=congrArg (fun l=>l[x]?) h4;simp only[getElem?_map,hq,getElem?_toList,Array.getElem?_eq_getElem C2,Option.map_some]at this;exact Option.some.inj this
  have e1:es[x].hash=hf q.2:=congrArg Prod.fst hqe;have e2:es[x].key= .ref q.1:=congrArg Prod.snd hqe;have uh:=hd.tup q (mem_of_getElem? hq);isplit;obtain ⟨_,_,S0,_⟩:=G.ex;kl_no;show wpAny _ _ (holding [es[x].key] (setAddHashed a es[x].key es[x].hash) >>= _) _ _ _;rw[e1,e2];refine wpAny_bind (wpAny_holding (qF (s:={ s with heap:=h' }) M hu hg (EQ (fun o e=>by rw[hs.2 _ (key_ne S0 uh.1)];exact e) uh.1) uh.2 fun r h2 ps2 j1 j2 j3=>?_));have ho2:h2.get? d=some o:=by rw[j1.2 d hda];exact Wa
  refine wpAny_bind (wpAny_dictEpoch ho2 h3 ?_);rw[if_neg (by simp)];refine wpAny_pure ⟨h2,ps2,x+1,rfl,AAz,C2,hs.trans j1,j2,?_⟩;rw[take_add_one,hq];exact hj.trans j3
 ·intro b s' zz;isplit;obtain ⟨h',CY,i,rfl,hr,hi,hs,hg,hj⟩:=zz;kl_no;have JY:i=es.size:=by
   rcases Nat.lt_or_ge i es.size with z | z
   ·have e:es.size - i=(es.size - (i+1))+1:=by omega
    rw[e,List.range'_succ]at hr;cases hr
   ·omega
  subst JY;refine wpAny_pure (h h' CY hs hg ?_);rw[take_of_length_le (by omega)]at hj;exact hj
end
theorem T5 {α:Type}:∀(l:List α) (i:Nat) (h:i<l.length),(l[i]::l.eraseIdx i).Perm l
 |x::l,0,_=> .refl _
 |x::l,i+1,h=>by
  have:=T5 l i (by simpa using h);simp only[List.getElem_cons_succ,List.eraseIdx_cons_succ];exact (List.Perm.swap _ _ _).trans (this.cons x)
theorem fz {α:Type}(next:Nat->Nat):∀(fuel k:Nat) (left:List α) (out:Array α),left.length=fuel->(pickOrder.go next fuel k left out).toList.Perm (out.toList++left)
 |0,k,left,out,h=>by
  have:left=[]:=length_eq_zero_iff.mp h;subst this;rw[append_nil];exact .refl _
 |fuel+1,k,left,out,h=>by
  rw[pickOrder.go];have hl:next k % left.length<left.length:=mod_lt _ (by omega);rw[getElem?_eq_getElem hl];simp only;refine (fz next fuel (k+1) _ _ (by rw[List.length_eraseIdx,if_pos hl];omega)).trans ?_;rw[Array.toList_push,append_assoc];refine List.Perm.append_left _ ?_;rw[List.singleton_append];exact T5 left _ hl
theorem jL {α:Type}(next:Nat->Nat)(xs:List α):(pickOrder next xs.toArray).toList.Perm xs:=by
 unfold pickOrder;have:=fz next xs.toArray.size 0 xs.toArray.toList #[] (by simp);simpa using this
section
variable {P:Program}{w:World}{A:Around}{E:Value->Shared->Prop}{s:Shared}{hf:Nat->Int}{kf:Nat->List Key}{D:Nat->Prop}{a b:Addr}{ps:List Pt}{c:Nat}{t:SetTable}{ep:Nat}
abbrev CG (w:World):Bool:=w.params.followText "set-order"
def orderOf (w:World)(a:Addr)(ep:Nat)(es:List (Int×Value)):List (Int×Value):=if CG w then (pickOrder (w.params.setOrder a ep) es.toArray).toList else es
theorem DG (w:World)(a:Addr)(ep:Nat)(es:List (Int×Value)):(orderOf w a ep es).Perm es:=by
 unfold orderOf;split
 ·exact jL _ _
 ·exact .refl _
theorem ZK {Q:Array (Int×Value)->Shared->Prop}(S:BI hf s.heap a ps (!CG w) t ep)(h:Q (orderOf w a ep (ps.map (ent hf))).toArray s):wpAny (model P w) A (setWalk a) Q E s:=by
 unfold setWalk setsByText;refine wpAny_bind (A3 S ?_);refine wpAny_bind (wpAny_bind (wpAny_askSetting (wpAny_pure ?_)));unfold orderOf CG at *;have hl:=S.led;have hp:=S.nq;clear S;show wpAny _ _ (if w.params.followText "set-order"=true then _ else _) _ _ _;cases e:w.params.followText "set-order" with
 |true=>
  rw[e,if_pos rfl,Array.toArray_toList]at h;rw[if_pos rfl];exact wpAny_bind (wpAny_askSetting (wpAny_pure h))
 |false=>
  rw[e]at h hl;obtain ⟨t1,t2,t3,t4,t5,t6,t7⟩:=t;simp only at hl hp;subst hl hp;rw[if_neg Bool.false_ne_true]at h;rw[if_neg Bool.false_ne_true];show wpAny _ _ ((pure ():Sem Unit) >>= fun _=>pure _) _ _ _;exact wpAny_bind (wpAny_pure (wpAny_pure h))
theorem jG {o:List Addr}{f:Option Addr}{Q:Array (Int×Value)->Shared->Prop}(S:BI hf s.heap a ps (!CG w) t ep)(h:Q (orderOf w a ep (ps.map (ent hf))).toArray s):wpAny (model P w) A (setWalkUnseen a o f) Q E s:=by
 unfold setWalkUnseen setsByText;refine wpAny_bind (A3 S ?_);refine wpAny_bind (wpAny_bind (wpAny_askSetting (wpAny_pure ?_)));have e:(w.params.followText "set-order"||(t.led&&t.plain)||decide ((ps.map (ent hf)).toArray.size<=1))=true:=by
  rw[S.led,S.nq];unfold CG;cases w.params.followText "set-order" <;> rfl
 show wpAny _ _ (if (w.params.followText "set-order"||(t.led&&t.plain)||decide ((ps.map (ent hf)).toArray.size<=1))=true then _ else _) _ _ _;rw[if_pos e];exact ZK S h
theorem yW (M:Dm hf kf D){each:Sem Unit}{b:Addr}{pb:List Pt}{tb:SetTable}{eb:Nat}{led:Bool}{xs:List Pt}{Q:Unit->Shared->Prop}(hu:A.units<cLine)(Wh:a≠b)(G:GS P w hf kf D s.heap a ps)(Sb:BI hf s.heap b pb led tb eb)(hx:∀p∈xs,IsTupleKey (Ah P w) s.heap (kf p.2) p.1/\D p.2)
  (he:∀(s':Shared) (Q':Unit->Shared->Prop),BI hf s'.heap b pb led tb eb->Q' () s'->wpAny (model P w) A each Q' E s')
  (h:∀h' CY,Heap.SameBut a s.heap h'->GS P w hf kf D h' a CY->B3 ps xs CY->Q () { s with heap:=h' }):
  wpAny (model P w) A (forIn (xs.map (ent hf)).toArray PUnit.unit fun (e:Int×Value) (_:PUnit)=>(do
   let _ <- holding [e.2] (setAddHashed a e.2 e.1)
   each
   let z <- setState b
   if (z.2.1 != eb)=true then do
    (unsupported "set.changed-during-merge":Sem PUnit)
    pure (ForInStep.yield PUnit.unit)
   else pure (ForInStep.yield PUnit.unit):Sem (ForInStep PUnit))) Q E s:=by
 rw[<- forIn_toList,toList_toArray];isplit;obtain ⟨_,_,S0,_⟩:=G.ex;kl_no;refine wpAny_forIn_list _
  (fun rest _ s'=>∃h' CY i,s'={ s with heap:=h' }/\rest=(xs.drop i).map (ent hf)/\Heap.SameBut a s.heap h'/\GS P w hf kf D h' a CY/\B3 ps (xs.take i) CY)
  _ ?_ ?_ _ _ ⟨s.heap,ps,0,rfl,by simp,Heap.SameBut.refl _ _,G,by simpa using B3.none⟩
 ·intro x rest u s' zz;isplit;obtain ⟨h',CY,i,rfl,hr,hs,hg,hj⟩:=zz;kl_no;cases hd:xs.drop i with
  |nil=>rw[hd]at hr;cases hr
  |cons q r=>
   rw[hd,map_cons]at hr;injection hr with e1 e2
   subst e1;have hq:xs[i]? =some q:=by
    have:=congrArg (fun l=>l[0]?) hd;simpa using this
   have Gg:xs.drop (i+1)=r:=by
    rw[<- List.tail_drop,hd];rfl
   have uh:=hx q (mem_of_getElem? hq);show wpAny _ _ (holding [Value.ref q.1] (setAddHashed a (.ref q.1) (hf q.2)) >>= _) _ _ _;refine wpAny_bind (wpAny_holding (qF (s:={ s with heap:=h' }) M hu hg (EQ (fun o e=>by rw[hs.2 _ (key_ne S0 uh.1)];exact e) uh.1) uh.2 fun z h2 ps2 j1 j2 j3=>?_));have Sb':BI hf h2 b pb led tb eb:=Sb.keeps fun o e=>by rw[(hs.trans j1).2 b (Ne.symm Wh)];exact e
   refine wpAny_bind (he { s with heap:=h2 } _ Sb' ?_);refine wpAny_bind (A3 (s:={ s with heap:=h2 }) Sb' ?_);rw[if_neg (by simp)];refine wpAny_pure ⟨h2,ps2,i+1,rfl,by rw[Gg,e2],hs.trans j1,j2,?_⟩;rw[take_add_one,hq];exact hj.trans j3
 ·intro u s' zz;isplit;obtain ⟨h',CY,i,rfl,hr,hs,hg,hj⟩:=zz;kl_no;have e:xs.drop i=[]:=by
   cases hd:xs.drop i with
   |nil=>rfl
   |cons q r=>rw[hd]at hr;cases hr
  have hl:xs.length<=i:=List.drop_eq_nil_iff.mp e;rw[take_of_length_le hl]at hj;exact h h' CY hs hg hj
theorem a7 (M:Dm hf kf D){each:Sem Unit}{b:Addr}{pb:List Pt}{Q:Unit->Shared->Prop}(hu:A.units<cLine)(Wh:a≠b)(G:GS P w hf kf D s.heap a ps)(Gb:GS P w hf kf D s.heap b pb)
  (he:∀tb eb,BI hf s.heap b pb (!CG w) tb eb->∀(s':Shared) (Q':Unit->Shared->Prop),BI hf s'.heap b pb (!CG w) tb eb->Q' () s'->wpAny (model P w) A each Q' E s')
  (h:∀h' CY,Heap.SameBut a s.heap h'->GS P w hf kf D h' a CY->B3 ps pb CY->Q () { s with heap:=h' }):
  wpAny (model P w) A (setMerge a b each) Q E s:=by
 isplit;obtain ⟨tb,eb,Sb,lb⟩:=Gb.ex;kl_no;isplit;obtain ⟨t0,e0,S0,l0⟩:=G.ex;kl_no;have he:=he tb eb Sb;have hzb:=Gb.small M;unfold setMerge;have Ml:(a==b)=false:=by simpa using Wh
 simp only[Ml,Bool.false_eq_true,if_false];refine wpAny_bind (A3 Sb ?_);simp only;cases pb with
 |nil=>
  have e:s={ s with heap:=s.heap }:=by cases s;rfl
  rw[e];exact wpAny_pure (h s.heap ps (Heap.SameBut.refl _ _) G B3.none)
 |cons p0 pr=>
  have AEg:((p0::pr).map (ent hf)).toArray.isEmpty=false:=rfl;generalize hpb:p0::pr=pb at *;rw[AEg];simp only[Bool.false_eq_true,if_false];refine wpAny_bind (gj M G (by rw[size_toArray,length_map];exact hzb) fun h1 p1 t1 e1 k1 k2 k3 k4 k5=>?_);refine wpAny_bind (A3 (s:={ s with heap:=h1 }) k3 ?_);have Sb1:BI hf h1 b pb (!CG w) tb eb:=Sb.keeps fun o e=>by rw[k1.2 b (Ne.symm Wh)];exact e
  have hx1:∀p∈pb,IsTupleKey (Ah P w) h1 (kf p.2) p.1/\D p.2:=fun p hp=>⟨EQ (fun o e=>by rw[k1.2 _ (key_ne S0 (Gb.tup p hp).1)];exact e) (Gb.tup p hp).1,(Gb.tup p hp).2⟩;have ga:=k4.length_eq;rw[size_toArray,length_map]at k5;have ABK:t1.fill=p1.length:=by
   unfold SetTable.fill;rw[k3.tab.size,k3.tab.sB];unfold DS;simp
  have AAy:t1.road tb=if p1.length≠0 then .oneByOne else if t1.mask=tb.mask then .slotForSlot else .clean:=by
   unfold SetTable.road;rw[ABK,Sb.tab.sB];by_cases z:p1.length=0
   ·by_cases y:t1.mask=tb.mask <;> simp[z,y]
   ·simp[z]
  simp only;rw[AAy];by_cases z:p1.length≠0
  ·rw[if_pos z];simp only;refine wpAny_bind (jG (s:={ s with heap:=h1 }) Sb1 ?_);obtain ⟨xs,x1,x2⟩:=Kx (DG w b eb (pb.map (ent hf))) pb rfl;rw[x2];refine wpAny_bind (yW (s:={ s with heap:=h1 }) M hu Wh k2 Sb1 (fun p hp=>hx1 p (x1.mem_iff.mp hp)) he fun h2 p2 j1 j2 j3=>wpAny_pure (h h2 p2 (k1.trans j1) j2 ?_));have:=(B3.perm k4).trans j3;rw[nil_append]at this;exact ⟨fun p hp=>(this.1 p hp).imp_right fun q=>x1.mem_iff.mp q,fun d=>by rw[this.2,(x1.map _).mem_iff]⟩
  ·rw[if_neg z];have D3:p1=[]:=length_eq_zero_iff.mp (by omega);subst D3;have dl:ps=[]:=length_eq_zero_iff.mp (by simpa using ga.symm);subst dl;have ABJ:∀h2 p2,Heap.SameBut a h1 h2->p2.Perm pb->(∃t' Qx,BI hf h2 a p2 (!CG w) t' Qx/\p2.length*5<t'.mask*3)->Q () { s with heap:=h2 }:=fun h2 p2 j1 j2 j3=>
    h h2 p2 (k1.trans j1) ⟨j3,fun p hp=>⟨EQ (fun o e=>by rw[j1.2 _ (key_ne k3 (hx1 p (j2.mem_iff.mp hp)).1)];exact e) (hx1 p (j2.mem_iff.mp hp)).1,(hx1 p (j2.mem_iff.mp hp)).2⟩,by rw[(j2.map _).nodup_iff];exact Gb.nd⟩
     ⟨fun p hp=> .inr (j2.mem_iff.mp hp),fun d=>by rw[(j2.map _).mem_iff];simp⟩
   by_cases y:t1.mask=tb.mask
   ·rw[if_pos y];simp only;have T':Tab { tb with finger:=t1.finger,led:=t1.led&&tb.led,moves:=t1.moves,plain:=t1.plain&&tb.plain } (DS hf pb):=⟨Sb.tab.mask,Sb.tab.rise,Sb.tab.low,Sb.tab.sB,Sb.tab.size,Sb.tab.reach,Sb.tab.nd,Sb.tab.room⟩;refine Kv (s:={ s with heap:=h1 }) k3 (by omega) T' (by show (t1.led&&tb.led)=_;rw[k3.led,Sb.led];simp) (by show (t1.plain&&tb.plain)=_;rw[k3.nq,Sb.nq];rfl) fun h2 j1 j2=>ABJ h2 pb j1 (.refl _) ⟨_,_,j2,lb⟩
   ·rw[if_neg y];simp only;have hm5:pb.length*5<t1.mask*3:=by simpa using k5
    have hm7:7<=t1.mask:=(by decide:∀m∈Fi,7<=m) _ k3.tab.mask;isplit;obtain ⟨t',order,e1,e2,e3,e4,e5,e6,e7⟩:=gQ k3.tab.mask Sb.tab.nd (by unfold DS;rw[length_map];omega) t1.finger t1.moves (t1.led&&tb.led) (t1.plain&&tb.plain);kl_no;rw[pT,e1];have hlen:(DS hf pb).length=pb.length:=by unfold DS;rw[length_map]
    rw[hlen]at e6;have pp:=SV e6;have arr:order.filterMap (fun i=>(pb.map (ent hf)).toArray[i]?)=((order.toList.filterMap (pb[·]?)).map (ent hf)).toArray:=by
     apply ext';rw[Array.toList_filterMap,toList_toArray, <- Ky]
     congr 1
     funext i
     rw[getElem?_toArray]
    have hh:order.toList.filterMap ((DS hf pb)[·]?)=DS hf (order.toList.filterMap (pb[·]?)):=Ky _ _ _;rw[hh]at e7;refine wpAny_bind ?_;show wpAny (model P w) A (if (((order.filterMap (fun i=>(pb.map (ent hf)).toArray[i]?)).size != (pb.map (ent hf)).toArray.size)=true)then (do (unsupported "internal:set-table-lost-an-element":Sem PUnit);pure (order.filterMap (fun i=>(pb.map (ent hf)).toArray[i]?),t'))else pure (order.filterMap (fun i=>(pb.map (ent hf)).toArray[i]?),t')) _ _ _;rw[arr,size_toArray,size_toArray,length_map,length_map,pp.length_eq,if_neg (by simp)];refine wpAny_pure ?_;simp only;refine Kv (s:={ s with heap:=h1 }) k3 (by rw[pp.length_eq];omega) e7 (e3.trans (by rw[k3.led,Sb.led];simp)) (e4.trans (by rw[k3.nq,Sb.nq];rfl)) fun h2 j1 j2=>ABJ h2 _ j1 pp ⟨_,_,j2,?_⟩;rw[pp.length_eq,e2];exact hm5
end
theorem SQ:Manifest.owners.lookup (String.ofList ['r','o','t','a','r','e','t','i','_','t','e','s'].reverse)=some Manifest.sig_set_iterator:=by kernel_rfl
theorem CT:Slot "set_iterator" "__next__" "set_iterator.__next__":=
 .of (owner:="set_iterator") (n:="__next__") (by rw[typeLookup_type,builtinLookup_eq_fast];kernel_rfl) (by decide+kernel) (by decide+kernel) (by decide+kernel)
  (by first | exact .inl (by decide+kernel) | exact .inr (by decide+kernel)) (by rw[isSubtype_type];kernel_rfl)
theorem JN:entryFor table "set_iterator.__next__"=some Builtin.«set_iterator.__next__»:=entryFor_of_tree (by kernel_rfl)
theorem Kj (a:Value):argsOk "set_iterator.__next__" ⟨[a],[]⟩:=by
 unfold argsOk;rw[signature?_of (id:="set_iterator.__next__") (n:= ['_','_','t','x','e','n','_','_']) (o:= ['r','o','t','a','r','e','t','i','_','t','e','s']) (by kernel_rfl) SQ];kernel_rfl
theorem Jr:Slot "set_iterator" "__iter__" "set_iterator.__iter__":=
 .of (owner:="set_iterator") (n:="__iter__") (by rw[typeLookup_type,builtinLookup_eq_fast];kernel_rfl) (by decide+kernel) (by decide+kernel) (by decide+kernel)
  (by first | exact .inl (by decide+kernel) | exact .inr (by decide+kernel)) (by rw[isSubtype_type];kernel_rfl)
theorem Qy:entryFor table "set_iterator.__iter__"=some Builtin.«dict_keyiterator.__iter__»:=
 entryFor_alias (id':="dict_keyiterator.__iter__") (by kernel_rfl) rfl (by decide+kernel) (by kernel_rfl)
theorem UV (a:Value):argsOk "set_iterator.__iter__" ⟨[a],[]⟩:=by
 unfold argsOk;rw[signature?_of (id:="set_iterator.__iter__") (n:= ['_','_','r','e','t','i','_','_']) (o:= ['r','o','t','a','r','e','t','i','_','t','e','s']) (by kernel_rfl) SQ];kernel_rfl
theorem T6:entryFor table "set.__iter__"=some Builtin.«frozenset.__iter__»:=
 entryFor_alias (id':="frozenset.__iter__") (by kernel_rfl) rfl (by decide+kernel) (by kernel_rfl)
theorem YQ:entryFor table "set.__or__"=some Builtin.«frozenset.__or__»:=
 entryFor_alias (id':="frozenset.__or__") (by kernel_rfl) rfl (by decide+kernel) (by kernel_rfl)
def DJ (h:Heap)(I d:Addr)(slot i n ep:Nat):Prop:=∃o,h.get? I=some o/\o.cls= .type "set_iterator"/\o.data= .fields #[.int slot 0,.int i 0,.ref d,.int n 0,.int ep 0]
theorem DJ.at {h h':Heap}{I d:Addr}{sl i n ep:Nat}(x:DJ h I d sl i n ep)(e:∀o,h.get? I=some o->h'.get? I=some o):DJ h' I d sl i n ep:=let ⟨o,ho,r⟩:=x;⟨o,e _ ho,r⟩
theorem DJ.typeIs {s:Shared}{I d:Addr}{sl i n ep:Nat}(x:DJ s.heap I d sl i n ep):s.TypeIs (.ref I) "set_iterator":=let ⟨o,ho,hc,_⟩:=x;⟨o,ho,hc⟩
def placeOf (t:SetTable):Nat->Nat
 |0=>0
 |k+1=>(t.place[k]?).getD 0+1
def Ec (w:World)(t:SetTable)(i:Nat):Nat:=if CG w then 0 else placeOf t i
theorem ez {xs:Array Nat}(R:bt xs):SetTable.below xs 0=0:=by
 obtain ⟨h1,h2,h3⟩:=OJ R 0;cases z:SetTable.below xs 0 with
 |zero=>rfl
 |succ k=>
  have hx:xs[0]? =some xs[0]:=Array.getElem?_eq_getElem (by omega);have:=h2 0 _ (by omega) hx;omega
theorem Ni (t:SetTable)(k:Nat):placeOf t (k+1)=(t.place[k]?).getD 0+1:=rfl
theorem bY {t:SetTable}{hs:List Int}(T:Tab t hs):∀i,i<=hs.length->SetTable.below t.place (placeOf t i)=i
 |0,_=>ez (NZ T.rise)
 |k+1,h=>by
  have hsz:=T.size;have hx:t.place[k]? =some t.place[k]:=Array.getElem?_eq_getElem (by omega);rw[Ni,hx];exact e8 (NZ T.rise) hx
section
variable {P:Program}{w:World}{A:Around}{E:Value->Shared->Prop}{s:Shared}{hf:Nat->Int}{d I:Addr}{ps:List Pt}{t:SetTable}{ep:Nat}
theorem Vo {i:Nat}{Q:Option (Value×Nat)->Shared->Prop}(S:BI hf s.heap d ps (!CG w) t ep)(hi:i<=ps.length)
  (h:Q (((orderOf w d ep (ps.map (ent hf)))[i]?).map fun e=>(e.2,Ec w t (i+1))) s):wpAny (model P w) A (setNext d (Ec w t i) i ep) Q E s:=by
 unfold setNext setsByText;refine wpAny_bind (A3 S ?_);refine wpAny_bind (wpAny_bind (wpAny_askSetting (wpAny_pure ?_)));have hl:=S.led;have hp:=S.nq;have T:=S.tab;show wpAny _ _ (if w.params.followText "set-order"=true then _ else _) _ _ _;cases e:w.params.followText "set-order" with
 |true=>
  rw[if_pos rfl];rw[if_neg (by simp)];refine wpAny_bind (ZK S (wpAny_pure ?_));unfold Ec CG at *;rw[if_pos e]at h ⊢;rw[getElem?_toArray];exact h
 |false=>
  rw[if_neg Bool.false_ne_true];unfold Ec orderOf CG at *;rw[e]at hl h ⊢;simp only[Bool.false_eq_true,if_false]at h ⊢;have hsz:t.place.size=ps.length:=by rw[T.size];unfold DS;rw[length_map]
  have hb:SetTable.below t.place (placeOf t i)=i:=bY T i (by unfold DS;rw[length_map];exact hi);generalize hsl:placeOf t i=sl at *;have key:Q (match (ps.map (ent hf)).toArray[SetTable.below t.place sl]?,t.place[SetTable.below t.place sl]? with | some (_,x),some j=>some (x,j+1) | _,_=>none) s:=by
   rw[hb,getElem?_toArray];cases q:(ps.map (ent hf))[i]? with
   |none=>rw[q]at h;exact h
   |some x=>
    rw[q]at h;have C2:i<ps.length:=by
     have:=(List.getElem?_eq_some_iff.mp q).1;simpa using this
    have hx:t.place[i]? =some t.place[i]:=Array.getElem?_eq_getElem (by omega);have h2:placeOf t (i+1)=t.place[i]+1:=by rw[Ni,hx];rfl
    rw[h2]at h;rw[hx];exact h
  clear h T S hb hsl hsz;isplit;obtain ⟨t1,t2,t3,t4,t5,t6,t7⟩:=t;kl_no;simp only at hl hp;subst hl hp;show wpAny _ _ ((pure ():Sem Unit) >>= fun _=>pure _) _ _ _;exact wpAny_bind (wpAny_pure (wpAny_pure key))
theorem Oo {a:Addr}{o:Obj}{vs:Array Value}{i:Nat}{x:Value}{Q:Unit->Shared->Prop}(ho:s.heap.get? a=some o)(hd:o.data= .fields vs)(hi:i<vs.size)
  (h:∀h' o',h'.get? a=some o'->o'.cls=o.cls->o'.data= .fields (vs.setIfInBounds i x)->Heap.SameBut a s.heap h'->Q () { s with heap:=h' }):wpAny (model P w) A (setField (.ref a) i x) Q E s:=
 wpAny_setField ho hd hi (h _ _ (get?_update_self _ ho (Obj.isFreed_of_fields (Obj.data_mapFields hd _))) (Obj.cls_mapFields ..) (Obj.data_mapFields hd _) (Heap.SameBut.update ..))
theorem jF {i n:Nat}{e:Int×Value}{Q:Option Value->Shared->Prop}(hit:DJ s.heap I d (Ec w t i) i n ep)(S:BI hf s.heap d ps (!CG w) t ep)(hn:n=ps.length)(hx:(orderOf w d ep (ps.map (ent hf)))[i]? =some e)
  (hQ:∀h',DJ h' I d (Ec w t (i+1)) (i+1) n ep->Heap.SameBut I s.heap h'->Q (some e.2) { s with heap:=h' }):wpAny (model P w) A (pyNext (.ref I)) Q E s:=by
 obtain ⟨o,ho,hc,hd⟩:=id hit;have hi:i<ps.length:=by
  have h1:=(List.getElem?_eq_some_iff.mp hx).1;have h2:=(DG w d ep (ps.map (ent hf))).length_eq;rw[length_map]at h2;omega
 unfold pyNext;refine wpAny_bind (wpAny_attempt (wpAny_callSpecial?_slot (name:=Str.ofString "__next__") hit.typeIs CT
  (wpAny_call_entry CT hit.typeIs JN ?_ (Kj _))))
 unfold Builtin.«set_iterator.__next__»;refine wpAny_bind (m:=slotArgs "__next__" 0 _) (wpAny_pure ?_);refine wpAny_bind (wpAny_fieldsOf ho hd ?_);show wpAny _ _ (setEntries d >>= _) _ _ s;unfold setEntries;refine wpAny_bind (wpAny_bind (A3 S (wpAny_pure ?_)));rw[if_neg (by simp[hn])];show wpAny _ _ (setNext d ((Ec w t i:Nat):Int).toNat ((i:Nat):Int).toNat ((ep:Nat):Int).toNat >>= _) _ _ s;rw[Int.toNat_natCast,Int.toNat_natCast,Int.toNat_natCast];refine wpAny_bind (Vo S (by omega) ?_);rw[hx];show wpAny _ _ (setField (.ref I) 0 (rawInt ((Ec w t (i+1):Nat):Int)) >>= _) _ _ s;refine wpAny_bind (Oo ho hd (by simp) fun h1 o1 a1 a2 a3 a4=>?_);refine wpAny_bind (Oo (s:={ s with heap:=h1 }) a1 a3 (by simp) fun h2 o2 b1 b2 b3 b4=>?_);refine wpAny_pure ⟨_,rfl,wpAny_pure (hQ h2 ⟨o2,b1,b2.trans (a2.trans hc),?_⟩ (a4.trans b4))⟩;rw[b3];simp[rawInt]
theorem nH {n:Nat}{Q:Option Value->Shared->Prop}(hh:A.handled=none)(hit:DJ s.heap I d (Ec w t n) n n ep)(S:BI hf s.heap d ps (!CG w) t ep)(hn:n=ps.length)
  (hQ:∀h',Heap.ExtBut I s.heap h'->Q none { s with heap:=h' }):wpAny (model P w) A (pyNext (.ref I)) Q E s:=by
 obtain ⟨o,ho,hc,hd⟩:=id hit;have hx:(orderOf w d ep (ps.map (ent hf)))[n]? =none:=by
  have h2:=(DG w d ep (ps.map (ent hf))).length_eq;rw[length_map]at h2;exact List.getElem?_eq_none (by omega)
 unfold pyNext;refine wpAny_bind (wpAny_attempt (wpAny_callSpecial?_slot (name:=Str.ofString "__next__") hit.typeIs CT
  (wpAny_call_entry CT hit.typeIs JN ?_ (Kj _))))
 unfold Builtin.«set_iterator.__next__»;refine wpAny_bind (m:=slotArgs "__next__" 0 _) (wpAny_pure ?_);refine wpAny_bind (wpAny_fieldsOf ho hd ?_);show wpAny _ _ (setEntries d >>= _) _ _ s;unfold setEntries;refine wpAny_bind (wpAny_bind (A3 S (wpAny_pure ?_)));rw[if_neg (by simp[hn])];show wpAny _ _ (setNext d ((Ec w t n:Nat):Int).toNat ((n:Nat):Int).toNat ((ep:Nat):Int).toNat >>= _) _ _ s;rw[Int.toNat_natCast,Int.toNat_natCast,Int.toNat_natCast];refine wpAny_bind (Vo S (by omega) ?_);rw[hx];show wpAny _ _ (setField (.ref I) 2 .none >>= _) _ _ s;refine wpAny_bind (Oo ho hd (by simp) fun h1 o1 a1 a2 a3 a4=>?_);show wpAny _ _ (newExc (.type "StopIteration") [] >>= _) _ _ _;refine wpAny_bind ?_;simp only[newExc,newTuple];refine wpAny_bind (wpAny_newObj_type ?_ (by size_fits));refine wpAny_bind (m:=firstArgMember _ _) (wpAny_of_eq (a:=Value.none) (by first | rfl | (simp only[firstArgMember];rfl)) ?_);refine wpAny_newObj_type ?_ (by size_fits);simp only[raiseNew];refine wpAny_bind (wpAny_handled ?_);rw[show A.in1.handled=none from hh];refine wpAny_bind (wpAny_pure (wpAny_throw ?_));refine wpAny_bind (wpAny_isInstance (T:="StopIteration") (b:=true) ⟨_,get?_push_size _ rfl,rfl⟩ isSubtype_stop ?_);exact wpAny_pure (hQ _ ((a4.extBut.push _).push _))
theorem Ri (S:BI hf s.heap d ps (!CG w) t ep):s.TypeIs (.ref d) "set":=let ⟨o,h1,h2,_⟩:=S.ex;⟨o,h1,h2.1⟩
theorem XM {h:Heap}{led:Bool}(S:BI hf h d ps led t ep):d<h.objs.size:=let ⟨o,h1,_⟩:=S.ex;lt_size h1
theorem pN {Q:Value->Shared->Prop}(S:BI hf s.heap d ps (!CG w) t ep)
  (hQ:Q (.ref s.heap.objs.size) { s with heap:=s.heap.push { cls:= .type "set_iterator",data:= .fields #[.int 0 0,.int 0 0,.ref d,.int ps.length 0,.int ep 0] } }):
  wpAny (model P w) A (pyIter (.ref d)) Q E s:=by
 have hT:=Ri S;refine wpAny_pyIter_slot hT slot_set_iter (wpAny_call_entry slot_set_iter hT T6 ?_ (PySem.F.args_set_iter_1 _));unfold Builtin.«frozenset.__iter__» Builtin.Frozenset.sizeOf setDrawn setsByText setEpoch setEntries;refine wpAny_bind (m:=slot0 "__iter__" _) (wpAny_bind (m:=slotArgs "__iter__" 0 _) (wpAny_pure (wpAny_pure ?_)));refine wpAny_bind (wpAny_bind (wpAny_bind (A3 S (wpAny_pure (wpAny_pure ?_)))));refine wpAny_bind (wpAny_bind (A3 S (wpAny_bind (wpAny_bind (wpAny_askSetting (wpAny_pure (wpAny_pure ?_)))))));have fin:wpAny (model P w) A.in1 ((pure (rawInt 0):Sem Value) >>= fun first=>(do let z <- setState d;pure z.2.1) >>= fun e=>newFields "set_iterator" [first,rawInt 0,.ref d,rawInt (ps.map (ent hf)).toArray.size,rawInt e] >>= fun v=>ret v) (fun fin s'=>∃v,fin= .done (.ret v)/\∃T r,s'.TypeIs v T/\typeLookup (.type T) (Str.ofString "__next__")=pure (some r)/\Q v s') E s:=by
  refine wpAny_bind (wpAny_pure ?_);refine wpAny_bind (wpAny_bind (A3 S (wpAny_pure ?_)));refine wpAny_bind (wpAny_newObj_type (wpAny_pure ⟨_,rfl,"set_iterator",_,⟨_,get?_push_size _ rfl,rfl⟩,CT.lookup,?_⟩));simpa [rawInt]using hQ
 have hp:=S.nq;clear S hQ hT;obtain ⟨t1,t2,t3,t4,t5,t6,t7⟩:=t;simp only at hp;subst hp;show wpAny _ _ (if ((!(w.params.followText "set-order"))&&false)=true then _ else (pure (rawInt 0) >>= _)) _ _ _;rw[Bool.and_false,if_neg Bool.false_ne_true];exact fin
theorem iO (hh:A.handled=none)(Ml:d≠I):
  Walks P w A I [I,d] [I] ps.length (fun i v=>∃e,(orderOf w d ep (ps.map (ent hf)))[i]? =some e/\v=e.2) (fun i h=>DJ h I d (Ec w t i) i ps.length ep/\BI hf h d ps (!CG w) t ep) where
 sub:=fun b hb=>by simp at hb;simp[hb]
 frame:=fun _ _ _ st hk=>⟨st.1.at fun o e=>hk I (by simp) o e,st.2.keeps fun o e=>hk d (by simp) o e⟩
 item:=fun i s Q E hi st hQ=>by
  have h2:=(DG w d ep (ps.map (ent hf))).length_eq;rw[length_map]at h2;have hx:(orderOf w d ep (ps.map (ent hf)))[i]? =some ((orderOf w d ep (ps.map (ent hf)))[i]'(by omega)):=getElem?_eq_getElem (by omega);refine jF st.1 st.2 rfl hx fun h' kC hs'=>?_;exact hQ _ h' s.toks ⟨_,hx,rfl⟩ ⟨kC,st.2.keeps fun o e=>(hs'.2 d Ml).trans e⟩ fun b o hb e=>(hs'.2 b (fun h=>hb (by simp[h]))).trans e
 done:=fun s Q E st hQ=>nH hh st.1 st.2 rfl fun h' he'=>hQ h' s.toks fun b o hb e=>he' b o (fun h=>hb (by simp[h])) e
 self:=fun _ s Q E st hQ=>by
  refine wpAny_pyIter_slot st.1.typeIs Jr (wpAny_call_entry Jr st.1.typeIs Qy ?_ (UV _));show wpAny _ _ (ret (.ref I)) _ _ s;exact wpAny_pure ⟨_,rfl,"set_iterator",_,st.1.typeIs,CT.lookup,hQ⟩
theorem pq {Q:Bool->Shared->Prop}(hT:s.TypeIs (.ref d) "set")(h:Q false s):wpAny (model P w) A (Builtin.List.listLengthHint (.ref d)) Q E s:=by
 unfold Builtin.List.listLengthHint;refine wpAny_bind (wpAny_specialOf hT PySem.F.slot_set_len.lookup ?_);generalize hid:("set.__len__":String)=id0
 wp_delta
 rw[show splitId id0=some ("set","__len__")from by subst hid;decide+kernel];subst hid;refine wpAny_bind (wpAny_isInstance (T:="set") (b:=true) hT (by rw[isSubtype_type];kernel_rfl) ?_);refine wpAny_ite_split (fun Wh=>absurd Wh (by decide)) (fun _=>?_);refine wpAny_ite_split (fun _=>?_) (fun Wh=>absurd (by decide+kernel) Wh);refine wpAny_bind (wpAny_typeOf hT ?_);exact wpAny_pure h
theorem uP:PySem.W.KdlSrc P w "set" d d ps.length (fun i v=>∃e,(orderOf w d ep (ps.map (ent hf)))[i]? =some e/\v=e.2) (fun h=>BI hf h d ps (!CG w) t ep) where
 type:=fun _ hm=>Ri hm
 there:=fun _ hm=>⟨XM hm,XM hm⟩
 keep:=fun _ _ hm hk=>hm.keeps fun o e=>hk d (.inl rfl) o e
 notList:=by decide
 notTuple:=by decide
 hint:=fun _ _ _ _ hm hq=>pq (Ri hm) hq
 iter:=fun A s hh hm=>⟨{ cls:= .type "set_iterator",data:= .fields #[.int 0 0,.int 0 0,.ref d,.int ps.length 0,.int ep 0] },_,fun E Q hq=>pN hm hq,
  iO hh (ne_of_lt (XM hm)),⟨⟨_,get?_push_size _ rfl,rfl,by
   have:Ec w t 0=0:=by unfold Ec placeOf;split <;> rfl
   rw[this];rfl⟩,hm.keeps fun o e=>get?_push_of_some _ e⟩⟩
end
section
variable {P:Program}{w:World}{A:Around}{E:Value->Shared->Prop}{s:Shared}{hf:Nat->Int}{d:Addr}{ps:List Pt}{t:SetTable}{ep:Nat}
theorem bP {R:List Value->Shared->Prop}(hh:A.handled=none)(hS0:BI hf s.heap d ps (!CG w) t ep)(hn:ps.length<=sizeLine)
  (h:∀(h':Heap) (tk:Nat) (acc:Array Value),(∀b ob,s.heap.get? b=some ob->h'.get? b=some ob)->s.heap.objs.size<=h'.objs.size->ItemsOf (fun i v=>∃e,(orderOf w d ep (ps.map (ent hf)))[i]? =some e/\v=e.2) acc ps.length->R acc.toList { s with heap:=h',toks:=tk }):
  wpAny (model P w) A (collect (.ref d)) R E s:=by
 have src:=uP (P:=P) (w:=w) (hf:=hf) (d:=d) (ps:=ps) (t:=t) (ep:=ep);have hd:=XM hS0;unfold collect;refine wpAny_bind (wpAny_runValue ?_);refine codeAny_builtin entry_proto_collect' ?_;rw[Around.under_plainId PySem.F.plain_proto_collect _];show wpAny _ A.in1 (do let l <- newList [];again (.builtin "list.__iadd__" ⟨[l,.ref d],[]⟩)) _ _ s;refine wpAny_bind (wpAny_newObj_type (wpAny_pure ⟨plainId_quiet plain_list_iadd _,?_⟩));refine codeAny_builtin entry_list_iadd' ?_;rw[Around.under_plainId plain_list_iadd _];generalize hS:s.heap.objs.size=S at h hd;generalize hg:s.heap.push { cls:= .type "list",data:= .seq ([]:List Value).toArray }=g;have gS:g.get? S=some { cls:= .type "list",data:= .seq #[] }:=by rw[<- hg, <- hS];exact get?_push_size _ rfl
 have gk:∀b ob,s.heap.get? b=some ob->g.get? b=some ob:=fun b ob e=>by rw[<- hg];exact get?_push_of_some _ e
 have nSd:S≠d:=Nat.ne_of_gt hd;show wpAny _ A.in1 (Builtin.List.listExtendWith (.ref S) (.ref d) (.ref S)) _ _ { s with heap:=g };have done:∀(h':Heap) (tk:Nat) (acc:Array Value) (c':Nat),(∀b ob,b≠S->g.get? b=some ob->h'.get? b=some ob)->h'.get? S=some { cls:= .type "list",dict:=none,data:= .seq acc c',slots:= #[] }->
   ItemsOf (fun i v=>∃e,(orderOf w d ep (ps.map (ent hf)))[i]? =some e/\v=e.2) acc ps.length->wpAny (model P w) A (load S >>= fun ob=>match ob.data with | .seq xs _=>pure xs.toList | _=>unsupported "internal:collect") R E { s with heap:=h',toks:=tk }:=fun h' tk acc c' k1 k2 k3=>
  wpAny_bind (wpAny_load k2 (wpAny_pure (h h' tk acc (fun b ob e=>k1 b ob (by rw[<- hS];exact ne_of_lt (lt_size e)) (gk b ob e)) (Nat.le_of_lt (lt_size k2)) k3)))
 have key:=kdl_extend (A:=A) (s:={ s with heap:=g }) (R:=fun (q:Result) (s':Shared)=>q= .ok (.ret (.ref S))/\wpAny (model P w) A (load S >>= fun ob=>match ob.data with | .seq xs _=>pure xs.toList | _=>unsupported "internal:collect") R E s')
  src hh (hS0.keeps fun ob e=>gk d ob e) S nSd nSd (.ref S) 0 gS (fun h' tk acc c' k1 k2 k3=>⟨rfl,done h' tk acc c' k1 k2 k3⟩) hn
 refine wpAny_mono key (fun fin s' x=>?_) fun e s' x=>by cases x.1
 cases fin with
 |done f=>
  obtain ⟨e,x⟩:=x;cases e;exact x
 |again c=>
  refine ⟨x.1,codeAny_mono x.2 fun q s2 y=>?_⟩;obtain ⟨rfl,y⟩:=y;exact y
theorem cX {shape:Nat->Bool}{Q:Value->Shared->Prop}(hh:A.handled=none)(hS0:BI hf s.heap d ps (!CG w) t ep)(hn:ps.length<=sizeLine)
  {fs:List Value} (ht:TupsOf s.heap shape ((orderOf w d ep (ps.map (ent hf))).map (·.2)) fs) (hk:∀v∈(orderOf w d ep (ps.map (ent hf))).map (·.2), ∃l,PyProof.Rows.G.tupKeyC s.heap shape v=some l)
  (h:∀(h':Heap) (tk:Nat) (D:Addr) (out:Array Value) (e':Nat),(∀b ob,s.heap.get? b=some ob->h'.get? b=some ob)->s.heap.objs.size<=D->h'.get? D=some (seqObj "list" out e')->out.toList.Perm ((orderOf w d ep (ps.map (ent hf))).map (·.2))->
   (out.toList.Pairwise fun x y=>lexLt itemOrd ((PyProof.Rows.G.tupKeyC s.heap shape y).getD []) ((PyProof.Rows.G.tupKeyC s.heap shape x).getD [])=false)->Q (.ref D) { s with heap:=h',toks:=tk }):
  wpAny (model P w) A (call (.builtin "sorted") [.ref d]) Q E s:=by
 refine Calls.call_function_entry kind_sorted plain_sorted entry_sorted (args_sorted1 _) ?_;unfold Builtin.«sorted»;refine wpAny_bind (m:=checkCount "sorted" 1 1 _) (wpAny_pure ?_);refine wpAny_bind (bP (A:=A.in1) hh hS0 hn fun h1 tk acc keep px qD=>?_);have hlen:=(DG w d ep (ps.map (ent hf))).length_eq;rw[length_map]at hlen;have hl:acc.toList=(orderOf w d ep (ps.map (ent hf))).map (·.2):=by
  apply List.ext_getElem?;intro i;rw[getElem?_map,getElem?_toList];cases e:acc[i]? with
  |some v=>
   obtain ⟨en,h1,h2⟩:=qD.2 i v e;rw[h1,h2];rfl
  |none=>
   have:(orderOf w d ep (ps.map (ent hf)))[i]? =none:=by
    rw[Array.getElem?_eq_none_iff]at e;rw[List.getElem?_eq_none_iff,hlen, <- qD.1];exact e
   rw[this];rfl
 rw[hl];generalize hvs:(orderOf w d ep (ps.map (ent hf))).map (·.2)=vs at *;have zJ:vs.length<=sizeLine:=by rw[<- hvs,length_map,hlen];exact hn
 refine wpAny_bind (wpAny_newList ?_ zJ);have um:(h1.push (seqObj "list" vs.toArray 0)).get? h1.objs.size=some (seqObj "list" vs.toArray 0):=get?_push_size _ rfl;have k2:∀b ob,s.heap.get? b=some ob->(h1.push (seqObj "list" vs.toArray 0)).get? b=some ob:=fun b ob e=>get?_push_of_some _ (keep b ob e);have kt:PyProof.Rows.G.KeepsTups s.heap (h1.push (seqObj "list" vs.toArray 0)):=fun b ob e _=>k2 b ob e;show wpAny _ _ _ _ _ { s with heap:=h1.push (seqObj "list" vs.toArray 0),toks:=tk };refine wpAny_bind (wpAny_holding (wpAny_call_entry slot_list_sort ⟨_,um,rfl⟩ entry_list_sort (PyProof.Rows.G.list_sort_tups (s:={ s with heap:=h1.push (seqObj "list" vs.toArray 0),toks:=tk }) (shape:=shape) um (PyProof.Rows.G.TupsOf.keep kt ht)
  (fun v hv=>let ⟨l,e⟩:=hk v hv;⟨l,Fn kt e⟩) zJ fun Ja a1 a2 a3=>⟨_,rfl,?_⟩) (args_list_sort _)))
 refine wpAny_pure ⟨_,rfl,?_⟩;obtain ⟨e',hD⟩:=sortedHeap_at (out:=(arrOf Ja).map (·.2)) um;have C2:∀b ob,s.heap.get? b=some ob->b<h1.objs.size:=fun b ob e=>lt_size (keep b ob e);have hp:(arrOf Ja).toList.Perm (vs.zip vs):=by
  have:=a1;rw[<- pairsOf_toList];exact Array.perm_iff_toList_perm.mp this
 have wU:∀p∈(arrOf Ja).toList,p.1=p.2/\p.1∈vs:=fun p hp'=>mem_zip_self (hp.mem_iff.mp hp');refine h _ tk h1.objs.size _ e' (fun b ob e=>?_) ?_ hD ?_ ?_
 ·rw[sortedHeap_old (ne_of_lt (C2 b ob e)) (lt_size (k2 b ob e))];exact k2 b ob e
 ·exact px
 ·rw[toList_map];have:=hp.map (·.2);rw[List.map_snd_zip (by simp)]at this;exact this
 ·rw[toList_map,pairwise_map,List.pairwise_iff_getElem];intro i j hi hj hij;have hsz:(arrOf Ja).toList.length=vs.length:=by rw[hp.length_eq];simp
  have q:=a2 i j (Nat.le_of_lt hij) (by rw[pairsOf_size, <- hsz];exact hj);have kk:∀(i:Nat) (hi:i<(arrOf Ja).toList.length),KK (PyProof.Rows.G.tupKindC (h1.push (seqObj "list" vs.toArray 0)) shape) (arrOf Ja) i=(PyProof.Rows.G.tupKeyC s.heap shape (arrOf Ja).toList[i].2).getD []:=fun i hi=>by
   unfold KK;have hx:(arrOf Ja)[i]? =some (arrOf Ja).toList[i]:=by
    rw[<- getElem?_toList,getElem?_eq_getElem hi]
   rw[hx];have hm:=wU _ (getElem_mem hi);obtain ⟨l,el⟩:=hk _ hm.2;show ((PyProof.Rows.G.tupKeyC (h1.push (seqObj "list" vs.toArray 0)) shape (arrOf Ja).toList[i].1).getD [])=_;rw[Fn kt el, <- hm.1,el]
  rw[kk i hi,kk j hj]at q;exact q
end
section
variable {P:Program}{w:World}{A:Around}{E:Value->Shared->Prop}{s:Shared}{hf:Nat->Int}{kf:Nat->List Key}{D:Nat->Prop}
abbrev Cg (w:World):Obj:={ cls:= .type "set",dict:=none,data:= .set #[] 0 (.fresh 0 0 (!(w.params.followText "set-order"))) }
theorem YZ (a:Value){Q₁:Value->Shared->Prop}(h:Q₁ (.ref s.heap.objs.size) { s with heap:=s.heap.push (Cg w) }):
  codeAny (model P w) A (.call (.builtin "set.__new__") ⟨[.type "set",a],[]⟩) (wants Q₁ E) s:=by
 refine codeAny_of_tree ?_;show wpAny _ A.in1 (do checkBuiltinCall "set.__new__" ⟨[.type "set",a],[]⟩;again (.builtin "set.__new__" ⟨[.type "set",a],[]⟩)) _ _ s;refine wpAny_bind (wpAny_of_eq (PySem.F.newCall_set_1 a) (wpAny_pure ⟨plainId_quiet plain_set_new _,codeAny_builtin PySem.F.entry_set_new ?_⟩));rw[Around.under_plainId plain_set_new _];unfold Builtin.«set.__new__» newClass;have uf:=sub_set_self;obtain ⟨hp,g,d,tk,os⟩:=s;dsimp only
 wp_walk
 refine wpAny_askSetting (wpAny_pure ?_);dsimp only;simp only[newObj];refine wpAny_bind (wpAny_alloc (wpAny_pure ?_));exact wpAny_pure h
theorem qE {h:Heap}{a:Addr}(e:h.get? a=some (Cg w)):GS P w hf kf D h a []:=
 ⟨⟨_,0,⟨⟨_,e,⟨rfl,rfl,rfl⟩,rfl⟩,Tab.fresh ..,rfl,rfl⟩,(by show 0*5<7*3;decide)⟩,by simp,by simp⟩
theorem VR {l:Addr}{xs:List Pt}{Q:Value->Shared->Prop}(M:Dm hf kf D)(hu:A.in1.in1.units<cLine)(hl:DictAt P w hf kf D s.heap l xs)(lo:(l==sysModules)=false)(hz:xs.length<=200)
  (h:∀(h':Heap) CY,GS P w hf kf D h' s.heap.objs.size CY->B3 [] xs CY->(∀b o,s.heap.get? b=some o->h'.get? b=some o)->Q (.ref s.heap.objs.size) { s with heap:=h' }):
  wpAny (model P w) A (call (.type "set") [.ref l]) Q E s:=by
 obtain ⟨c,tl,AIR⟩:=called_set.mro;have AGF:=called_set.made;have uf:=called_set.sub;refine wpAny_call (codeAny_of_tree ?_);show wpAny _ _ (callAny (.type "set") _) _ _ _;refine wpAny_pure ⟨Code.quiet_builtin _ (by decide+kernel),codeAny_builtin PySem.F.entry_type_call ?_⟩;rw[Around.under_plain (weight_type_call_type "set" [.ref l] []) rfl];have h1:=called_set.notType;have h2:=called_set.canCreate;have hct:=PySem.F.typeCall_set_1 (.ref l)
 repeat (any_goals (first | assumption | wp_step))
 refine codeAny_mono (YZ (.ref l) (E:=E) (Q₁:=fun obj Bq=>obj= .ref s.heap.objs.size/\Bq={ s with heap:=s.heap.push (Cg w) }) ⟨rfl,rfl⟩) fun r Bq hr=>?_;cases r with
 |error e=>exact hr
 |ok fl=>
  cases fl with
  |ret obj=>
   obtain ⟨rfl,rfl⟩:=hr;have hS:(s.heap.push (Cg w)).get? s.heap.objs.size=some (Cg w):=get?_push_size _ rfl;have hT:Shared.TypeIs { s with heap:=s.heap.push (Cg w) } (.ref s.heap.objs.size) "set":=⟨_,hS,rfl⟩;have hli:=called_set.init.lookup;have hbi:=called_set.init.bind (.ref s.heap.objs.size)
   repeat (any_goals (first | assumption | wp_step))
   refine codeAny_mono (codeAny_call_builtin (R:=wants (fun r F0=>r= .none/\∃h' CY,F0={ s with heap:=h' }/\
     GS P w hf kf D h' s.heap.objs.size CY/\B3 [] xs CY/\(∀b o,s.heap.get? b=some o->h'.get? b=some o)) E) called_set.init.plain PySem.F.entry_set_init (check_set_init_1 hT ?_)) fun AC2 F0 pV=>?_
   ·have G0:GS P w hf kf D (s.heap.push (Cg w)) s.heap.objs.size []:=qE hS;have D0:DictAt P w hf kf D (s.heap.push (Cg w)) l xs:=by
     isplit;obtain ⟨o,es,ep,q1,q2⟩:=hl.ex;kl_no;exact ⟨⟨o,es,ep,get?_push_of_some _ q1,q2⟩,fun p hp=>⟨EQ (fun o e=>get?_push_of_some _ e) (hl.tup p hp).1,(hl.tup p hp).2⟩⟩
    have S0:BI hf (s.heap.push (Cg w)) s.heap.objs.size [] (!(w.params.followText "set-order")) (.fresh 0 0 (!(w.params.followText "set-order"))) 0:=⟨⟨_,hS,⟨rfl,rfl,rfl⟩,rfl⟩,Tab.fresh ..,rfl,rfl⟩;unfold Builtin.«set.__init__» noKeywords;generalize hUF:updateFrom=UF;generalize hSU:setUsed=SU
    wp_walk
    subst hSU hUF;unfold setUsed;refine wpAny_bind (A3 S0 (wpAny_pure ?_));show wpAny _ _ (updateFrom "set.__init__" s.heap.objs.size (.ref l) >>= fun _=>ret Value.none) _ _ _;refine wpAny_bind (uw (s:={ s with heap:=s.heap.push (Cg w) }) M hu G0 D0 lo hz fun h' CY k1 k2 k3=>wpAny_pure ⟨rfl,h',CY,rfl,k2,k3,fun b o e=>?_⟩);rw[k1.2 b (ne_of_lt (lt_size e))];exact get?_push_of_some _ e
   ·cases AC2 with
    |error e=>exact pV
    |ok ABY=>
     cases ABY with
     |ret r=>
      isplit;obtain ⟨rfl,h',CY,rfl,q1,q2,q3⟩:=pV;kl_no
      repeat (any_goals (first | assumption | wp_step))
      exact h _ _ q1 q2 q3
     |_=>exact pV.elim
  |_=>exact hr.elim
theorem On {a:Addr}{ps:List Pt}{Q:Bool->Shared->Prop}(G:GS P w hf kf D s.heap a ps)(h:Q true s):wpAny (model P w) A (isAnySet (.ref a)) Q E s:=by
 obtain ⟨t,ep,S,_⟩:=G.ex;obtain ⟨o,h1,h2,_⟩:=S.ex;have hT:s.TypeIs (.ref a) "set":=⟨o,h1,h2.1⟩;unfold isAnySet orM;refine wpAny_bind (wpAny_isInstance hT sub_set_self ?_);exact wpAny_pure h
theorem qt {a:Addr}{ps:List Pt}{Q:Value->Shared->Prop}(M:Dm hf kf D)(hu:A.units<cLine)(G:GS P w hf kf D s.heap a ps)
  (h:∀(h':Heap) CY,GS P w hf kf D h' s.heap.objs.size CY->B3 [] ps CY->(∀b o,s.heap.get? b=some o->h'.get? b=some o)->Q (.ref s.heap.objs.size) { s with heap:=h' }):
  wpAny (model P w) A (copyOf a) Q E s:=by
 obtain ⟨t,ep,S,_⟩:=G.ex;obtain ⟨o,h1,h2,_⟩:=S.ex;have hT:s.TypeIs (.ref a) "set":=⟨o,h1,h2.1⟩;unfold copyOf baseOf;refine wpAny_bind (wpAny_bind (wpAny_isInstance hT sub_set_self (wpAny_pure ?_)));simp only[if_true];refine wpAny_bind (yV (hf:=hf) (kf:=kf) (D:=D) fun G0=>?_);refine wpAny_bind (m:=addrOf _) (wpAny_pure ?_);have Gb:GS P w hf kf D (s.heap.push (Cg w)) a ps:=G.keep fun b o e=>get?_push_of_some _ e;refine wpAny_bind (a7 (s:={ s with heap:=s.heap.push (Cg w) }) M hu (Nat.ne_of_gt (lt_size h1)) G0 Gb (fun _ _ _ s' Q' _ q=>wpAny_pure q) fun h' CY k1 k2 k3=>wpAny_pure (h h' CY k2 k3 fun b o e=>?_));rw[k1.2 b (ne_of_lt (lt_size e))];exact get?_push_of_some _ e
theorem jk {id:String}{a b:Addr}{ps pb:List Pt}{Q:Unit->Shared->Prop}(M:Dm hf kf D)(hu:A.units<cLine)(Wh:a≠b)(G:GS P w hf kf D s.heap a ps)(Gb:GS P w hf kf D s.heap b pb)
  (h:∀h' CY,Heap.SameBut a s.heap h'->GS P w hf kf D h' a CY->B3 ps pb CY->Q () { s with heap:=h' }):
  wpAny (model P w) A (updateFrom id a (.ref b)) Q E s:=by
 unfold updateFrom;refine wpAny_bind (On Gb ?_);simp only[if_true];refine wpAny_bind (m:=addrOf _) (wpAny_pure ?_);unfold merge setEpoch;obtain ⟨t,ep,S,_⟩:=Gb.ex;refine wpAny_bind (wpAny_bind (A3 S (wpAny_pure ?_)));refine a7 M hu Wh G Gb (fun tb eb Sb s' Q' S' q=>?_) h;have e:eb=ep:=by
  obtain ⟨o1,x1,_,x3⟩:=S.ex;obtain ⟨o2,y1,_,y3⟩:=Sb.ex;rw[x1]at y1;cases y1;rw[x3]at y3;injection y3 with _ z _
  exact z.symm
 subst e;unfold unchanged setEpoch;refine wpAny_bind (wpAny_bind (A3 S' (wpAny_pure ?_)));rw[if_neg (by simp)];exact wpAny_pure q
theorem xR {a b:Addr}{ps pb:List Pt}{Q:Value->Shared->Prop}(M:Dm hf kf D)(hu:A.in1.units<cLine)(Wh:a≠b)(G:GS P w hf kf D s.heap a ps)(Gb:GS P w hf kf D s.heap b pb)
  (h:∀(h':Heap) CY,GS P w hf kf D h' s.heap.objs.size CY->(∀p∈CY,p∈ps\/p∈pb)->(∀c,c∈CY.map (·.2)↔(c∈ps.map (·.2)\/c∈pb.map (·.2)))->(∀b o,s.heap.get? b=some o->h'.get? b=some o)->Q (.ref s.heap.objs.size) { s with heap:=h' }):
  wpAny (model P w) A (binaryOp .BitOr (.ref a) (.ref b)) Q E s:=by
 obtain ⟨t,ep,S,_⟩:=G.ex;obtain ⟨o,h1,h2,_⟩:=S.ex;have hT:s.TypeIs (.ref a) "set":=⟨o,h1,h2.1⟩;obtain ⟨tb,eb,Sb,_⟩:=Gb.ex;obtain ⟨ob,g1,g2,_⟩:=Sb.ex;have hTb:s.TypeIs (.ref b) "set":=⟨ob,g1,g2.1⟩;refine wpAny_binaryOp_same hT hTb PySem.F.fills_set_or slot_set_or (wpAny_call_entry slot_set_or hT YQ ?_ (PySem.F.args_set_or_2 _ _));show wpAny _ A.in1 (slot1 "__or__" ⟨[.ref a,.ref b],[]⟩ >>= _) _ _ s;refine wpAny_bind (m:=slot1 "__or__" _) (wpAny_bind (m:=slotArgs "__or__" 1 _) (wpAny_pure (wpAny_pure ?_)));show wpAny _ A.in1 (andM (isAnySet (.ref a)) (isAnySet (.ref b)) >>= _) _ _ s;refine wpAny_bind ?_;unfold andM;refine wpAny_bind (On G ?_);show wpAny _ _ (isAnySet (.ref b)) _ _ s;refine On Gb ?_;show wpAny _ A.in1 (addrOf (.ref a) >>= _) _ _ s;refine wpAny_bind (m:=addrOf _) (wpAny_pure ?_);refine wpAny_bind ?_;show wpAny _ A.in1 (copyOf a >>= _) _ _ s;refine wpAny_bind (qt M hu G fun h3 p3 k1 k2 k3=>?_);have Ml:(Value.ref b != Value.ref a)=true:=by simpa using fun e=>Wh e.symm
 show wpAny _ A.in1 (if (Value.ref b != Value.ref a)=true then _ else _) _ _ _;rw[if_pos Ml];have C2:b<s.heap.objs.size:=lt_size g1;refine wpAny_bind (m:=addrOf _) (wpAny_pure ?_);refine wpAny_bind (wpAny_holding ?_);refine jk (s:={ s with heap:=h3 }) M hu (Nat.ne_of_gt C2) k1 (Gb.keep k3) fun h4 p4 j1 j2 j3=>?_;refine wpAny_pure (wpAny_pure ⟨_,rfl,by simp,?_⟩);have jj:=k2.trans j3;refine h h4 p4 j2 (fun p hp=>?_) (fun c=>?_) fun b o e=>?_
 ·rcases jj.1 p hp with z | z
  ·cases z
  ·exact mem_append.mp z
 ·rw[jj.2];simp
 ·rw[j1.2 b (ne_of_lt (lt_size e))];exact k3 b o e
end
theorem kL (P:Program)(w:World):∃hf:Nat->Int,Dm hf A8 Aw/\∀c,(tupleKind (Ah P w)).hash (A8 c)=hf c:=
 ⟨QO,⟨fun h1 h2 e=>Wf h1 h2 e,fun {c} _=>⟨_,_,rfl⟩,fun {l} nd h=>by
  have:=RU (b:=range' 11 199) nd fun c hc=>by
   have:=(h c hc).parts;rw[List.mem_range'_1];omega
  rw[List.length_range']at this;omega⟩,fun c=>Tk P w c⟩
def TS (w:World)(hf:Nat->Int)(a:Addr)(ps:List Pt):HO:= .ext fun h=>∃t ep,BI hf h a ps (!(w.params.followText "set-order")) t ep/\ps.length*5<t.mask*3
structure vt (H:Hp)(ps:List Pt):Prop where
 th:∀x∈ps,Ai H x.1 x.2/\Aw x.2
 nd:(ps.map (·.2)).Nodup
theorem Vi {X:Cx}{pins:List (Addr×Obj)}{σ:L2.St}{H:Hp}{s:Shared}{b:Addr}{c:Nat}(I:Inv X pins σ H s)(h:Ai H b c):IsTupleKey (Ah X.prog X.w) s.heap (A8 c) b:=by
 obtain ⟨_,A1,rv,o,h1,h2,n,h3⟩:=I.BL b _ h;obtain ⟨u,v,rfl,⟨t,rfl⟩,⟨t',rfl⟩⟩:=Vals.two rv;exact ⟨o,_,n,h1,h2,h3,.cons (KI _ _ _ _) (.cons (KI _ _ _ _) .nil)⟩
theorem mX {X:Cx}{pins:List (Addr×Obj)}{σ:L2.St}{H:Hp}{s:Shared}{hf:Nat->Int}{D:Nat->Prop}{kf:Nat->List Key}{h':Heap}{ps:List Pt}(I:Inv X pins σ H s)(keep:∀b o,s.heap.get? b=some o->h'.get? b=some o)(G:GS X.prog X.w hf kf D h' s.heap.objs.size ps):
  Inv X pins σ (upd H s.heap.objs.size (TS X.w hf s.heap.objs.size ps)) { s with heap:=h' }:=by
 refine I.laid (t':=s.toks) keep (Nat.le_refl _) ⟨G.ex,?_,fun h1 h2 ⟨t,ep,S,l⟩ k=>⟨t,ep,S.keeps k,l⟩⟩;obtain ⟨t,ep,S,_⟩:=G.ex;obtain ⟨o,h1,_⟩:=S.ex;exact ⟨o,h1⟩
theorem fT {X:Cx}{pins:List (Addr×Obj)}{σ:L2.St}{H:Hp}{s:Shared}{hf:Nat->Int}{a:Addr}{ps:List Pt}(I:Inv X pins σ H s)(h:H a=some (TS X.w hf a ps))(T:vt H ps):GS X.prog X.w hf A8 Aw s.heap a ps:=
 ⟨(I.BL a _ h).1,fun p hp=>⟨Vi I (T.th p hp).1,(T.th p hp).2⟩,T.nd⟩
theorem Wq {X:Cx}{hf:Nat->Int}{w:World}(hw:X.w=w)(M:Dm hf A8 Aw)(hk:∀c,(tupleKind (Ah X.prog X.w)).hash (A8 c)=hf c)(hu:X.A.units+10<cLine):Fm X (.type "set") (fun xs H Q=>∃(a:Addr) (AV:List (List Key×V)) (cs:List Nat),xs=[.ref a]/\H a=some (.dT AV)/\Paired (fun p c=>p.1=A8 c) AV cs/\(∀c∈cs,Aw c)/\cs.length<=200/\
  ∀(p:Addr) (ps:List Pt),H p=none->vt H ps->(∀c,c∈ps.map (·.2)↔c∈cs)->Q (.ref p) (upd H p (TS w hf p ps))):=by
 subst hw;intro pins s σ H xs us Q I r h;obtain ⟨a,AV,cs,rfl,ha,aq,hth,hz,q⟩:=h;rw[Vals.Zb r];isplit;obtain ⟨hz0,dj,ks,rel,o,es,ep,e1,e2,e3,e4,e5⟩:=I.BL a _ ha;kl_no;obtain ⟨xs,p1,p2,p3⟩:∃xs:List Pt,ks.map (fun k=>((tupleKind (Ah X.prog X.w)).hash k.1,Value.ref k.2.1))=xs.map (ent hf)/\xs.map (·.2)=cs/\∀x∈xs,Ai H x.1 x.2:=by
  clear q e5 e4 hz hz0 ha hth;induction rel generalizing cs with
  |nil=>cases aq;exact ⟨[],rfl,rfl,by simp⟩
  |cons x t ih=>
   cases aq with
   |cons y t'=>
    isplit;obtain ⟨ps,q1,q2,q3⟩:=ih _ t';kl_no;rename_i u v _ _ c _;refine ⟨(v.2.1,c)::ps,?_,by rw[map_cons,q2],fun z hz=>?_⟩
    ·rw[map_cons,map_cons,q1, <- x.1,y,hk];rfl
    ·rcases mem_cons.mp hz with w | w
     ·subst w;have:=x.2.1;rw[y]at this;exact this
     ·exact q3 z w
 have hxl:xs.length=cs.length:=by rw[<- p2,length_map]
 have DA:DictAt X.prog X.w hf A8 Aw s.heap a xs:=by
  refine ⟨⟨o,es,ep,e1,e2,e3,?_⟩,fun p hp=>⟨Vi I (p3 p hp),hth _ (by rw[<- p2];exact List.mem_map_of_mem hp)⟩⟩;rw[e4,map_map, <- p1];rfl
 refine VR M (by show X.A.units+1+1<cLine;omega) DA dj (by omega) fun h' CY G J keep=>?_;have hp:=I.BL.fresh (Nat.le_refl s.heap.objs.size);refine ⟨.ref _,_,mX I keep G,rfl,q _ CY hp ⟨fun x hx=>?_,G.nd⟩ fun c=>?_⟩
 ·rcases J.1 x hx with z | z
  ·cases z
  ·exact ⟨p3 x z,hth _ (by rw[<- p2];exact List.mem_map_of_mem z)⟩
 ·rw[J.2,p2];simp
theorem xS {X:Cx}{hf:Nat->Int}{w:World}(hw:X.w=w)(M:Dm hf A8 Aw)(hu:X.A.units+10<cLine):Px X (binaryOp .BitOr) (fun x y H Q=>∃(a b:Addr) (pa pb:List Pt),x= .ref a/\y= .ref b/\a≠b/\H a=some (TS w hf a pa)/\H b=some (TS w hf b pb)/\vt H pa/\vt H pb/\
  ∀(p:Addr) (ps:List Pt),H p=none->vt H ps->(∀c,c∈ps.map (·.2)↔(c∈pa.map (·.2)\/c∈pb.map (·.2)))->Q (.ref p) (upd H p (TS w hf p ps))):=by
 subst hw;intro pins s σ H x y v u Q I rx ry h;obtain ⟨a,b,pa,pb,rfl,rfl,Wh,ha,hb,ta,tb,q⟩:=h;cases rx;cases ry;refine xR M (by show X.A.units+1<cLine;omega) Wh (fT I ha ta) (fT I hb tb) fun h' CY G j1 j2 keep=>?_;have hp:=I.BL.fresh (Nat.le_refl s.heap.objs.size);refine ⟨.ref _,_,mX I keep G,rfl,q _ CY hp ⟨fun x hx=>?_,G.nd⟩ j2⟩;rcases j1 x hx with z | z
 ·exact ta.th x z
 ·exact tb.th x z
theorem Yc {X:Cx}{hf:Nat->Int}{w:World}(hw:X.w=w)(M:Dm hf A8 Aw)(Ys:X.calm=true):Fm X (.builtin "sorted") (fun xs H Q=>∃(a:Addr) (ps:List Pt),xs=[.ref a]/\H a=some (TS w hf a ps)/\vt H ps/\
  ∀(p:Addr) (bs:List Addr),H p=none->Paired (fun b c=>Ai H b c) bs (rising (ps.map (·.2)))->Q (.ref p) (upd H p (.lst (bs.map V.ref)))):=by
 subst hw;intro pins s σ H xs us Q I r h;obtain ⟨a,p0,rfl,ha,T,q⟩:=h;rw[Vals.Zb r];have hsm:p0.length<=200:=(fT I ha T).small M;obtain ⟨t,ep,S,_⟩:=(fT I ha T).ex;obtain ⟨ps,x1,x2⟩:=Kx (DG X.w a ep (p0.map (ent hf))) p0 rfl;have p3:∀x∈ps,Ai H x.1 x.2:=fun x hx=>(T.th x (x1.mem_iff.mp hx)).1;have N9:(orderOf X.w a ep (p0.map (ent hf))).map (·.2)=ps.map fun x=>Value.ref x.1:=by
  rw[x2,map_map];rfl
 obtain ⟨fs,ht⟩:∃fs,TupsOf s.heap (fun _=>false) (ps.map fun x=>Value.ref x.1) fs:=by
  clear N9 x1 x2;induction ps with
  |nil=>exact ⟨[],.nil⟩
  |cons x r ih=>
   obtain ⟨fs,hf⟩:=ih fun y hy=>p3 y (mem_cons_of_mem _ hy);obtain ⟨⟨f,ht⟩,_⟩:=Kt I (p3 x (mem_cons_self ..));exact ⟨f::fs,.cons ht hf⟩
 have hk:∀x∈ps,PyProof.Rows.G.tupKeyC s.heap (fun _=>false) (Value.ref x.1)=some [Sum.inl ((x.2 / 10:Nat):Int),Sum.inl ((x.2 % 10:Nat):Int)]:=fun x hx=>(Kt I (p3 x hx)).2;refine cX (shape:=fun _=>false) (I.ok.hd Ys) S (by rw[sizeLine_eq];omega) (fs:=fs) (by rw[N9];exact ht) (fun v hv=>?_) fun h' tk D out e' keep hD yH N8 Gy=>?_
 ·rw[N9]at hv;obtain ⟨x,hx,rfl⟩:=mem_map.mp hv;exact ⟨_,hk x hx⟩
 ·rw[N9]at N8;obtain ⟨ys,y1,y2⟩:=Kx N8 ps rfl;have hDn:H D=none:=I.BL.fresh hD;have pR:∀x∈ys,x∈ps:=fun x hx=>y1.mem_iff.mp hx;have dn:ys.map (·.2)=rising (p0.map (·.2)):=by
   refine G7 ((y1.trans x1).map _) ?_;rw[y2,pairwise_map]at Gy;rw[pairwise_map];refine (List.Pairwise.imp_of_mem (R:=fun x y=>lexLt itemOrd ((PyProof.Rows.G.tupKeyC s.heap (fun _=>false) (Value.ref y.1)).getD []) ((PyProof.Rows.G.tupKeyC s.heap (fun _=>false) (Value.ref x.1)).getD [])=false) (fun {x y} hx hy hxy=>?_) Gy);rw[hk x (pR x hx),hk y (pR y hy)]at hxy;exact TM hxy
  have ai:Paired (fun b c=>Ai H b c) (ys.map (·.1)) (rising (p0.map (·.2))):=by
   rw[<- dn];clear dn y2 y1 Gy;induction ys with
   |nil=>exact .nil
   |cons x r ih=>exact .cons (p3 x (pR x (mem_cons_self ..))) (ih fun z hz=>pR z (mem_cons_of_mem _ hz))
  refine ⟨.ref D,upd H D (.lst ((ys.map (·.1)).map V.ref)),I.laid (t':=tk) keep hD ⟨?_,out.toList,e',?_,?_⟩,rfl,q D _ hDn ai⟩
  ·have l1:=(y1.trans x1).length_eq;rw[length_map,length_map,sizeLine_eq];omega
  ·rw[y2];clear dn y2 y1 Gy ai pR;induction ys with
   |nil=>exact .nil
   |cons x r ih=>exact .cons rfl ih
  ·rw[yH]
theorem FG.inKeys {n:Nat}{AV:List (List Key×V)}{l:Values}(h:FG n AV l){cs:List Nat}(hk:AV.map (·.1)=cs.map A8){c:Nat}(hv:valueOf l c≠ []):c∈cs:=by
 have:=IG hv;rw[<- h.filled hk,mem_filter]at this;exact (Au cs).mem_iff.mp this.1
theorem FG.distinct {n:Nat}{AV:List (List Key×V)}{l:Values}(h:FG n AV l){cs:List Nat}(hk:AV.map (·.1)=cs.map A8):cs.Nodup:=by
 have:=h.nd;rw[hk]at this;exact (pairwise_map.mp this).imp fun n e=>n (by rw[e])
theorem Y7 {n m:Nat}{k1 k2:List (List Key×V)}{l1 l2:Values}(h1:FG n k1 l1)(h2:FG m k2 l2){c1 c2 cs:List Nat}(e1:k1.map (·.1)=c1.map A8)(e2:k2.map (·.1)=c2.map A8)(nd:cs.Nodup)(mem:∀c,c∈cs↔(c∈c1\/c∈c2)):
  (rising cs).filter (fun c=>decide (valueOf l1 c≠valueOf l2 c))=differing l1 l2:=by
 refine MJ ((Cq nd).filter _) (Hr l1 l2) fun c=>?_;rw[mem_filter,(Au cs).mem_iff,decide_eq_true_eq,HI h1.ok h2.ok,mem];constructor
 ·exact fun z=>z.2
 ·intro z;refine ⟨?_,z⟩;by_cases y:valueOf l1 c=[]
  ·by_cases x:valueOf l2 c=[]
   ·exact absurd (y.trans x.symm) z
   ·exact .inr (h2.inKeys e2 x)
  ·exact .inl (h1.inKeys e1 y)
theorem vt.same {H H':Hp}{ps:List Pt}(h:vt H ps)(s:AW H H'):vt H' ps:=⟨fun x hx=>⟨s _ _ (h.th x hx).1,(h.th x hx).2⟩,h.nd⟩
theorem xF {a b:List Nat}:decide (V.str (S a)=V.str (S b))=decide (a=b):=by
 apply decide_eq_decide.mpr;exact ⟨fun h=>Ud (V.str.inj h),fun h=>by rw[h]⟩
section
variable {P:Program}{w:World}{K:PySem.W.Frag}{mg:Str->Option Value}{base:Heap}
theorem Vp:AT ["before","after","named","thing"] ["before","after"] (AO FK):=⟨rfl,rfl,rfl,by decide+kernel,rfl,by decide+kernel,by decide+kernel⟩
theorem jP {f:Addr}{fd:FuncData}(F:CB K "unlike_things" "unlike_things" FK f fd)(bs:mg "set"=none)(bso:mg "sorted"=none):AR P w K mg base As 1 f fd ["before","after"] Oh:=by
 obtain ⟨hf,M,hk⟩:=kL P w;refine F.ok Vp (fun vs H Q E h=>?_) (fun BM A outer s H vs Q E hr h=>?_)
 ·obtain ⟨d,e,n,l,m,rfl,_⟩:=h;rfl
 ·obtain ⟨d,e,n,l,m,rfl,⟨k1,hd,h1⟩,⟨k2,he,h2⟩,hn,q⟩:=h;have nd:=Vp.nd;have hu:=N7 hr;have gW:=Nat.lt_of_le_of_lt (Nat.add_le_add_left (by decide:10<=64) _) hr.units;refine ⟨_,AF (AZ (i:=2) nd rfl (Or.inl rfl) (Aa (Yc (w:=w) rfl M rfl) (by rfl) bso boot_sorted (AA (CI (xS (w:=w) rfl M gW) (Cr (Wq (w:=w) rfl M hk gW) (by rfl) bs boot_set (AA (pv 0) AC)) (Cr (Wq (w:=w) rfl M hk gW) (by rfl) bs boot_set (AA (pv 1) AC))) AC)))
   (AG (AQ (GD (own:= [("thing",3)]) rfl nd (BF (pv 2)) (Bn (by kernel_rfl)) (fun _ _ _ _ _=>A2 (i:=3) nd rfl (Or.inl rfl))
    (fun _ _ _ _ _=>IX (Al SY (EK hu (pv 0) (pv 3) Bl ⟨rfl,rfl,rfl,rfl⟩) (EK hu (pv 1) (pv 3) Bl ⟨rfl,rfl,rfl,rfl⟩) (Av _))) (fun _ _ _ _ _=>pv 3)))),?_⟩
  isplit;obtain ⟨c1,a1,a2,a3,a4⟩:=h1.keys;kl_no;isplit;obtain ⟨c2,b1,b2,b3,b4⟩:=h2.keys;kl_no;refine ⟨_,rfl,d,k1,c1,rfl,hd,a1,a4,M.len (h1.distinct a2) a4,fun p1 ps1 n1 T1 m1=>?_⟩;have s1:AW H (upd H p1 (TS w hf p1 ps1)):=AJ n1;have g1:(upd H p1 (TS w hf p1 ps1)) p1=some (TS w hf p1 ps1):=AB;generalize upd H p1 (TS w hf p1 ps1)=H1 at s1 g1;refine ⟨_,rfl,e,k2,c2,rfl,s1 _ _ he,b1,b4,M.len (h2.distinct b2) b4,fun p2 ps2 n2 T2 m2=>?_⟩;have s2:AW H1 (upd H1 p2 (TS w hf p2 ps2)):=AJ n2;have g2:(upd H1 p2 (TS w hf p2 ps2)) p2=some (TS w hf p2 ps2):=AB;generalize upd H1 p2 (TS w hf p2 ps2)=H2 at s2 g2;refine ⟨p1,p2,ps1,ps2,rfl,rfl,AH g1 n2,s2 _ _ g1,g2,T1.same (s1.trans s2),T2.same s2,fun p3 lg n3 T3 m3=>?_⟩;have s3:AW H2 (upd H2 p3 (TS w hf p3 lg)):=AJ n3;have g3:(upd H2 p3 (TS w hf p3 lg)) p3=some (TS w hf p3 lg):=AB;generalize upd H2 p3 (TS w hf p3 lg)=H3 at s3 g3;refine ⟨p3,lg,rfl,g3,T3.same s3,fun p bs n4 ax=>?_⟩;have hul:=Y7 h1 h2 a2 b2 T3.nd (fun c=>by rw[m3,m1,m2]);have hi:∀c∈rising (lg.map (·.2)),Aw c:=fun c hc=>by
   have:=(Au _).mem_iff.mp hc;obtain ⟨x,hx,rfl⟩:=mem_map.mp this;exact (T3.th x hx).2
  have hlen:(rising (lg.map (·.2))).length<=200:=by
   rw[(Au _).length_eq];exact M.len T3.nd fun c hc=>hi c ((Au _).mem_iff.mpr hc)
  generalize rising (lg.map (·.2))=cs at ax hul hi hlen;have s4:AW H3 (upd H3 p (.lst (bs.map V.ref))):=AJ n4;have g4:(upd H3 p (.lst (bs.map V.ref))) p=some (.lst (bs.map V.ref)):=AB;generalize upd H3 p (.lst (bs.map V.ref))=H4 at s4 g4;have s5:=((s1.trans s2).trans s3).trans s4;have hb1:=Gr s4 ax;have hl:=BZ hb1;clear ax n4 g3 T3 m3 n3 g2 T2 m2 n2 g1 T1 m1 n1;refine ⟨_,rfl,p,rfl,⟨_,Ao.of g4⟩,fun D hD=>?_⟩;refine DI (K:=K) (a:=p) (xs:=bs.map V.ref) (fun i H'=>∃acc:List Addr,H' D=some (.lst (acc.map V.ref))/\Paired (fun b c=>Ai H4 b c) acc ((cs.take i).filter fun c=>decide (valueOf l c≠valueOf m c))/\acc.length<=i/\AW H4 H')
   ⟨[],AB,.nil,by simp,AJ hD⟩ (fun i H' _ ⟨_,_,_,_,s'⟩=>Ao.of (s' _ _ g4)) ?_ ?_
  ·intro i x H' hx zz;isplit;obtain ⟨acc,Ct,ha,ll,s'⟩:=zz;kl_no;obtain ⟨b,hb,rfl⟩:=J3 hx;obtain ⟨c,hc,kK⟩:=Az hb1 hb;have hci:=hi c (mem_of_getElem? hc);have kt:=TW (p:=fun c=>decide (valueOf l c≠valueOf m c)) hD kK hc Ct ha ll s' (AW.refl _) (by omega);refine ⟨rfl,?_⟩;have s6:=s5.trans s';refine ⟨_,rfl,d,rfl,.inr ⟨k1,.inl (s6 _ _ hd)⟩,_,rfl,_,IA.t (k:=A8 c) (s6 _ _ hd) (s' _ _ kK),?_⟩;rw[h1.get hci];refine ⟨_,rfl,e,rfl,.inr ⟨k2,.inl (s6 _ _ he)⟩,_,rfl,_,IA.t (k:=A8 c) (s6 _ _ he) (s' _ _ kK),?_⟩;rw[h2.get hci];refine ⟨rfl,_,rfl,?_⟩;rw[xF];kpt_hd
   ·refine ⟨_,rfl,kt.1 (decide_eq_true fun y=>?_)⟩;rw[y]at z;simp at z
   ·refine kt.2 (decide_eq_false fun y=>z ?_);simpa using y
  ·intro H' zz;isplit;obtain ⟨acc,Ct,ha,ll,s'⟩:=zz;kl_no;rw[length_map,hl,take_length,hul]at ha;exact q H' D acc (s5.trans s') (s5.free hD) (Gr s' ha) Ct
structure GF (K:PySem.W.Frag)(y x qual:Str)(st:Stmt)(f:Addr):Prop where
 ns:nsIn K mainGlobals y=some (some (.ref f))
 ex:∃(oc:Value) (od:Option Addr) (kV doc pm:Value) (an:Option Addr) (BM ct:Value) (SR:Array (Option Value)),K.lookup f=some ⟨oc,od,.func (fnOf x qual (Fu st) (E4 st) (AO st) .none kV doc pm an BM ct),SR⟩/\codeIn K BM qual=true
 kp:keepIn K (.ref f)=true
structure MF (K:PySem.W.Frag)(C:Addr)(x qual:Str)(st:Stmt)(f:Addr):Prop where
 fi:findIn K (.ref C) x=some (some (.ref f))
 fn:isFn K (.ref f)=true
 ex:∃(oc:Value) (od:Option Addr) (kV doc pm:Value) (an:Option Addr) (BM ct:Value) (SR:Array (Option Value)),K.lookup f=some ⟨oc,od,.func (fnOf x qual (Fu st) (E4 st) (AO st) .none kV doc pm an BM ct),SR⟩/\codeIn K BM qual=true
 kp:keepIn K (.ref f)=true
structure CF (K:PySem.W.Frag)(x:Str)(C:Addr):Prop where
 ns:nsIn K mainGlobals x=some (some (.ref C))
 pg:plainGet K C Str.empty=true
 hd:hasDictIn K C=true
 po:plainOver K C=true
 sa:findIn K (.ref C) "__setattr__"=some (some (.builtin "object.__setattr__"))
 mks:makesIn K C=true
 kc:keepIn K (.ref C)=true
theorem CF.cls {K:PySem.W.Frag}{x:Str}{C:Addr}(c:CF K x C):fP K C:=⟨c.pg,c.hd,c.po,c.sa⟩
theorem GF.fn {K:PySem.W.Frag}{y x qual:Str}{st:Stmt}{f:Addr}(g:GF K y x qual st f):∃fd,CB K x qual st f fd:=by
 obtain ⟨oc,od,kV,doc,pm,an,BM,ct,SR,l,c⟩:=g.ex;exact ⟨_,qI l c g.kp⟩
theorem MF.fun {K:PySem.W.Frag}{C:Addr}{x qual:Str}{st:Stmt}{f:Addr}(g:MF K C x qual st f):∃fd,CB K x qual st f fd:=by
 obtain ⟨oc,od,kV,doc,pm,an,BM,ct,SR,l,c⟩:=g.ex;exact ⟨_,qI l c g.kp⟩
theorem MF.me {K:PySem.W.Frag}{C:Addr}{x qual:Str}{st:Stmt}{f:Addr}(g:MF K C x qual st f):Meth K C x f:=⟨g.fi,g.fn,g.kp⟩
theorem RX {K:PySem.W.Frag}{a:Addr}{o:Obj}{A1:Array Value}{n:Nat}{xs:List V}(l:K.lookup a=some o)(h1:o.cls= .type "tuple")(h2:o.data= .seq A1 n)(hz:A1.size<=sizeLine)(hv:Vals xs A1.toList):∀H,Gi K H a xs:=fun H=> .inr ⟨o,A1,n,l,h1,h2,hz,hv⟩
theorem BR (x:Str)(t:Tok):Value.isStrOf x (.str x t)=true:=by simp[Value.isStrOf]
theorem Cy (x:Str)(t:Tok):RelV (.str x) (.str x t):=⟨t,rfl⟩
theorem Ax (i:Int)(t:Tok):RelV (.int i) (.int i t):=⟨t,rfl⟩
theorem pF {P:Program}{w:World}{K:PySem.W.Frag}{a:Addr}{t0 u0 t1 u1 t2 u2 t3 u3 t4 u4 t5 u5 t6 u6:Tok}{n:Nat}(l:K.lookup a=some ⟨.type "dict",none,.dict #[⟨PyData.keyHash w.params "set",.str "set" t0,.str "TV" u0⟩,⟨PyData.keyHash w.params "clear",.str "clear" t1,.str "T" u1⟩,⟨PyData.keyHash w.params "copy",.str "copy" t2,.str "TU" u2⟩,⟨PyData.keyHash w.params "join",.str "join" t3,.str "TU" u3⟩,⟨PyData.keyHash w.params "swap",.str "swap" t4,.str "TU" u4⟩,⟨PyData.keyHash w.params "need",.str "need" t5,.str "TV" u5⟩,⟨PyData.keyHash w.params "empty",.str "empty" t6,.str "T" u6⟩] n, #[]⟩)(hs:(a==sysModules)=false):iA P w K a Pg:=by
 refine ⟨hs,[(.inr "set",.str "TV" u0),(.inr "clear",.str "T" u1),(.inr "copy",.str "TU" u2),(.inr "join",.str "TU" u3),(.inr "swap",.str "TU" u4),(.inr "need",.str "TV" u5),(.inr "empty",.str "T" u6)],.cons ⟨rfl,Cy _ _⟩ (.cons ⟨rfl,Cy _ _⟩ (.cons ⟨rfl,Cy _ _⟩ (.cons ⟨rfl,Cy _ _⟩ (.cons ⟨rfl,Cy _ _⟩ (.cons ⟨rfl,Cy _ _⟩ (.cons ⟨rfl,Cy _ _⟩ .nil)))))),fun h X=>⟨_,_,_,X _ _ l,⟨rfl,rfl,rfl⟩,rfl,fun e he=>?_,?_,?_⟩⟩
 ·have he:=Array.mem_toList_iff.mpr he;simp only[mem_cons,not_mem_nil,or_false]at he;rcases he with rfl | rfl | rfl | rfl | rfl | rfl | rfl
  ·exact ⟨.inr "set",BR "set" t0,rfl⟩
  ·exact ⟨.inr "clear",BR "clear" t1,rfl⟩
  ·exact ⟨.inr "copy",BR "copy" t2,rfl⟩
  ·exact ⟨.inr "join",BR "join" t3,rfl⟩
  ·exact ⟨.inr "swap",BR "swap" t4,rfl⟩
  ·exact ⟨.inr "need",BR "need" t5,rfl⟩
  ·exact ⟨.inr "empty",BR "empty" t6,rfl⟩
 ·exact .cons (BR "set" t0) rfl (.cons (BR "clear" t1) rfl (.cons (BR "copy" t2) rfl (.cons (BR "join" t3) rfl (.cons (BR "swap" t4) rfl (.cons (BR "need" t5) rfl (.cons (BR "empty" t6) rfl .nil))))))
 ·show ([.inr "set",.inr "clear",.inr "copy",.inr "join",.inr "swap",.inr "need",.inr "empty"]:List Key).Nodup;decide+kernel
theorem B2 {K:PySem.W.Frag}{y x qual:Str}{st:Stmt}{f:Addr}{oc:Value}{od:Option Addr}{kV doc pm:Value}{an:Option Addr}{BM ct:Value}{SR:Array (Option Value)}(a:nsIn K mainGlobals y=some (some (.ref f)))(l:K.lookup f=some ⟨oc,od,.func (fnOf x qual (Fu st) (E4 st) (AO st) .none kV doc pm an BM ct),SR⟩)(c:codeIn K BM qual=true)(k:keepIn K (.ref f)=true):GF K y x qual st f:=⟨a,⟨oc,od,kV,doc,pm,an,BM,ct,SR,l,c⟩,k⟩
theorem CA {K:PySem.W.Frag}{y x qual:Str}{st:Stmt}{f:Addr}{oc:Value}{od:Option Addr}{kV doc pm:Value}{an:Option Addr}{BM ct:Value}{SR:Array (Option Value)}(a:nsIn K mainGlobals y=some (some (.ref f)))(l:K.lookup f=some ⟨oc,od,.func (fnOf x qual (Fu st) (E4 st) (AO st) .none kV doc pm an BM ct),SR⟩)(c:codeIn K BM qual=true)(k:keepIn K (.ref f)=true):∃f,GF K y x qual st f:=⟨f,B2 a l c k⟩
theorem B8 {K:PySem.W.Frag}{C:Addr}{x qual:Str}{st:Stmt}{f:Addr}{oc:Value}{od:Option Addr}{kV doc pm:Value}{an:Option Addr}{BM ct:Value}{SR:Array (Option Value)}(a:findIn K (.ref C) x=some (some (.ref f)))(b:isFn K (.ref f)=true)(l:K.lookup f=some ⟨oc,od,.func (fnOf x qual (Fu st) (E4 st) (AO st) .none kV doc pm an BM ct),SR⟩)(c:codeIn K BM qual=true)(k:keepIn K (.ref f)=true):∃f,MF K C x qual st f:=⟨f,a,b,⟨oc,od,kV,doc,pm,an,BM,ct,SR,l,c⟩,k⟩
theorem Gx {K:PySem.W.Frag}{C:Addr}{f:Str}(h:findIn K (.ref C) f=some none):A6 K C f:=h
theorem int_mk {K:PySem.W.Frag}{x:Str}{i:Int}{t:Tok}(h:nsIn K mainGlobals x=some (some (.int i t))):∃t,nsIn K mainGlobals x=some (some (.int i t)):=⟨t,h⟩
theorem str_mk {K:PySem.W.Frag}{x v:Str}{t:Tok}(h:nsIn K mainGlobals x=some (some (.str v t))):∃t,nsIn K mainGlobals x=some (some (.str v t)):=⟨t,h⟩
theorem ji {K:PySem.W.Frag}{a Dg Dh Cm BU Ck f_look Bp B5 B6 Da Cj DZ B7 Dd Df BH Cl Ci Dc De Db:Addr}{n:Nat}{sl:Array (Option Value)}(g0:GF K "draft" "draft" "draft" NW Dg)(g1:GF K "check" "check" "check" NX Dh)(g2:GF K "accept" "accept" "accept" J2 Cm)(g3:GF K "acceptall" "acceptall" "acceptall" E7 BU)(g4:GF K "refuse" "refuse" "refuse" Jx Ck)(g5:GF K "look" "look" "look" Rx f_look)(g6:GF K "takeback" "takeback" "takeback" F5 Bp)(g7:GF K "takeall" "takeall" "takeall" HZ B5)(g8:GF K "joinall" "joinall" "joinall" Ha B6)(g9:GF K "value" "value" "value" NQ Da)(yX:GF K "things" "things" "things" Jw Cj)(zW:GF K "would" "would" "would" NP DZ)(g12:GF K "clashes" "clashes" "clashes" Hc B7)(g13:GF K "needs" "needs" "needs" NT Dd)(g14:GF K "falls" "falls" "falls" NV Df)(g15:GF K "meet_calls" "meet" "meet" EF BH)(g16:GF K "change" "change" "change" Jz Cl)(g17:GF K "writer" "writer" "writer" Ju Ci)(g18:GF K "order" "order" "order" NS Dc)(g19:GF K "force" "force" "force" NU De)(g20:GF K "state" "state" "state" NR Db)(za:nsIn K mainGlobals "CALLS"=some (some (.ref a)))(zl:K.lookup a=some ⟨.type "tuple",none,.seq #[.ref Dg,.ref Dh,.ref Cm,.ref BU,.ref Ck,.ref f_look,.ref Bp,.ref B5,.ref B6,.ref Da,.ref Cj,.ref DZ,.ref B7,.ref Dd,.ref Df,.ref BH,.ref Cl,.ref Ci,.ref Dc,.ref De,.ref Db] n,sl⟩):∃(a Dg Dh Cm BU Ck f_look Bp B5 B6 Da Cj DZ B7 Dd Df BH Cl Ci Dc De Db:Addr),GF K "draft" "draft" "draft" NW Dg/\GF K "check" "check" "check" NX Dh/\GF K "accept" "accept" "accept" J2 Cm/\GF K "acceptall" "acceptall" "acceptall" E7 BU/\GF K "refuse" "refuse" "refuse" Jx Ck/\GF K "look" "look" "look" Rx f_look/\GF K "takeback" "takeback" "takeback" F5 Bp/\GF K "takeall" "takeall" "takeall" HZ B5/\GF K "joinall" "joinall" "joinall" Ha B6/\GF K "value" "value" "value" NQ Da/\GF K "things" "things" "things" Jw Cj/\GF K "would" "would" "would" NP DZ/\GF K "clashes" "clashes" "clashes" Hc B7/\GF K "needs" "needs" "needs" NT Dd/\GF K "falls" "falls" "falls" NV Df/\GF K "meet_calls" "meet" "meet" EF BH/\GF K "change" "change" "change" Jz Cl/\GF K "writer" "writer" "writer" Ju Ci/\GF K "order" "order" "order" NS Dc/\GF K "force" "force" "force" NU De/\GF K "state" "state" "state" NR Db/\nsIn K mainGlobals "CALLS"=some (some (.ref a))/\∃n sl,K.lookup a=some ⟨.type "tuple",none,.seq #[.ref Dg,.ref Dh,.ref Cm,.ref BU,.ref Ck,.ref f_look,.ref Bp,.ref B5,.ref B6,.ref Da,.ref Cj,.ref DZ,.ref B7,.ref Dd,.ref Df,.ref BH,.ref Cl,.ref Ci,.ref Dc,.ref De,.ref Db] n,sl⟩:=⟨a,Dg,Dh,Cm,BU,Ck,f_look,Bp,B5,B6,Da,Cj,DZ,B7,Dd,Df,BH,Cl,Ci,Dc,De,Db,g0,g1,g2,g3,g4,g5,g6,g7,g8,g9,yX,zW,g12,g13,g14,g15,g16,g17,g18,g19,g20,za,n,sl,zl⟩
theorem MZ {K:PySem.W.Frag}{a:Addr}{t0 t1 t2 t3:Tok}{n:Nat}{sl:Array (Option Value)}(h1:nsIn K mainGlobals "READING_FIRST"=some (some (.ref a)))(h2:K.lookup a=some ⟨.type "tuple",none,.seq #[.str "join" t0,.str "swap" t1,.str "need" t2,.str "empty" t3] n,sl⟩):∃(a:Addr) (t0 t1 t2 t3:Tok) (n:Nat) (sl:Array (Option Value)),nsIn K mainGlobals "READING_FIRST"=some (some (.ref a))/\K.lookup a=some ⟨.type "tuple",none,.seq #[.str "join" t0,.str "swap" t1,.str "need" t2,.str "empty" t3] n,sl⟩:=⟨a,t0,t1,t2,t3,n,sl,h1,h2⟩
theorem LR {K:PySem.W.Frag}{a:Addr}{t0 t1 t2:Tok}{n:Nat}{sl:Array (Option Value)}(h1:nsIn K mainGlobals "READING_SECOND"=some (some (.ref a)))(h2:K.lookup a=some ⟨.type "tuple",none,.seq #[.str "copy" t0,.str "join" t1,.str "swap" t2] n,sl⟩):∃(a:Addr) (t0 t1 t2:Tok) (n:Nat) (sl:Array (Option Value)),nsIn K mainGlobals "READING_SECOND"=some (some (.ref a))/\K.lookup a=some ⟨.type "tuple",none,.seq #[.str "copy" t0,.str "join" t1,.str "swap" t2] n,sl⟩:=⟨a,t0,t1,t2,n,sl,h1,h2⟩
theorem MY {K:PySem.W.Frag}{a:Addr}{t0 t1 t2 t3 t4:Tok}{n:Nat}{sl:Array (Option Value)}(h1:nsIn K mainGlobals "WRITING_FIRST"=some (some (.ref a)))(h2:K.lookup a=some ⟨.type "tuple",none,.seq #[.str "set" t0,.str "clear" t1,.str "copy" t2,.str "join" t3,.str "swap" t4] n,sl⟩):∃(a:Addr) (t0 t1 t2 t3 t4:Tok) (n:Nat) (sl:Array (Option Value)),nsIn K mainGlobals "WRITING_FIRST"=some (some (.ref a))/\K.lookup a=some ⟨.type "tuple",none,.seq #[.str "set" t0,.str "clear" t1,.str "copy" t2,.str "join" t3,.str "swap" t4] n,sl⟩:=⟨a,t0,t1,t2,t3,t4,n,sl,h1,h2⟩
theorem LQ {K:PySem.W.Frag}{a:Addr}{t0:Tok}{n:Nat}{sl:Array (Option Value)}(h1:nsIn K mainGlobals "WRITING_SECOND"=some (some (.ref a)))(h2:K.lookup a=some ⟨.type "tuple",none,.seq #[.str "swap" t0] n,sl⟩):∃(a:Addr) (t0:Tok) (n:Nat) (sl:Array (Option Value)),nsIn K mainGlobals "WRITING_SECOND"=some (some (.ref a))/\K.lookup a=some ⟨.type "tuple",none,.seq #[.str "swap" t0] n,sl⟩:=⟨a,t0,n,sl,h1,h2⟩
theorem JW {K:PySem.W.Frag}{a:Addr}{t0 t1 t2 t3 t4 t5 t6 t7 t8 t9 ip im il ik ii ig ie ic ib ia iZ:Tok}{n:Nat}{sl:Array (Option Value)}(h1:nsIn K mainGlobals "HOW_MANY_NUMBERS"=some (some (.ref a)))(h2:K.lookup a=some ⟨.type "tuple",none,.seq #[.int 1 t0,.int 0 t1,.int 1 t2,.int 1 t3,.int 1 t4,.int 1 t5,.int 1 t6,.int 1 t7,.int 0 t8,.int 2 t9,.int 0 ip,.int 1 im,.int 1 il,.int 1 ik,.int 1 ii,.int 2 ig,.int 1 ie,.int 2 ic,.int 0 ib,.int 0 ia,.int 0 iZ] n,sl⟩):∃(a:Addr) (t0 t1 t2 t3 t4 t5 t6 t7 t8 t9 ip im il ik ii ig ie ic ib ia iZ:Tok) (n:Nat) (sl:Array (Option Value)),nsIn K mainGlobals "HOW_MANY_NUMBERS"=some (some (.ref a))/\K.lookup a=some ⟨.type "tuple",none,.seq #[.int 1 t0,.int 0 t1,.int 1 t2,.int 1 t3,.int 1 t4,.int 1 t5,.int 1 t6,.int 1 t7,.int 0 t8,.int 2 t9,.int 0 ip,.int 1 im,.int 1 il,.int 1 ik,.int 1 ii,.int 2 ig,.int 1 ie,.int 2 ic,.int 0 ib,.int 0 ia,.int 0 iZ] n,sl⟩:=⟨a,t0,t1,t2,t3,t4,t5,t6,t7,t8,t9,ip,im,il,ik,ii,ig,ie,ic,ib,ia,iZ,n,sl,h1,h2⟩
theorem Ma {K:PySem.W.Frag}{a:Addr}{t0 t1 t2 t3 t4 t5 t6 t7 t8 t9 ip im il ik ii ig ie ic ib ia iZ:Tok}{n:Nat}{sl:Array (Option Value)}(h1:nsIn K mainGlobals "HOW_MANY_ROWS"=some (some (.ref a)))(h2:K.lookup a=some ⟨.type "tuple",none,.seq #[.int 2 t0,.int 1 t1,.int 0 t2,.int 0 t3,.int 0 t4,.int 0 t5,.int 0 t6,.int 0 t7,.int 0 t8,.int 0 t9,.int 0 ip,.int 0 im,.int 0 il,.int 0 ik,.int 0 ii,.int 0 ig,.int 0 ie,.int 0 ic,.int 1 ib,.int 0 ia,.int 0 iZ] n,sl⟩):∃(a:Addr) (t0 t1 t2 t3 t4 t5 t6 t7 t8 t9 ip im il ik ii ig ie ic ib ia iZ:Tok) (n:Nat) (sl:Array (Option Value)),nsIn K mainGlobals "HOW_MANY_ROWS"=some (some (.ref a))/\K.lookup a=some ⟨.type "tuple",none,.seq #[.int 2 t0,.int 1 t1,.int 0 t2,.int 0 t3,.int 0 t4,.int 0 t5,.int 0 t6,.int 0 t7,.int 0 t8,.int 0 t9,.int 0 ip,.int 0 im,.int 0 il,.int 0 ik,.int 0 ii,.int 0 ig,.int 0 ie,.int 0 ic,.int 1 ib,.int 0 ia,.int 0 iZ] n,sl⟩:=⟨a,t0,t1,t2,t3,t4,t5,t6,t7,t8,t9,ip,im,il,ik,ii,ig,ie,ic,ib,ia,iZ,n,sl,h1,h2⟩
theorem dO {w:World}{K:PySem.W.Frag}{a:Addr}{t0 u0 t1 u1 t2 u2 t3 u3 t4 u4 t5 u5 t6 u6:Tok}{n:Nat}(h1:nsIn K mainGlobals "FORMS"=some (some (.ref a)))(h2:K.lookup a=some ⟨.type "dict",none,.dict #[⟨PyData.keyHash w.params "set",.str "set" t0,.str "TV" u0⟩,⟨PyData.keyHash w.params "clear",.str "clear" t1,.str "T" u1⟩,⟨PyData.keyHash w.params "copy",.str "copy" t2,.str "TU" u2⟩,⟨PyData.keyHash w.params "join",.str "join" t3,.str "TU" u3⟩,⟨PyData.keyHash w.params "swap",.str "swap" t4,.str "TU" u4⟩,⟨PyData.keyHash w.params "need",.str "need" t5,.str "TV" u5⟩,⟨PyData.keyHash w.params "empty",.str "empty" t6,.str "T" u6⟩] n, #[]⟩)(h3:(a==sysModules)=false):∃(a:Addr) (t0 u0 t1 u1 t2 u2 t3 u3 t4 u4 t5 u5 t6 u6:Tok) (n:Nat),nsIn K mainGlobals "FORMS"=some (some (.ref a))/\K.lookup a=some ⟨.type "dict",none,.dict #[⟨PyData.keyHash w.params "set",.str "set" t0,.str "TV" u0⟩,⟨PyData.keyHash w.params "clear",.str "clear" t1,.str "T" u1⟩,⟨PyData.keyHash w.params "copy",.str "copy" t2,.str "TU" u2⟩,⟨PyData.keyHash w.params "join",.str "join" t3,.str "TU" u3⟩,⟨PyData.keyHash w.params "swap",.str "swap" t4,.str "TU" u4⟩,⟨PyData.keyHash w.params "need",.str "need" t5,.str "TV" u5⟩,⟨PyData.keyHash w.params "empty",.str "empty" t6,.str "T" u6⟩] n, #[]⟩/\(a==sysModules)=false:=⟨a,t0,u0,t1,u1,t2,u2,t3,u3,t4,u4,t5,u5,t6,u6,n,h1,h2,h3⟩
theorem ar0 {P:List Value->Prop}(h:P []):∀us,us.length=0->P us|[],_=>h
theorem ars {n:Nat}{P:List Value->Prop}(h:∀a us,us.length=n->P (a::us)):∀us,us.length=n+1->P us|a::us,e=>h a us (Nat.succ.inj e)
theorem ar1 {P:List Value->Prop}(h:∀a,P [a]):∀us,us.length=1->P us:=ars fun a=>ar0 (h a)
theorem ar2 {P:List Value->Prop}(h:∀a b,P [a,b]):∀us,us.length=2->P us:=ars fun a=>ar1 (h a)
theorem ar3 {P:List Value->Prop}(h:∀a b c,P [a,b,c]):∀us,us.length=3->P us:=ars fun a=>ar2 (h a)
theorem ar4 {P:List Value->Prop}(h:∀a b c d,P [a,b,c,d]):∀us,us.length=4->P us:=ars fun a=>ar3 (h a)
theorem ar5 {P:List Value->Prop}(h:∀a b c d e,P [a,b,c,d,e]):∀us,us.length=5->P us:=ars fun a=>ar4 (h a)
theorem ar6 {P:List Value->Prop}(h:∀a b c d e f,P [a,b,c,d,e,f]):∀us,us.length=6->P us:=ars fun a=>ar5 (h a)
theorem all_mk {P:Program}{w:World}{K:PySem.W.Frag}{h:Heap}{mg:Str->Option Value}{fa:Addr}(X:K.In h)(G:h.Ns mainGlobals mg)(hfa:mg "answers"=some (.ref fa))
  (PZ:∃f,GF K "sign_in" "sign_in" "sign_in" Kw f)
  (PY:∃f,GF K "sign_of" "sign_of" "sign_of" Oq f)
  (HP:∃f,GF K "read_number" "read_number" "read_number" Ew f)
  (Ii:∃f,GF K "read_thing" "read_thing" "read_thing" IP f)
  (Ih:∃f,GF K "read_value" "read_value" "read_value" IO f)
  (Mq:∃f,GF K "read_act" "read_act" "read_act" ML f)
  (KW:∃f,GF K "read_text" "read_text" "read_text" Jy f)
  (KU:∃f,GF K "things_of" "things_of" "things_of" Jv f)
  (YH:∃f,GF K "feeds" "feeds" "feeds" XO f)
  (GV:∃f,GF K "meet_changes" "meet" "meet" F6 f)
  (KZ:∃f,GF K "act_fails" "act_fails" "act_fails" J1 f)
  (Tt:∃f,GF K "do_act" "do_act" "do_act" Rz f)
  (Es:∃f,GF K "values_if_done" "values_if_done" "values_if_done" Ed f)
  (Fd:∃f,GF K "values_behind" "values_behind" "values_behind" FJ f)
  (Ff:∃f,GF K "filled_things" "filled_things" "filled_things" FL f)
  (Fe:∃f,GF K "unlike_things" "unlike_things" "unlike_things" FK f)
  (Ts:∃f,GF K "is_row" "is_row" "is_row" Ry f)
  (Pa:∃f,GF K "is_text" "is_text" "is_text" Os f)
  (HQ:∃f,GF K "are_changes" "are_changes" "are_changes" G9 f)
  (Mr:∃f,GF K "is_thing" "is_thing" "is_thing" MM f)
  (HN:∃f,GF K "with_length" "with_length" "with_length" G8 f)
  (Mp:∃f,GF K "signs_of" "signs_of" "signs_of" MK f)
  (D4:∃f,GF K "told_with_values" "told_with_values" "told_with_values" Dk f)
  (DQ:∃f,GF K "refusal_of_absent" "refusal_of_absent" "refusal_of_absent" DK f)
  (Ig:∃f,GF K "refusal_of" "refusal_of" "refusal_of" IM f)
  (D5:∃f,GF K "refusal_of_draft" "refusal_of_draft" "refusal_of_draft" Dl f)
  (D6:∃f,GF K "refusal_in_force" "refusal_in_force" "refusal_in_force" Dn f)
  (Pq:∃C,CF K "Reading" C/\(∃f,MF K C "__init__" "Reading.__init__" F7 f)/\A6 K C "acts"/\A6 K C "wrong_line")
  (UM:∃C,CF K "Change" C/\(∃f,MF K C "__init__" "Change.__init__" HB f)/\(∃f,MF K C "known" "Change.known" F9 f)/\A6 K C "reads"/\A6 K C "writes"/\A6 K C "acts"/\A6 K C "seen"/\A6 K C "stands"/\A6 K C "condition"/\A6 K C "editor"/\A6 K C "text")
  (Yd:∃C,CF K "House" C/\(∃f,MF K C "__init__" "House.__init__" IQ f)/\(∃f,MF K C "numbered" "House.numbered" DF f)/\(∃f,MF K C "there_is" "House.there_is" Ef f)/\(∃f,MF K C "is_draft" "House.is_draft" Eh f)/\(∃f,MF K C "put_draft" "House.put_draft" EH f)/\(∃f,MF K C "feeding" "House.feeding" FO f)/\(∃f,MF K C "meeting" "House.meeting" FM f)/\(∃f,MF K C "clashing" "House.clashing" Ei f)/\(∃f,MF K C "needed" "House.needed" F8 f)/\(∃f,MF K C "lacking" "House.lacking" FN f)/\(∃f,MF K C "can_accept" "House.can_accept" Dq f)/\(∃f,MF K C "lacking_in_all" "House.lacking_in_all" CZ f)/\(∃f,MF K C "can_accept_in_turn" "House.can_accept_in_turn" By f)/\(∃f,MF K C "put_in_force" "House.put_in_force" C6 f)/\(∃f,MF K C "put_refused" "House.put_refused" DL f)/\(∃f,MF K C "look_again" "House.look_again" Do f)/\(∃f,MF K C "falling" "House.falling" FP f)/\(∃f,MF K C "put_back" "House.put_back" Eg f)/\(∃f,MF K C "last_writing" "House.last_writing" C7 f)/\(∃f,MF K C "values_in_order" "House.values_in_order" CU f)/\(∃f,MF K C "held_values" "House.held_values" DM f)/\A6 K C "changes"/\A6 K C "in_force")
  (UL:∃C,CF K "Reader" C/\(∃f,MF K C "__init__" "Reader.__init__" HA f)/\(∃f,MF K C "is_done" "Reader.is_done" Ee f)/\(∃f,MF K C "take_number" "Reader.take_number" C5 f)/\(∃f,MF K C "take_numbers" "Reader.take_numbers" Cu f)/\(∃f,MF K C "take_row" "Reader.take_row" EG f)/\A6 K C "source"/\A6 K C "place")
  (du:∃(a Dg Dh Cm BU Ck f_look Bp B5 B6 Da Cj DZ B7 Dd Df BH Cl Ci Dc De Db:Addr),GF K "draft" "draft" "draft" NW Dg/\GF K "check" "check" "check" NX Dh/\GF K "accept" "accept" "accept" J2 Cm/\GF K "acceptall" "acceptall" "acceptall" E7 BU/\GF K "refuse" "refuse" "refuse" Jx Ck/\GF K "look" "look" "look" Rx f_look/\GF K "takeback" "takeback" "takeback" F5 Bp/\GF K "takeall" "takeall" "takeall" HZ B5/\GF K "joinall" "joinall" "joinall" Ha B6/\GF K "value" "value" "value" NQ Da/\GF K "things" "things" "things" Jw Cj/\GF K "would" "would" "would" NP DZ/\GF K "clashes" "clashes" "clashes" Hc B7/\GF K "needs" "needs" "needs" NT Dd/\GF K "falls" "falls" "falls" NV Df/\GF K "meet_calls" "meet" "meet" EF BH/\GF K "change" "change" "change" Jz Cl/\GF K "writer" "writer" "writer" Ju Ci/\GF K "order" "order" "order" NS Dc/\GF K "force" "force" "force" NU De/\GF K "state" "state" "state" NR Db/\nsIn K mainGlobals "CALLS"=some (some (.ref a))/\∃n sl,K.lookup a=some ⟨.type "tuple",none,.seq #[.ref Dg,.ref Dh,.ref Cm,.ref BU,.ref Ck,.ref f_look,.ref Bp,.ref B5,.ref B6,.ref Da,.ref Cj,.ref DZ,.ref B7,.ref Dd,.ref Df,.ref BH,.ref Cl,.ref Ci,.ref Dc,.ref De,.ref Db] n,sl⟩)
  (Fc:∃t,nsIn K mainGlobals "HIGHEST_ENTRY"=some (some (.int 20 t)))
  (Fb:∃t,nsIn K mainGlobals "HIGHEST_FIELD"=some (some (.int 9 t)))
  (Fa:∃t,nsIn K mainGlobals "LONGEST_VALUE"=some (some (.int 20 t)))
  (KP:∃t,nsIn K mainGlobals "MOST_ACTS"=some (some (.int 12 t)))
  (X9:∃t,nsIn K mainGlobals "DRAFT"=some (some (.int 0 t)))
  (Mh:∃t,nsIn K mainGlobals "IN_FORCE"=some (some (.int 1 t)))
  (PN:∃t,nsIn K mainGlobals "REFUSED"=some (some (.int 2 t)))
  (Ie:∃t,nsIn K mainGlobals "TAKEN_BACK"=some (some (.int 3 t)))
  (GN:∃t,nsIn K mainGlobals "OUT_OF_RANGE"=some (some (.int (-1) t)))
  (Id:∃t,nsIn K mainGlobals "WRONG_LINE"=some (some (.int (-3) t)))
  (D1:∃t,nsIn K mainGlobals "TOO_MANY_CHANGES"=some (some (.int (-4) t)))
  (En:∃t,nsIn K mainGlobals "NO_SUCH_CHANGE"=some (some (.int (-5) t)))
  (Mg:∃t,nsIn K mainGlobals "NO_DRAFT"=some (some (.int (-6) t)))
  (Mi:∃t,nsIn K mainGlobals "CLASHING"=some (some (.int (-7) t)))
  (PQ:∃t,nsIn K mainGlobals "LACKING"=some (some (.int (-8) t)))
  (GO:∃t,nsIn K mainGlobals "NOT_IN_FORCE"=some (some (.int (-9) t)))
  (HL:∃t,nsIn K mainGlobals "OTHERS_FALL"=some (some (.int (-10) t)))
  (C9:∃t,nsIn K mainGlobals "NOT_THOSE_IN_FORCE"=some (some (.int (-11) t)))
  (Eo:∃t,nsIn K mainGlobals "HIGHEST_EDITOR"=some (some (.int 5 t)))
  (GR:∃t,nsIn K mainGlobals "HIGHEST_BYTE"=some (some (.int 255 t)))
  (GP:∃t,nsIn K mainGlobals "MOST_CHANGES"=some (some (.int 40 t)))
  (FZ:∃t,nsIn K mainGlobals "MOST_STOOD_ON"=some (some (.int 4 t)))
  (GQ:∃t,nsIn K mainGlobals "LONGEST_TEXT"=some (some (.int 600 t)))
  (PP:∃t,nsIn K mainGlobals "LETTERS"=some (some (.str "abcdefghijklmnopqrstuvwxyz" t)))
  (Tg:∃t,nsIn K mainGlobals "DIGITS"=some (some (.str "0123456789" t)))
  (HK:∃t,nsIn K mainGlobals "OTHER_SIGNS"=some (some (.str " .\n" t)))
  (Ic:∃t,nsIn K mainGlobals "WRONG_SIGN"=some (some (.str "?" t)))
  (qV:nsIn K mainGlobals "len"=some none)
  (qU:nsIn K mainGlobals "ord"=some none)
  (YR:nsIn K mainGlobals "range"=some none)
  (qR:nsIn K mainGlobals "str"=some none)
  (qX:nsIn K mainGlobals "all"=some none)
  (qW:nsIn K mainGlobals "any"=some none)
  (eO:nsIn K mainGlobals "dict"=some none)
  (eN:nsIn K mainGlobals "list"=some none)
  (qT:nsIn K mainGlobals "set"=some none)
  (T8:nsIn K mainGlobals "sorted"=some none)
  (FV:∃(a:Addr) (t0 t1 t2 t3:Tok) (n:Nat) (sl:Array (Option Value)),nsIn K mainGlobals "READING_FIRST"=some (some (.ref a))/\K.lookup a=some ⟨.type "tuple",none,.seq #[.str "join" t0,.str "swap" t1,.str "need" t2,.str "empty" t3] n,sl⟩)
  (Em:∃(a:Addr) (t0 t1 t2:Tok) (n:Nat) (sl:Array (Option Value)),nsIn K mainGlobals "READING_SECOND"=some (some (.ref a))/\K.lookup a=some ⟨.type "tuple",none,.seq #[.str "copy" t0,.str "join" t1,.str "swap" t2] n,sl⟩)
  (FU:∃(a:Addr) (t0 t1 t2 t3 t4:Tok) (n:Nat) (sl:Array (Option Value)),nsIn K mainGlobals "WRITING_FIRST"=some (some (.ref a))/\K.lookup a=some ⟨.type "tuple",none,.seq #[.str "set" t0,.str "clear" t1,.str "copy" t2,.str "join" t3,.str "swap" t4] n,sl⟩)
  (El:∃(a:Addr) (t0:Tok) (n:Nat) (sl:Array (Option Value)),nsIn K mainGlobals "WRITING_SECOND"=some (some (.ref a))/\K.lookup a=some ⟨.type "tuple",none,.seq #[.str "swap" t0] n,sl⟩)
  (Dv:∃(a:Addr) (t0 t1 t2 t3 t4 t5 t6 t7 t8 t9 ip im il ik ii ig ie ic ib ia iZ:Tok) (n:Nat) (sl:Array (Option Value)),nsIn K mainGlobals "HOW_MANY_NUMBERS"=some (some (.ref a))/\K.lookup a=some ⟨.type "tuple",none,.seq #[.int 1 t0,.int 0 t1,.int 1 t2,.int 1 t3,.int 1 t4,.int 1 t5,.int 1 t6,.int 1 t7,.int 0 t8,.int 2 t9,.int 0 ip,.int 1 im,.int 1 il,.int 1 ik,.int 1 ii,.int 2 ig,.int 1 ie,.int 2 ic,.int 0 ib,.int 0 ia,.int 0 iZ] n,sl⟩)
  (FW:∃(a:Addr) (t0 t1 t2 t3 t4 t5 t6 t7 t8 t9 ip im il ik ii ig ie ic ib ia iZ:Tok) (n:Nat) (sl:Array (Option Value)),nsIn K mainGlobals "HOW_MANY_ROWS"=some (some (.ref a))/\K.lookup a=some ⟨.type "tuple",none,.seq #[.int 2 t0,.int 1 t1,.int 0 t2,.int 0 t3,.int 0 t4,.int 0 t5,.int 0 t6,.int 0 t7,.int 0 t8,.int 0 t9,.int 0 ip,.int 0 im,.int 0 il,.int 0 ik,.int 0 ii,.int 0 ig,.int 0 ie,.int 0 ic,.int 1 ib,.int 0 ia,.int 0 iZ] n,sl⟩)
  (Xh:∃(a:Addr) (t0 u0 t1 u1 t2 u2 t3 u3 t4 u4 t5 u5 t6 u6:Tok) (n:Nat),nsIn K mainGlobals "FORMS"=some (some (.ref a))/\K.lookup a=some ⟨.type "dict",none,.dict #[⟨PyData.keyHash w.params "set",.str "set" t0,.str "TV" u0⟩,⟨PyData.keyHash w.params "clear",.str "clear" t1,.str "T" u1⟩,⟨PyData.keyHash w.params "copy",.str "copy" t2,.str "TU" u2⟩,⟨PyData.keyHash w.params "join",.str "join" t3,.str "TU" u3⟩,⟨PyData.keyHash w.params "swap",.str "swap" t4,.str "TU" u4⟩,⟨PyData.keyHash w.params "need",.str "need" t5,.str "TV" u5⟩,⟨PyData.keyHash w.params "empty",.str "empty" t6,.str "T" u6⟩] n, #[]⟩/\(a==sysModules)=false)
  (Pb:∃f,GF K "answers" "answers" "answers" Ot f)
  (KY:∃f,GF K "answer_to" "answer_to" "answer_to" J0 f):
  ∃fd:FuncData,(∀(s:Shared) (us:List Value),us.length=(["calls"]:List Str).length->BindsTo s fd ⟨us,[]⟩ ((["calls"]:List Str).zip us))/\∀base:Heap,K.In base->base.Ns mainGlobals mg->AR P w K mg base As 10 fa fd ["calls"] (MI K):=by
 isplit
 obtain ⟨_,z⟩:=Fc;have Iz:Gv mg "HIGHEST_ENTRY" (.int 20):=⟨_,mg_of X G z,Ax _ _⟩;obtain ⟨_,z⟩:=Fb;have Iy:Gv mg "HIGHEST_FIELD" (.int 9):=⟨_,mg_of X G z,Ax _ _⟩;obtain ⟨_,z⟩:=Fa;have Ix:Gv mg "LONGEST_VALUE" (.int 20):=⟨_,mg_of X G z,Ax _ _⟩;obtain ⟨_,z⟩:=KP;have Y5:Gv mg "MOST_ACTS" (.int 12):=⟨_,mg_of X G z,Ax _ _⟩;obtain ⟨_,z⟩:=X9;have RB:Gv mg "DRAFT" (.int 0):=⟨_,mg_of X G z,Ax _ _⟩;obtain ⟨_,z⟩:=Mh;have RP:Gv mg "IN_FORCE" (.int 1):=⟨_,mg_of X G z,Ax _ _⟩;obtain ⟨_,z⟩:=PN;have iQ:Gv mg "REFUSED" (.int 2):=⟨_,mg_of X G z,Ax _ _⟩;obtain ⟨_,z⟩:=Ie;have XC:Gv mg "TAKEN_BACK" (.int 3):=⟨_,mg_of X G z,Ax _ _⟩;obtain ⟨_,z⟩:=GN;have CP:Gv mg "OUT_OF_RANGE" (.int (-1)):=⟨_,mg_of X G z,Ax _ _⟩;obtain ⟨_,z⟩:=Id;have XB:Gv mg "WRONG_LINE" (.int (-3)):=⟨_,mg_of X G z,Ax _ _⟩;obtain ⟨_,z⟩:=D1;have MA:Gv mg "TOO_MANY_CHANGES" (.int (-4)):=⟨_,mg_of X G z,Ax _ _⟩;obtain ⟨_,z⟩:=En;have HV:Gv mg "NO_SUCH_CHANGE" (.int (-5)):=⟨_,mg_of X G z,Ax _ _⟩;obtain ⟨_,z⟩:=Mg;have cN:Gv mg "NO_DRAFT" (.int (-6)):=⟨_,mg_of X G z,Ax _ _⟩;obtain ⟨_,z⟩:=Mi;have RR:Gv mg "CLASHING" (.int (-7)):=⟨_,mg_of X G z,Ax _ _⟩;obtain ⟨_,z⟩:=PQ;have iR:Gv mg "LACKING" (.int (-8)):=⟨_,mg_of X G z,Ax _ _⟩;obtain ⟨_,z⟩:=GO;have RN:Gv mg "NOT_IN_FORCE" (.int (-9)):=⟨_,mg_of X G z,Ax _ _⟩;obtain ⟨_,z⟩:=HL;have Uw:Gv mg "OTHERS_FALL" (.int (-10)):=⟨_,mg_of X G z,Ax _ _⟩;obtain ⟨_,z⟩:=C9;have Jf:Gv mg "NOT_THOSE_IN_FORCE" (.int (-11)):=⟨_,mg_of X G z,Ax _ _⟩;obtain ⟨_,z⟩:=Eo;have Ob:Gv mg "HIGHEST_EDITOR" (.int 5):=⟨_,mg_of X G z,Ax _ _⟩;obtain ⟨_,z⟩:=GR;have RQ:Gv mg "HIGHEST_BYTE" (.int 255):=⟨_,mg_of X G z,Ax _ _⟩;obtain ⟨_,z⟩:=GP;have ED:Gv mg "MOST_CHANGES" (.int 40):=⟨_,mg_of X G z,Ax _ _⟩;obtain ⟨_,z⟩:=FZ;have QY:Gv mg "MOST_STOOD_ON" (.int 4):=⟨_,mg_of X G z,Ax _ _⟩;obtain ⟨_,z⟩:=GQ;have RO:Gv mg "LONGEST_TEXT" (.int 600):=⟨_,mg_of X G z,Ax _ _⟩;obtain ⟨_,z⟩:=PP;have Vg:Gv mg "LETTERS" (.str "abcdefghijklmnopqrstuvwxyz"):=⟨_,mg_of X G z,Cy _ _⟩;obtain ⟨_,z⟩:=Tg;have Y6:Gv mg "DIGITS" (.str "0123456789"):=⟨_,mg_of X G z,Cy _ _⟩;obtain ⟨_,z⟩:=HK;have Uv:Gv mg "OTHER_SIGNS" (.str " .\n"):=⟨_,mg_of X G z,Cy _ _⟩;obtain ⟨_,z⟩:=Ic;have XA:Gv mg "WRONG_SIGN" (.str "?"):=⟨_,mg_of X G z,Cy _ _⟩;have Cz:=mg_none_of X G qV;have wK:=mg_none_of X G qU;have Xy:=mg_none_of X G YR;have AAd:=mg_none_of X G qR;have gL:=mg_none_of X G qX;have wM:=mg_none_of X G qW;have xf:=mg_none_of X G eO;have S5:=mg_none_of X G eN;have wJ:=mg_none_of X G qT;have Nv:=mg_none_of X G T8;obtain ⟨_,_,_,_,_,_,_,z1,z2⟩:=FV;have Qa:KT K mg "READING_FIRST" rF:=⟨_,mg_of X G z1,RX z2 rfl rfl (by show 4<=sizeLine;decide) (.cons (Cy _ _) (.cons (Cy _ _) (.cons (Cy _ _) (.cons (Cy _ _) .nil))))⟩;obtain ⟨_,_,_,_,_,_,z1,z2⟩:=Em;have Oe:KT K mg "READING_SECOND" rS:=⟨_,mg_of X G z1,RX z2 rfl rfl (by show 3<=sizeLine;decide) (.cons (Cy _ _) (.cons (Cy _ _) (.cons (Cy _ _) .nil)))⟩;obtain ⟨_,_,_,_,_,_,_,_,z1,z2⟩:=FU;have QZ:KT K mg "WRITING_FIRST" wF:=⟨_,mg_of X G z1,RX z2 rfl rfl (by show 5<=sizeLine;decide) (.cons (Cy _ _) (.cons (Cy _ _) (.cons (Cy _ _) (.cons (Cy _ _) (.cons (Cy _ _) .nil)))))⟩;obtain ⟨_,_,_,_,z1,z2⟩:=El;have Od:KT K mg "WRITING_SECOND" wS:=⟨_,mg_of X G z1,RX z2 rfl rfl (by show 1<=sizeLine;decide) (.cons (Cy _ _) .nil)⟩;obtain ⟨_,_,_,_,_,_,_,_,_,_,_,_,_,_,_,_,_,_,_,_,_,_,_,_,z1,z2⟩:=Dv;have MB:zn K mg "HOW_MANY_NUMBERS" (AY nnL):=⟨_,mg_of X G z1,RX z2 rfl rfl (by show 21<=sizeLine;decide) (.cons (Ax _ _) (.cons (Ax _ _) (.cons (Ax _ _) (.cons (Ax _ _) (.cons (Ax _ _) (.cons (Ax _ _) (.cons (Ax _ _) (.cons (Ax _ _) (.cons (Ax _ _) (.cons (Ax _ _) (.cons (Ax _ _) (.cons (Ax _ _) (.cons (Ax _ _) (.cons (Ax _ _) (.cons (Ax _ _) (.cons (Ax _ _) (.cons (Ax _ _) (.cons (Ax _ _) (.cons (Ax _ _) (.cons (Ax _ _) (.cons (Ax _ _) .nil)))))))))))))))))))))⟩;obtain ⟨_,_,_,_,_,_,_,_,_,_,_,_,_,_,_,_,_,_,_,_,_,_,_,_,z1,z2⟩:=FW;have Qb:zn K mg "HOW_MANY_ROWS" (AY xa):=⟨_,mg_of X G z1,RX z2 rfl rfl (by show 21<=sizeLine;decide) (.cons (Ax _ _) (.cons (Ax _ _) (.cons (Ax _ _) (.cons (Ax _ _) (.cons (Ax _ _) (.cons (Ax _ _) (.cons (Ax _ _) (.cons (Ax _ _) (.cons (Ax _ _) (.cons (Ax _ _) (.cons (Ax _ _) (.cons (Ax _ _) (.cons (Ax _ _) (.cons (Ax _ _) (.cons (Ax _ _) (.cons (Ax _ _) (.cons (Ax _ _) (.cons (Ax _ _) (.cons (Ax _ _) (.cons (Ax _ _) (.cons (Ax _ _) .nil)))))))))))))))))))))⟩;obtain ⟨aF,_,_,_,_,_,_,_,_,_,_,_,_,_,_,_,z1,z2,z3⟩:=Xh;have xr:iA P w K aF Pg:=pF z2 z3;have xi:=mg_of X G z1;obtain ⟨W8,Im,⟨T4,EI⟩,UZ,Km⟩:=Pq;have jq:=mg_of X G Im.ns;obtain ⟨qm,Ks⟩:=EI.fun;have lh:=EI.me;have UU:=Ks.binds (ps:= ["self","acts","is_right"]) fun _ _ _ _ _ _=>ar3 fun _ _ _=>rfl
 have AFG:Mk K W8 T4:=⟨Im.mks,EI.fi,EI.fn,Im.kc⟩;obtain ⟨EW,LC,⟨VO,Ey⟩,⟨ACX,fm⟩,Ub,Q7,Va,VZ,Q8,Mu,Q9,VY⟩:=UM;have o3:=mg_of X G LC.ns;obtain ⟨sH,L6⟩:=Ey.fun;have ow:=Ey.me;have VX:=L6.binds (ps:= ["self","editor","text","acts","seen","stands"]) fun _ _ _ _ _ _=>ar6 fun _ _ _ _ _ _=>rfl
 obtain ⟨ACc,iG⟩:=fm.fun;have aL:=fm.me;have hU:=iG.binds (ps:= ["self"]) fun _ _ _ _ _ _=>ar1 fun _=>rfl
 have AFI:Mk K EW VO:=⟨LC.mks,Ey.fi,Ey.fn,LC.kc⟩;obtain ⟨BO,OI,⟨YL,Fo⟩,⟨eJ,SB⟩,⟨eB,R7⟩,⟨eK,SD⟩,⟨bB,QC⟩,⟨kU,V5⟩,⟨kQ,V2⟩,⟨eL,SF⟩,⟨qO,Zi⟩,⟨kR,V3⟩,⟨YK,Ng⟩,⟨Ph,Hd⟩,⟨Ka,E8⟩,⟨Tz,J7⟩,⟨VL,Lh⟩,⟨YJ,Nf⟩,⟨kW,V6⟩,⟨eG,SA⟩,⟨T0,J8⟩,⟨OD,Gp⟩,⟨VM,Li⟩,Q6,Pw⟩:=Yd;have uH:=mg_of X G OI.ns;obtain ⟨vS,OZ⟩:=Fo.fun;have rX:=Fo.me;have Ym:=OZ.binds (ps:= ["self"]) fun _ _ _ _ _ _=>ar1 fun _=>rfl
 obtain ⟨eV,Mw⟩:=SB.fun;have aK:=SB.me;have fG:=Mw.binds (ps:= ["self","number"]) fun _ _ _ _ _ _=>ar2 fun _ _=>rfl
 have BT:MH K BO "numbered" eJ eV ["self","number"]:=⟨aK,fG,⟨by decide+kernel,by decide+kernel⟩⟩;obtain ⟨eQ,Uf⟩:=R7.fun;have aH:=R7.me;have fB:=Uf.binds (ps:= ["self","number"]) fun _ _ _ _ _ _=>ar2 fun _ _=>rfl
 have Tl:MH K BO "there_is" eB eQ ["self","number"]:=⟨aH,fB,⟨by decide+kernel,by decide+kernel⟩⟩;obtain ⟨eW,Um⟩:=SD.fun;have aM:=SD.me;have fJ:=Um.binds (ps:= ["self","number"]) fun _ _ _ _ _ _=>ar2 fun _ _=>rfl
 have To:MH K BO "is_draft" eK eW ["self","number"]:=⟨aM,fJ,⟨by decide+kernel,by decide+kernel⟩⟩;obtain ⟨bL,QU⟩:=QC.fun;have Xz:=QC.me;have bb:=QU.binds (ps:= ["self","editor","stands","text","acts"]) fun _ _ _ _ _ _=>ar5 fun _ _ _ _ _=>rfl
 have a0:MH K BO "put_draft" bB bL ["self","editor","stands","text","acts"]:=⟨Xz,bb,⟨by decide+kernel,by decide+kernel⟩⟩;obtain ⟨kx,W5⟩:=V5.fun;have dS:=V5.me;have lQ:=W5.binds (ps:= ["self","first","second"]) fun _ _ _ _ _ _=>ar3 fun _ _ _=>rfl
 have PV:MH K BO "feeding" kU kx ["self","first","second"]:=⟨dS,lQ,⟨by decide+kernel,by decide+kernel⟩⟩;obtain ⟨km,W0⟩:=V2.fun;have dP:=V2.me;have lM:=W0.binds (ps:= ["self","first","second"]) fun _ _ _ _ _ _=>ar3 fun _ _ _=>rfl
 have Wi:MH K BO "meeting" kQ km ["self","first","second"]:=⟨dP,lM,⟨by decide+kernel,by decide+kernel⟩⟩;obtain ⟨eX,Uo⟩:=SF.fun;have aN:=SF.me;have fK:=Uo.binds (ps:= ["self","number","row"]) fun _ _ _ _ _ _=>ar3 fun _ _ _=>rfl
 have Mm:MH K BO "clashing" eL eX ["self","number","row"]:=⟨aN,fK,⟨by decide+kernel,by decide+kernel⟩⟩;obtain ⟨qh,bz⟩:=Zi.fun;have jl:=Zi.me;have qx:=bz.binds (ps:= ["self","number"]) fun _ _ _ _ _ _=>ar2 fun _ _=>rfl
 have a6:MH K BO "needed" qO qh ["self","number"]:=⟨jl,qx,⟨by decide+kernel,by decide+kernel⟩⟩;obtain ⟨ko,W1⟩:=V3.fun;have dQ:=V3.me;have lN:=W1.binds (ps:= ["self","number","row"]) fun _ _ _ _ _ _=>ar3 fun _ _ _=>rfl
 have K6:MH K BO "lacking" kR ko ["self","number","row"]:=⟨dQ,lN,⟨by decide+kernel,by decide+kernel⟩⟩;obtain ⟨YX,OY⟩:=Ng.fun;have VD:=Ng.me;have Yl:=OY.binds (ps:= ["self","number","row"]) fun _ _ _ _ _ _=>ar3 fun _ _ _=>rfl
 have OA:MH K BO "can_accept" YK YX ["self","number","row"]:=⟨VD,Yl,⟨by decide+kernel,by decide+kernel⟩⟩;obtain ⟨Pk,Hz⟩:=Hd.fun;have Ny:=Hd.me;have Pr:=Hz.binds (ps:= ["self","number"]) fun _ _ _ _ _ _=>ar2 fun _ _=>rfl
 have PU:MH K BO "lacking_in_all" Ph Pk ["self","number"]:=⟨Ny,Pr,⟨by decide+kernel,by decide+kernel⟩⟩;obtain ⟨Kc,FH⟩:=E8.fun;have JX:=E8.me;have Ki:=FH.binds (ps:= ["self","numbers"]) fun _ _ _ _ _ _=>ar2 fun _ _=>rfl
 have KS:MH K BO "can_accept_in_turn" Ka Kc ["self","numbers"]:=⟨JX,Ki,⟨by decide+kernel,by decide+kernel⟩⟩;obtain ⟨UB,Kp⟩:=J7.fun;have Qo:=J7.me;have UP:=Kp.binds (ps:= ["self","number"]) fun _ _ _ _ _ _=>ar2 fun _ _=>rfl
 have GU:MH K BO "put_in_force" Tz UB ["self","number"]:=⟨Qo,UP,⟨by decide+kernel,by decide+kernel⟩⟩;obtain ⟨VP,L0⟩:=Lh.fun;have S8:=Lh.me;have VU:=L0.binds (ps:= ["self","number"]) fun _ _ _ _ _ _=>ar2 fun _ _=>rfl
 have VJ:MH K BO "put_refused" VL VP ["self","number"]:=⟨S8,VU,⟨by decide+kernel,by decide+kernel⟩⟩;obtain ⟨YW,OX⟩:=Nf.fun;have VC:=Nf.me;have Yk:=OX.binds (ps:= ["self","number"]) fun _ _ _ _ _ _=>ar2 fun _ _=>rfl
 have YF:MH K BO "look_again" YJ YW ["self","number"]:=⟨VC,Yk,⟨by decide+kernel,by decide+kernel⟩⟩;obtain ⟨kz,W6⟩:=V6.fun;have dU:=V6.me;have lR:=W6.binds (ps:= ["self","number"]) fun _ _ _ _ _ _=>ar2 fun _ _=>rfl
 have PX:MH K BO "falling" kW kz ["self","number"]:=⟨dU,lR,⟨by decide+kernel,by decide+kernel⟩⟩;obtain ⟨eU,Uk⟩:=SA.fun;have aJ:=SA.me;have fF:=Uk.binds (ps:= ["self","numbers"]) fun _ _ _ _ _ _=>ar2 fun _ _=>rfl
 have Tm:MH K BO "put_back" eG eU ["self","numbers"]:=⟨aJ,fF,⟨by decide+kernel,by decide+kernel⟩⟩;obtain ⟨UC,Kr⟩:=J8.fun;have Qp:=J8.me;have UR:=Kr.binds (ps:= ["self","thing"]) fun _ _ _ _ _ _=>ar2 fun _ _=>rfl
 have Tn:MH K BO "last_writing" T0 UC ["self","thing"]:=⟨Qp,UR,⟨by decide+kernel,by decide+kernel⟩⟩;obtain ⟨OG,G3⟩:=Gp.fun;have Mf:=Gp.me;have OL:=G3.binds (ps:= ["self","row"]) fun _ _ _ _ _ _=>ar2 fun _ _=>rfl
 have Gz:MH K BO "values_in_order" OD OG ["self","row"]:=⟨Mf,OL,⟨by decide+kernel,by decide+kernel⟩⟩;obtain ⟨VQ,L3⟩:=Li.fun;have S9:=Li.me;have VV:=L3.binds (ps:= ["self"]) fun _ _ _ _ _ _=>ar1 fun _=>rfl
 have DT:MH K BO "held_values" VM VQ ["self"]:=⟨S9,VV,⟨by decide+kernel,by decide+kernel⟩⟩;have AFH:Mk K BO YL:=⟨OI.mks,Fo.fi,Fo.fn,OI.kc⟩;obtain ⟨cA,LA,⟨VN,Ex⟩,⟨zb,V4⟩,⟨rn,Lg⟩,⟨qM,J5⟩,⟨ya,R8⟩,Q5,Ua⟩:=UL;have o0:=mg_of X G LA.ns;obtain ⟨sG,L5⟩:=Ex.fun;have ou:=Ex.me;have VW:=L5.binds (ps:= ["self","source"]) fun _ _ _ _ _ _=>ar2 fun _ _=>rfl
 obtain ⟨zj,W4⟩:=V4.fun;have dR:=V4.me;have lP:=W4.binds (ps:= ["self"]) fun _ _ _ _ _ _=>ar1 fun _=>rfl
 obtain ⟨sD,Ly⟩:=Lg.fun;have KJ:=Lg.me;have Lv:=Ly.binds (ps:= ["self"]) fun _ _ _ _ _ _=>ar1 fun _=>rfl
 obtain ⟨qf,Ko⟩:=J5.fun;have JH:=J5.me;have Kh:=Ko.binds (ps:= ["self","how_many"]) fun _ _ _ _ _ _=>ar2 fun _ _=>rfl
 obtain ⟨yi,Uh⟩:=R8.fun;have aI:=R8.me;have fD:=Uh.binds (ps:= ["self"]) fun _ _ _ _ _ _=>ar1 fun _=>rfl
 have AFF:Mk K cA VN:=⟨LA.mks,Ex.fi,Ex.fn,LA.kc⟩;have TRd:Hw K mg W8:=⟨Im.cls,UZ,Km,jq⟩;have TC:Br K EW:=⟨LC.cls,Ub,Q7,Va,VZ,Q8,Mu,Q9,VY⟩;have TH:Am K BO:=⟨OI.cls,Q6,Pw⟩;have zm:GZ K cA:=⟨LA.cls,Q5,Ua⟩;have TSg:rJ mg:=⟨Vg,Y6,Uv,XA,wK,Cz⟩;have TTh:hZ mg:=⟨Iz,Iy,Cz,Xy,AAd⟩;have TVa:hX mg:=⟨Vg,Y6,Ix,Cz,gL⟩;obtain ⟨zY,Oy⟩:=PZ;obtain ⟨zh,Wz⟩:=Oy.fn;have jo:=mg_of X G Oy.ns;have jx:=Oy.kp;have lL:=Wz.binds (ps:= ["signs","byte"]) fun _ _ _ _ _ _=>ar2 fun _ _=>rfl
 obtain ⟨zX,Ox⟩:=PY;obtain ⟨zg,Wy⟩:=Ox.fn;have jn:=mg_of X G Ox.ns;have jw:=Ox.kp;have lK:=Wy.binds (ps:= ["byte"]) fun _ _ _ _ _ _=>ar1 fun _=>rfl
 obtain ⟨ro,HE⟩:=HP;obtain ⟨sE,Lz⟩:=HE.fn;have VE:=mg_of X G HE.ns;have VF:=HE.kp;have VS:=Lz.binds (ps:= ["word","highest"]) fun _ _ _ _ _ _=>ar2 fun _ _=>rfl
 obtain ⟨vD,IV⟩:=Ii;obtain ⟨vL,OV⟩:=IV.fn;have X1:=mg_of X G IV.ns;have X5:=IV.kp;have Yi:=OV.binds (ps:= ["word"]) fun _ _ _ _ _ _=>ar1 fun _=>rfl
 obtain ⟨vC,IU⟩:=Ih;obtain ⟨vK,OU⟩:=IU.fn;have X0:=mg_of X G IU.ns;have X4:=IU.kp;have Yh:=OU.binds (ps:= ["word"]) fun _ _ _ _ _ _=>ar1 fun _=>rfl
 obtain ⟨yc,MP⟩:=Mq;obtain ⟨yk,Uj⟩:=MP.fn;have dY:=mg_of X G MP.ns;have db:=MP.kp;have fE:=Uj.binds (ps:= ["line"]) fun _ _ _ _ _ _=>ar1 fun _=>rfl
 obtain ⟨wd,J6⟩:=KW;obtain ⟨wk,QT⟩:=J6.fn;have QI:=mg_of X G J6.ns;have QM:=J6.kp;have QR:=QT.binds (ps:= ["text"]) fun _ _ _ _ _ _=>ar1 fun _=>rfl
 obtain ⟨wc,J4⟩:=KU;obtain ⟨wj,QS⟩:=J4.fn;have aO:=mg_of X G J4.ns;have aU:=J4.kp;have bZ:=QS.binds (ps:= ["acts","with_first","with_second"]) fun _ _ _ _ _ _=>ar3 fun _ _ _=>rfl
 obtain ⟨ACY,XY⟩:=YH;obtain ⟨ACd,iI⟩:=XY.fn;have gM:=mg_of X G XY.ns;have gR:=XY.kp;have hW:=iI.binds (ps:= ["giver","taker"]) fun _ _ _ _ _ _=>ar2 fun _ _=>rfl
 obtain ⟨qP,GB⟩:=GV;obtain ⟨qi,Kq⟩:=GB.fn;have TJ:=mg_of X G GB.ns;have TY:=GB.kp;have UQ:=Kq.binds (ps:= ["one","another"]) fun _ _ _ _ _ _=>ar2 fun _ _=>rfl
 obtain ⟨wg,KA⟩:=KZ;obtain ⟨wo,QW⟩:=KA.fn;have aR:=mg_of X G KA.ns;have aX:=KA.kp;have bg:=QW.binds (ps:= ["act","held"]) fun _ _ _ _ _ _=>ar2 fun _ _=>rfl
 obtain ⟨ABb,SE⟩:=Tt;obtain ⟨ABh,b7⟩:=SE.fn;have oz:=mg_of X G SE.ns;have pJ:=SE.kp;have qz:=b7.binds (ps:= ["act","held"]) fun _ _ _ _ _ _=>ar2 fun _ _=>rfl
 obtain ⟨kP,Ej⟩:=Es;obtain ⟨ke,Hy⟩:=Ej.fn;have Hi:=mg_of X G Ej.ns;have Hm:=Ej.kp;have Hu:=Hy.binds (ps:= ["change","held"]) fun _ _ _ _ _ _=>ar2 fun _ _=>rfl
 obtain ⟨lm,FQ⟩:=Fd;obtain ⟨lv,JQ⟩:=FQ.fn;have Qq:=mg_of X G FQ.ns;have Qs:=FQ.kp;have Q0:=JQ.binds (ps:= ["change","held"]) fun _ _ _ _ _ _=>ar2 fun _ _=>rfl
 obtain ⟨lu,FT⟩:=Ff;obtain ⟨mB,JS⟩:=FT.fn;have JK:=mg_of X G FT.ns;have JM:=FT.kp;have JP:=JS.binds (ps:= ["held"]) fun _ _ _ _ _ _=>ar1 fun _=>rfl
 obtain ⟨lq,FR⟩:=Fe;obtain ⟨lz,JR⟩:=FR.fn;have JI:=mg_of X G FR.ns;have JL:=FR.kp;have JO:=JR.binds (ps:= ["before","after"]) fun _ _ _ _ _ _=>ar2 fun _ _=>rfl
 obtain ⟨ABa,SC⟩:=Ts;obtain ⟨ABg,b6⟩:=SC.fn;have aP:=mg_of X G SC.ns;have aV:=SC.kp;have bc:=b6.binds (ps:= ["row","longest","least","most"]) fun _ _ _ _ _ _=>ar4 fun _ _ _ _=>rfl
 obtain ⟨zZ,O0⟩:=Pa;obtain ⟨zi,W3⟩:=O0.fn;have WP:=mg_of X G O0.ns;have WU:=O0.kp;have Ww:=W3.binds (ps:= ["row"]) fun _ _ _ _ _ _=>ar1 fun _=>rfl
 obtain ⟨rp,HF⟩:=HQ;obtain ⟨sF,L4⟩:=HF.fn;have Lq:=mg_of X G HF.ns;have Lr:=HF.kp;have Lw:=L4.binds (ps:= ["row","longest"]) fun _ _ _ _ _ _=>ar2 fun _ _=>rfl
 obtain ⟨yd,MQ⟩:=Mr;obtain ⟨ym,Ul⟩:=MQ.fn;have TK:=mg_of X G MQ.ns;have Ta:=MQ.kp;have UT:=Ul.binds (ps:= ["entry","field"]) fun _ _ _ _ _ _=>ar2 fun _ _=>rfl
 obtain ⟨rm,HD⟩:=HN;obtain ⟨sC,Lx⟩:=HD.fn;have Bg:=mg_of X G HD.ns;have Bh:=HD.kp;have Bj:=Lx.binds (ps:= ["row"]) fun _ _ _ _ _ _=>ar1 fun _=>rfl
 obtain ⟨yb,MO⟩:=Mp;obtain ⟨yj,Ui⟩:=MO.fn;have TF:=mg_of X G MO.ns;have TX:=MO.kp;have UO:=Ui.binds (ps:= ["word"]) fun _ _ _ _ _ _=>ar1 fun _=>rfl
 obtain ⟨eA,Dr⟩:=D4;obtain ⟨eP,Ga⟩:=Dr.fn;have GL:=mg_of X G Dr.ns;have GM:=Dr.kp;have GY:=Ga.binds (ps:= ["chosen","held"]) fun _ _ _ _ _ _=>ar2 fun _ _=>rfl
 obtain ⟨cG,DN⟩:=DQ;obtain ⟨cI,Fl⟩:=DN.fn;have CL:=mg_of X G DN.ns;have CM:=DN.kp;have CO:=Fl.binds (ps:= ["house","numbers"]) fun _ _ _ _ _ _=>ar2 fun _ _=>rfl
 obtain ⟨vB,IT⟩:=Ig;obtain ⟨vJ,OT⟩:=IT.fn;have N0:=mg_of X G IT.ns;have N3:=IT.kp;have OM:=OT.binds (ps:= ["house","number","condition","otherwise"]) fun _ _ _ _ _ _=>ar4 fun _ _ _ _=>rfl
 obtain ⟨eC,Ds⟩:=D5;obtain ⟨eS,Gc⟩:=Ds.fn;have Bc:=mg_of X G Ds.ns;have Bd:=Ds.kp;have Be:=Gc.binds (ps:= ["house","number"]) fun _ _ _ _ _ _=>ar2 fun _ _=>rfl
 obtain ⟨eD,Dt⟩:=D6;obtain ⟨eT,Gd⟩:=Dt.fn;have Dy:=mg_of X G Dt.ns;have Dz:=Dt.kp;have D7:=Gd.binds (ps:= ["house","number"]) fun _ _ _ _ _ _=>ar2 fun _ _=>rfl
 obtain ⟨zc,O2⟩:=Pb;obtain ⟨lA,Py⟩:=O2.fn;have jp:=mg_of X G O2.ns;have zH:=O2.kp;have zk:=Py.binds (ps:= ["calls"]) fun _ _ _ _ _ _=>ar1 fun _=>rfl
 obtain ⟨we,J9⟩:=KY;obtain ⟨wm,QV⟩:=J9.fn;have aQ:=mg_of X G J9.ns;have aW:=J9.kp;have bf:=QV.binds (ps:= ["house","number","numbers","rows"]) fun _ _ _ _ _ _=>ar4 fun _ _ _ _=>rfl
 obtain ⟨aC,Dg,Dh,Cm,BU,Ck,f_look,Bp,B5,B6,Da,Cj,DZ,B7,Dd,Df,BH,Cl,Ci,Dc,De,Db,Xa,Xc,SH,KB,R9,cg,MN,Ow,Oz,XT,R6,XS,O1,XW,XZ,IW,SG,R5,XV,XX,XU,z1,_,_,z2⟩:=du;obtain ⟨vQ,iK⟩:=Xa.fn;have ACC:=mg_of X G Xa.ns;have uY:=Xa.kp;have vg:=iK.binds (ps:= ["house","numbers","rows"]) fun _ _ _ _ _ _=>ar3 fun _ _ _=>rfl
 obtain ⟨vR,iL⟩:=Xc.fn;have ACD:=mg_of X G Xc.ns;have uZ:=Xc.kp;have vh:=iL.binds (ps:= ["house","numbers","rows"]) fun _ _ _ _ _ _=>ar3 fun _ _ _=>rfl
 obtain ⟨ql,b9⟩:=SH.fn;have AAl:=mg_of X G SH.ns;have pL:=SH.kp;have rA:=b9.binds (ps:= ["house","numbers","rows"]) fun _ _ _ _ _ _=>ar3 fun _ _ _=>rfl
 obtain ⟨bM,QX⟩:=KB.fn;have wN:=mg_of X G KB.ns;have aY:=KB.kp;have bh:=QX.binds (ps:= ["house","numbers","rows"]) fun _ _ _ _ _ _=>ar3 fun _ _ _=>rfl
 obtain ⟨qg,bx⟩:=R9.fn;have AAj:=mg_of X G R9.ns;have pI:=R9.kp;have qw:=bx.binds (ps:= ["house","numbers","rows"]) fun _ _ _ _ _ _=>ar3 fun _ _ _=>rfl
 obtain ⟨yl,rN⟩:=cg.fn;have ADg:=mg_of X G cg.ns;have xq:=cg.kp;have yq:=rN.binds (ps:= ["house","numbers","rows"]) fun _ _ _ _ _ _=>ar3 fun _ _ _=>rfl
 obtain ⟨eR,Ug⟩:=MN.fn;have xh:=mg_of X G MN.ns;have da:=MN.kp;have fC:=Ug.binds (ps:= ["house","numbers","rows"]) fun _ _ _ _ _ _=>ar3 fun _ _ _=>rfl
 obtain ⟨kg,Wx⟩:=Ow.fn;have zD:=mg_of X G Ow.ns;have jv:=Ow.kp;have lJ:=Wx.binds (ps:= ["house","numbers","rows"]) fun _ _ _ _ _ _=>ar3 fun _ _ _=>rfl
 obtain ⟨kq,W2⟩:=Oz.fn;have zE:=mg_of X G Oz.ns;have jy:=Oz.kp;have lO:=W2.binds (ps:= ["house","numbers","rows"]) fun _ _ _ _ _ _=>ar3 fun _ _ _=>rfl
 obtain ⟨vH,iC⟩:=XT.fn;have AB6:=mg_of X G XT.ns;have uR:=XT.kp;have vX:=iC.binds (ps:= ["house","numbers","rows"]) fun _ _ _ _ _ _=>ar3 fun _ _ _=>rfl
 obtain ⟨qe,bw⟩:=R6.fn;have AAi:=mg_of X G R6.ns;have pH:=R6.kp;have qv:=bw.binds (ps:= ["house","numbers","rows"]) fun _ _ _ _ _ _=>ar3 fun _ _ _=>rfl
 obtain ⟨vG,iB⟩:=XS.fn;have AB5:=mg_of X G XS.ns;have uQ:=XS.kp;have vW:=iB.binds (ps:= ["house","numbers","rows"]) fun _ _ _ _ _ _=>ar3 fun _ _ _=>rfl
 obtain ⟨k8,W7⟩:=O1.fn;have zF:=mg_of X G O1.ns;have jz:=O1.kp;have lS:=W7.binds (ps:= ["house","numbers","rows"]) fun _ _ _ _ _ _=>ar3 fun _ _ _=>rfl
 obtain ⟨vN,iF⟩:=XW.fn;have AB9:=mg_of X G XW.ns;have uT:=XW.kp;have vb:=iF.binds (ps:= ["house","numbers","rows"]) fun _ _ _ _ _ _=>ar3 fun _ _ _=>rfl
 obtain ⟨vP,iJ⟩:=XZ.fn;have ACB:=mg_of X G XZ.ns;have uX:=XZ.kp;have vf:=iJ.binds (ps:= ["house","numbers","rows"]) fun _ _ _ _ _ _=>ar3 fun _ _ _=>rfl
 obtain ⟨YV,OW⟩:=IW.fn;have uG:=mg_of X G IW.ns;have X6:=IW.kp;have Yj:=OW.binds (ps:= ["house","numbers","rows"]) fun _ _ _ _ _ _=>ar3 fun _ _ _=>rfl
 obtain ⟨qj,b8⟩:=SG.fn;have AAk:=mg_of X G SG.ns;have pK:=SG.kp;have q0:=b8.binds (ps:= ["house","numbers","rows"]) fun _ _ _ _ _ _=>ar3 fun _ _ _=>rfl
 obtain ⟨qd,bv⟩:=R5.fn;have AAh:=mg_of X G R5.ns;have pG:=R5.kp;have qu:=bv.binds (ps:= ["house","numbers","rows"]) fun _ _ _ _ _ _=>ar3 fun _ _ _=>rfl
 obtain ⟨vM,iE⟩:=XV.fn;have AB8:=mg_of X G XV.ns;have uS:=XV.kp;have vZ:=iE.binds (ps:= ["house","numbers","rows"]) fun _ _ _ _ _ _=>ar3 fun _ _ _=>rfl
 obtain ⟨vO,iH⟩:=XX.fn;have ACA:=mg_of X G XX.ns;have uU:=XX.kp;have ve:=iH.binds (ps:= ["house","numbers","rows"]) fun _ _ _ _ _ _=>ar3 fun _ _ _=>rfl
 obtain ⟨vI,iD⟩:=XU.fn;have AB7:=mg_of X G XU.ns;have k_state:=XU.kp;have vY:=iD.binds (ps:= ["house","numbers","rows"]) fun _ _ _ _ _ _=>ar3 fun _ _ _=>rfl
 have sS:zn K mg "CALLS" ([Dg,Dh,Cm,BU,Ck,f_look,Bp,B5,B6,Da,Cj,DZ,B7,Dd,Df,BH,Cl,Ci,Dc,De,Db].map V.ref):=⟨_,mg_of X G z1,RX z2 rfl rfl (by show 21<=sizeLine;decide) (.cons rfl (.cons rfl (.cons rfl (.cons rfl (.cons rfl (.cons rfl (.cons rfl (.cons rfl (.cons rfl (.cons rfl (.cons rfl (.cons rfl (.cons rfl (.cons rfl (.cons rfl (.cons rfl (.cons rfl (.cons rfl (.cons rfl (.cons rfl (.cons rfl .nil)))))))))))))))))))))⟩;have e:=hfa.symm.trans jp;cases e;kl_no;refine ⟨lA,fun s us hl=>?_,fun base Xb Gb=>?_⟩
 ·obtain ⟨oc,od,kV,doc,pm,an,BM,ct,SR,rfl,_⟩:=Py.ex
  match us,hl with
  | [_],_=>exact .of_eq rfl
 have jd:=cr (P:=P) (w:=w) (mg:=mg) (base:=base) Wy TSg Wz lL jo jx;have Xs:=U5 (P:=P) (w:=w) (mg:=mg) (base:=base) OV TTh Lz VS VE VF;have Xr:=U4 (P:=P) (w:=w) (mg:=mg) (base:=base) OU TVa;have dJ:=Zx (P:=P) (w:=w) (mg:=mg) (base:=base) Uj Cz xr xi Xs Yi X1 X5 Xr Yh X0 X4;have S2:=Qm (P:=P) (w:=w) (mg:=mg) (base:=base) Ks TRd Cz;have QG:=Xj (P:=P) (w:=w) (mg:=mg) (base:=base) QT TRd Cz Y5 jd lK jn jw dJ fE dY db AFG S2 UU;have Z3:=Xi (P:=P) (w:=w) (mg:=mg) (base:=base) QS;have VB:=Sq (P:=P) (w:=w) (mg:=mg) (base:=base) L6 TC RB Qa Oe QZ Od Z3 bZ aO aU;have gG:=oJ (P:=P) (w:=w) (mg:=mg) (base:=base) iG TC;have gH:=oM (P:=P) (w:=w) (mg:=mg) (base:=base) iI TC wM;have Sx:=tQ (P:=P) (w:=w) (mg:=mg) (base:=base) Kq gH hW gM gR;have Z9:=Xo (P:=P) (w:=w) (mg:=mg) (base:=base) QW;have oU:=jV (P:=P) (w:=w) (mg:=mg) (base:=base) b7 Ix;have Hf:=Nq (P:=P) (w:=w) (mg:=mg) (base:=base) Hy TC xf Z9 bg aR aX oU qz oz pJ;have Qn:=O5 (P:=P) (w:=w) (mg:=mg) (base:=base) JQ Hf Hu Hi Hm;have JG:=jU (P:=P) (w:=w) (mg:=mg) (base:=base) JS Nv;have JF:=jP (P:=P) (w:=w) (mg:=mg) (base:=base) JR wJ Nv;have Z7:=jT (P:=P) (w:=w) (mg:=mg) (base:=base) b6 Cz gL;have WL:=cy (P:=P) (w:=w) (mg:=mg) (base:=base) W3 RO RQ Z7 bc aP aV;have Ln:=Sl (P:=P) (w:=w) (mg:=mg) (base:=base) L4 Cz wJ ED Z7 bc aP aV;have Sz:=Z0 (P:=P) (w:=w) (mg:=mg) (base:=base) Ul Iz Iy;have Bf:=Sf (P:=P) (w:=w) (mg:=mg) (base:=base) Lx Cz;have Sv:=Zw (P:=P) (w:=w) (mg:=mg) (base:=base) Ui wK;have GI:=tP (P:=P) (w:=w) (mg:=mg) (base:=base) Ga Cz S5 Sv UO TF TX Bf Bj Bg Bh;have Xv:=U8 (P:=P) (w:=w) (mg:=mg) (base:=base) (CC:=EW) OZ TH;have Bb:=Zz (P:=P) (w:=w) (mg:=mg) (base:=base) (CC:=EW) Mw TH;have Z5:=Xl (P:=P) (w:=w) (mg:=mg) (base:=base) (CC:=EW) Mw TH;have Ss:=Zt (P:=P) (w:=w) (mg:=mg) (base:=base) (CC:=EW) Uf TH Cz;have S1:=Z1 (P:=P) (w:=w) (mg:=mg) (base:=base) Um TH TC RB Ss Tl Bb BT;have Z4:=Xk (P:=P) (w:=w) (mg:=mg) (base:=base) QU TH Cz S5 AFI VB VX o3;have O7:=c0 (P:=P) (w:=w) (mg:=mg) (base:=base) W5 TH Bb BT gH hW gM gR;have WK:=cv (P:=P) (w:=w) (mg:=mg) (base:=base) W0 TH Bb BT Sx UQ TJ TY;have MV:=Z2 (P:=P) (w:=w) (mg:=mg) (base:=base) Uo TH TC Bb BT gG aL hU WK Wi;have Z6:=jS (P:=P) (w:=w) (mg:=mg) (base:=base) bz TH TC Bb BT gG aL hU O7 PV;have Kz:=cw (P:=P) (w:=w) (mg:=mg) (base:=base) W1 TH Z6 a6;have Nu:=U7 (P:=P) (w:=w) (mg:=mg) (base:=base) OY TH S1 To MV Mm Kz K6;have O6:=Nr (P:=P) (w:=w) (mg:=mg) (base:=base) Hz TH Cz Nv Kz K6;have KH:=JV (P:=P) (w:=w) (mg:=mg) (base:=base) FH TH S5 Nu OA;have GJ:=Qk (P:=P) (w:=w) (mg:=mg) (base:=base) Kp TH TC RP Bb BT;have U9:=Si (P:=P) (w:=w) (mg:=mg) (base:=base) L0 TH TC iQ Bb BT;have Xu:=U6 (P:=P) (w:=w) (mg:=mg) (base:=base) OX TH TC S5 Bb BT;have O8:=dB (P:=P) (w:=w) (mg:=mg) (base:=base) W6 TH wM O7 PV;have Sw:=Zy (P:=P) (w:=w) (mg:=mg) (base:=base) Uk TH TC XC Z5 BT;have Sy:=Ql (P:=P) (w:=w) (mg:=mg) (base:=base) Kr TH TC Bb BT;have Gu:=MT (P:=P) (w:=w) (mg:=mg) (base:=base) G3 TH Bb BT Qn Q0 Qq Qs;have DR:=Sj (P:=P) (w:=w) (mg:=mg) (base:=base) L3 TH Gu Gz;have CK:=jY (P:=P) (w:=w) (mg:=mg) (base:=base) Fl TH gL ED CP HV Ss Tl;have Nt:=U3 (P:=P) (w:=w) (mg:=mg) (base:=base) OT TH TC CK CO CL CM Bb BT;have Ba:=LN (P:=P) (w:=w) (mg:=mg) (base:=base) Gc RB cN Nt OM N0 N3;have Dx:=LO (P:=P) (w:=w) (mg:=mg) (base:=base) Gd RP RN Nt OM N0 N3;have VA:=Sn (P:=P) (w:=w) (mg:=mg) (base:=base) L5 zm;have jf:=cz (P:=P) (w:=w) (mg:=mg) (base:=base) W4 zm Cz;have Lk:=Sg (P:=P) (w:=w) (mg:=mg) (base:=base) Ly zm;have KG:=Qj (P:=P) (w:=w) (mg:=mg) (base:=base) Ko zm;have dG:=Zv (P:=P) (w:=w) (mg:=mg) (base:=base) Uh zm Lk KJ Lv KG JH Kh;have tp:=oO (P:=P) (w:=w) (mg:=mg) (base:=base) iK TH TRd Cz gL CP Ob QY HV ED MA XB WL Ww WP WU QG QR QI QM Ln Lw Lq Lr S1 To Z4 a0;have tq:=oP (P:=P) (w:=w) (mg:=mg) (base:=base) (C:=BO) (CC:=EW) iL TRd Cz CP WL Ww WP WU QG QR QI QM;have oW:=jX (P:=P) (w:=w) (mg:=mg) (base:=base) b9 TH Cz RR iR Ba Be Bc Bd MV Mm Kz K6 GJ GU;have aA:=Xp (P:=P) (w:=w) (mg:=mg) (base:=base) QX TH RR Ba Be Bc Bd O6 PU KH KS GJ GU Bf Bj Bg Bh;have oT:=jR (P:=P) (w:=w) (mg:=mg) (base:=base) bx TH Ba Be Bc Bd U9 VJ;have xZ:=tR (P:=P) (w:=w) (mg:=mg) (base:=base) rN TH Cz Ba Be Bc Bd Xu YF;have dF:=Zu (P:=P) (w:=w) (mg:=mg) (base:=base) Ug TH Cz Uw Dx D7 Dy Dz O8 PX Sw Tm;have jc:=cq (P:=P) (w:=w) (mg:=mg) (base:=base) Wx TH Dx D7 Dy Dz O8 PX Sw Tm Bf Bj Bg Bh;have je:=cx (P:=P) (w:=w) (mg:=mg) (base:=base) W2 TH Cz Xy Nu OA GJ GU Bf Bj Bg Bh;have tX:=oF (P:=P) (w:=w) (mg:=mg) (base:=base) iC TH CP Sv UO TF TX DR DT Sz UT TK Ta;have oS:=jQ (P:=P) (w:=w) (mg:=mg) (base:=base) bw TH DR DT JG JP JK JM GI GY GL GM;have tW:=oE (P:=P) (w:=w) (mg:=mg) (base:=base) iB TH Ba Be Bc Bd DR DT Bb BT Hf Hu Hi Hm GI GY GL GM JF JO JI JL;have jg:=dC (P:=P) (w:=w) (mg:=mg) (base:=base) W7 TH Ba Be Bc Bd MV Mm Bf Bj Bg Bh;have tf:=oI (P:=P) (w:=w) (mg:=mg) (base:=base) iF TH CK CO CL CM Kz K6 Z6 a6 Bf Bj Bg Bh;have tm:=oN (P:=P) (w:=w) (mg:=mg) (base:=base) iJ TH Dx D7 Dy Dz O8 PX Bf Bj Bg Bh;have Xt:=Xm (P:=P) (w:=w) (mg:=mg) (base:=base) OW TH CK CO CL CM WK Wi O7 PV;have oV:=jW (P:=P) (w:=w) (mg:=mg) (base:=base) b8 TH TC Cz CK CO CL CM Bb BT Bf Bj Bg Bh;have oR:=jO (P:=P) (w:=w) (mg:=mg) (base:=base) bv TH CP Sy Tn Sz UT TK Ta;have tZ:=oH (P:=P) (w:=w) (mg:=mg) (base:=base) iE TH Cz S5 Nv CP ED Jf DR DT Gu Gz Ln Lw Lq Lr JF JO JI JL;have tj:=oK (P:=P) (w:=w) (mg:=mg) (base:=base) (CC:=EW) iH TH Bf Bj Bg Bh;have tY:=oG (P:=P) (w:=w) (mg:=mg) (base:=base) iD TH TC Cz RB DR DT JG JP JK JM;have Z8:=Xn (P:=P) (w:=w) (mg:=mg) (base:=base) (C:=BO) (CC:=EW) QV sS (fun k nn nr e1 e2=>by
  have hk:k<21:=(List.getElem?_eq_some_iff.mp e1).1
  match k,hk,e1,e2 with
  |0,_,e1,e2=>cases e1;cases e2;exact ⟨Dg,rfl,⟨⟨vQ,tp,vg⟩,uY⟩⟩
  |1,_,e1,e2=>cases e1;cases e2;exact ⟨Dh,rfl,⟨⟨vR,tq,vh⟩,uZ⟩⟩
  |2,_,e1,e2=>cases e1;cases e2;exact ⟨Cm,rfl,⟨⟨ql,oW,rA⟩,pL⟩⟩
  |3,_,e1,e2=>cases e1;cases e2;exact ⟨BU,rfl,⟨⟨bM,aA,bh⟩,aY⟩⟩
  |4,_,e1,e2=>cases e1;cases e2;exact ⟨Ck,rfl,⟨⟨qg,oT,qw⟩,pI⟩⟩
  |5,_,e1,e2=>cases e1;cases e2;exact ⟨f_look,rfl,⟨⟨yl,xZ,yq⟩,xq⟩⟩
  |6,_,e1,e2=>cases e1;cases e2;exact ⟨Bp,rfl,⟨⟨eR,dF,fC⟩,da⟩⟩
  |7,_,e1,e2=>cases e1;cases e2;exact ⟨B5,rfl,⟨⟨kg,jc,lJ⟩,jv⟩⟩
  |8,_,e1,e2=>cases e1;cases e2;exact ⟨B6,rfl,⟨⟨kq,je,lO⟩,jy⟩⟩
  |9,_,e1,e2=>cases e1;cases e2;exact ⟨Da,rfl,⟨⟨vH,tX,vX⟩,uR⟩⟩
  |10,_,e1,e2=>cases e1;cases e2;exact ⟨Cj,rfl,⟨⟨qe,oS,qv⟩,pH⟩⟩
  |11,_,e1,e2=>cases e1;cases e2;exact ⟨DZ,rfl,⟨⟨vG,tW,vW⟩,uQ⟩⟩
  |12,_,e1,e2=>cases e1;cases e2;exact ⟨B7,rfl,⟨⟨k8,jg,lS⟩,jz⟩⟩
  |13,_,e1,e2=>cases e1;cases e2;exact ⟨Dd,rfl,⟨⟨vN,tf,vb⟩,uT⟩⟩
  |14,_,e1,e2=>cases e1;cases e2;exact ⟨Df,rfl,⟨⟨vP,tm,vf⟩,uX⟩⟩
  |15,_,e1,e2=>cases e1;cases e2;exact ⟨BH,rfl,⟨⟨YV,Xt,Yj⟩,X6⟩⟩
  |16,_,e1,e2=>cases e1;cases e2;exact ⟨Cl,rfl,⟨⟨qj,oV,q0⟩,pK⟩⟩
  |17,_,e1,e2=>cases e1;cases e2;exact ⟨Ci,rfl,⟨⟨qd,oR,qu⟩,pG⟩⟩
  |18,_,e1,e2=>cases e1;cases e2;exact ⟨Dc,rfl,⟨⟨vM,tZ,vZ⟩,uS⟩⟩
  |19,_,e1,e2=>cases e1;cases e2;exact ⟨De,rfl,⟨⟨vO,tj,ve⟩,uU⟩⟩
  |20,_,e1,e2=>cases e1;cases e2;exact ⟨Db,rfl,⟨⟨vI,tY,vY⟩,k_state⟩⟩)
 exact dD Py zm Cz Xy MB Qb AFH Xv Ym uH AFF VA VW o0 jf dR lP Lk KJ Lv KG JH Kh dG aI fD Z8 bf aQ aW
end
end Dj
end
namespace PySem.W.Fast
def tw13025683276049983824:=0
def tw4203327523375229657:=0
def tw18072664057157323272:=0
def tw10669701204504695177:=0
def tw10808019463301062083:=0
def tw5651700823239809803:=0
def tw11514041466785471531:=0
def tw7943862502300788550:=0
def tw6840277769564746071:=0
def tw10104445834862764569:=0
def tw10797110770682339663:=0
def tw4527393790626181192:=0
def tw965752447062572537:=0
def tw3524629070389377768:=0
def tw4918981997353588075:=0
def tw4678716871191599716:=0
def tw5152785265139618115:=0
def tw17212637722684220843:=0
def tw13331178971028004306:=0
def tw15158075312253627:=0
def tw4503772456562074470:=0
def tw5598844173320522600:=0
def tw103399340300630413:=0
def tw318054996965737916:=0
def tw17544799402921656358:=0
def tw7381343604803806902:=0
def tw11212171039142495780:=0
def tw7282135540708831403:=0
def tw11726423100974650327:=0
def tw6469966473637728089:=0
def tw15630691220073964943:=0
def tw8246961974244966144:=0
def tw4269252340257423982:=0
def tw5800382881272677977:=0
def tw12813533780661496243:=0
def tw11536892827527520227:=0
def tw16878926630615999560:=0
def tw10456792462144162154:=0
def tw10545607228862226176:=0
def tw7724809983047995280:=0
def tw121631844641249590:=0
def tw13533669473898540669:=0
def tw13922054599047310659:=0
def tw10715528021947063065:=0
def tw9724262998214689092:=0
def tw14401770122493731910:=0
def tw4312962231676506300:=0
def tw8712499092055987588:=0
def tw3396965970763117379:=0
def tw9298701379787902909:=0
def tw11133320950508115484:=0
def tw11512684071364745107:=0
def tw16105990593964115970:=0
def tw645281189766457276:=0
def tw9507362018056398146:=0
def tw6280873807375397282:=0
def tw16958694611382309013:=0
def tw2099382025387333982:=0
def tw15470962135567355325:=0
def tw14017202622615612017:=0
def tw953818314768504611:=0
def tw6320083008436858342:=0
def tw5104664730512304478:=0
def tw473980570239734516:=0
def tw11110512667691643869:=0
def tw241072668908737748:=0
def tw15940588171870992865:=0
def tw12423517761637138114:=0
def tw995644563080583638:=0
def tw3964375013034201713:=0
def tw15308035393231860968:=0
def tw7846966348879756573:=0
def tw10203283779895720724:=0
def tw8158545084113541108:=0
def tw1301963531798431110:=0
def tw7107481378737446775:=0
def tw17518174967998672833:=0
def tw5559638973727215:=0
def tw12221849632478224488:=0
def tw184204124590354751:=0
def tw5764495943565402157:=0
def tw3587620235733942126:=0
def tw9388930064485476745:=0
def tw6517811299171640467:=0
def tw11987889126509521137:=0
def tw3636476975936434455:=0
def tw13828484578151922527:=0
def tw9456639022802519041:=0
def tw13298111321148409978:=0
def tw7003450490765030066:=0
def tw15127715298346197271:=0
def tw5991278563999500937:=0
def tw7832116789076596881:=0
def tw7043154991380634818:=0
def tw120335657478690531:=0
def tw17841634122938915748:=0
def tw10372441400105018417:=0
def tw12930390958461409002:=0
def tw7390111259457653320:=0
def tw1186220724543077954:=0
def tw5072199352533488213:=0
def tw5848795978623630647:=0
def tw14873060612153290726:=0
def tw12678235644167188133:=0
def tw12939221667142728856:=0
def tw1992818628733776904:=0
def tw3376324206282004849:=0
def tw3216860079854138396:=0
def tw4790110014269461657:=0
def tw15124057675761903201:=0
def tw10369821706287069875:=0
def tw228226511125154935:=0
def tw9043775602543003514:=0
def tw13737349373650851077:=0
def tw15417080504016076149:=0
def tw15713417795440873844:=0
def tw7631739696885840664:=0
def tw13157764941997415401:=0
def tw8500246211977749590:=0
def tw15480824331837785555:=0
def tw6003365526289557846:=0
def tw12044989146698722664:=0
def tw14720531130943895949:=0
def tw1671765970663341413:=0
def tw9652334850192352002:=0
def tw4991195946417456805:=0
def tw6948885744316928693:=0
def tw4650945015163166158:=0
def tw12262384535398298798:=0
def tw12759791824879693989:=0
def tw13359919022033364616:=0
def tw7256897140768831023:=0
def tw17401557484693178472:=0
def tw3515767234330883980:=0
def tw13012513042028185856:=0
def tw5552322950622345470:=0
def tw3538589281514238807:=0
def tw12103881370480993295:=0
def tw4976376966647176674:=0
def tw14134809013637540959:=0
def tw12071575722396994846:=0
def tw17077222454427167709:=0
def tw4560310956054599398:=0
def tw8884546542316539343:=0
def tw6195240098946913521:=0
def tw15380472408302948796:=0
def tw15897971083679963071:=0
def tw11486363549322931421:=0
def tw2945885563365710385:=0
def tw16732445470671134195:=0
def tw14334887049460482049:=0
def tw5210489181114804945:=0
def tw874522949789799658:=0
def tw8789800459637375343:=0
def tw14056195223836759339:=0
def tw5580250285685009883:=0
def tw13604265715093191757:=0
def tw317405088850853312:=0
def tw15485829442876334636:=0
def tw8401750823917819141:=0
def tw15740647753792345337:=0
def tw4309063086226540377:=0
def tw10154269408672358306:=0
def tw12684829678641905326:=0
def tw13156873109501758585:=0
def tw2831230917737034777:=0
def tw3790945648166143982:=0
def tw9451713192547802064:=0
def tw112658027636649266:=0
def tw12644186914329319288:=0
def tw10210977775288724586:=0
def tw15625551923572841815:=0
def tw4164736474474312502:=0
def tw12382684537202405716:=0
def tw9452933866074472766:=0
def tw107863892796519546:=0
def tw9347170192376844102:=0
def tw5537778890836628018:=0
def tw15295424503055960059:=0
def tw12907597093208979770:=0
def tw1507606515157057817:=0
def tw12953796750406815101:=0
def tw2145430678074930581:=0
def tw16478550319819298902:=0
def tw14089298700194269311:=0
def tw14490023279498068792:=0
def tw5569056458213924689:=0
def tw17686430957304446281:=0
def tw17116848121844867850:=0
def tw2613122634927794496:=0
def tw8150857055741239985:=0
def tw15505320056527077856:=0
def tw18187021517724305077:=0
def tw5243160026271622073:=0
def tw2385181931946914807:=0
def tw6535619346051045533:=0
def tw8681547979144442208:=0
def tw9776156666036953995:=0
def tw2278978769901090168:=0
def tw9948179644476571740:=0
def tw5175972443687889272:=0
def tw13619059136198353960:=0
def tw16727338103657641371:=0
def tw8131748620180366286:=0
def tw15274712217495311784:=0
def tw15128160988337617460:=0
def tw4858169715659008108:=0
def tw7694743415224436504:=0
def tw17806869384662334828:=0
def tw2552072901401514866:=0
def tw401319040263073962:=0
def tw9442877912596943733:=0
def tw8774507897732770039:=0
def tw2196752549686129666:=0
def tw11760760797470656125:=0
def tw15355428517701086043:=0
def tw1662424906606306229:=0
def tw15682864150494361942:=0
def tw10818777400535565583:=0
def tw14891440396988553824:=0
def tw7796729596002942890:=0
def tw16376314878305565542:=0
def tw1059007015914496037:=0
def tw15987518741620950644:=0
def tw8616581960977899776:=0
def tw5545718777312503994:=0
def tw17535335757491635419:=0
def tw6012055358984293659:=0
def tw8505677370704250072:=0
def tw10182895248366375852:=0
def tw7232939804998420469:=0
def tw11216097516946802376:=0
def tw6825689962369703736:=0
def tw11514449074030241882:=0
def tw15421945079531654209:=0
def tw5584664476509312137:=0
def tw4924706204430098945:=0
def tw7098651399270475182:=0
def tw2744430036353165000:=0
def tw13164429105157797448:=0
def tw2196563531738511628:=0
def tw7102264120446096140:=0
def tw7361511043691474023:=0
def tw8658236956936295760:=0
def tw12395621886901670171:=0
def tw1053891184609771309:=0
def tw10916885369491196123:=0
def tw9094668298819569034:=0
def tw3783014707040882350:=0
def tw7190787289976438396:=0
def tw1599186274538521455:=0
def tw3923988853466023915:=0
def tw16925709052654153179:=0
def tw12691043317683914385:=0
def tw2491268966218499267:=0
def tw16697898731827659214:=0
def tw15200596540638436460:=0
def tw6573213073545445031:=0
def tw1092819842626682350:=0
def tw6635881549888779057:=0
end PySem.W.Fast
open PySem PySem.W PyProof.Rows
set_option maxRecDepth 100000 in
set_option maxHeartbeats 0 in
theorem PySem.Challenge.cw_draftjoin_s01_answers_holds : PySem.Challenge.rw_draftjoin_s01_answers.Holds := by
 w_on;k_headS;(case hw=>exact ⟨[.list [.int 20]],by decide+kernel,by decide+kernel⟩)
 k_fillS
 refine L2.cJ (r:=PySem.Challenge.rw_draftjoin_s01_answers) (k:=10) (CX:=L2.As) (ps:= ["calls"]) (sp:=Dj.MI) (by decide+kernel) rfl rfl ⟨rfl,by decide,by decide⟩ (fun w h Y=>kIn_of Y) ?F ?S (fun _ _ _ _ z=>z)
 case F=>
  intro w mg fa h Y KX G hmg;refine' Dj.all_mk KX G hmg ?PZ ?PY ?HP ?Ii ?Ih ?Mq ?KW ?KU ?YH ?GV ?KZ ?Tt ?Es ?Fd ?Ff ?Fe ?Ts ?Pa ?HQ ?Mr ?HN ?Mp ?D4 ?DQ ?Ig ?D5 ?D6 ?Pq ?UM ?Yd ?UL ?du ?Fc ?Fb ?Fa ?KP ?X9 ?Mh ?PN ?Ie ?GN ?Id ?D1 ?En ?Mg ?Mi ?PQ ?GO ?HL ?C9 ?Eo ?GR ?GP ?FZ ?GQ ?PP ?Tg ?HK ?Ic ?qV ?qU ?YR ?qR ?qX ?qW ?eO ?eN ?qT ?T8 ?FV ?Em ?FU ?El ?Dv ?FW ?Xh ?Pb ?KY
  (case PZ|PY|HP|Ii|Ih|Mq|KW|KU|YH|GV|KZ|Tt|Es|Fd|Ff|Fe|Ts|Pa|HQ|Mr|HN|Mp|D4|DQ|Ig|D5|D6=>refine' Dj.CA ?a ?l ?c ?k;(case a|l|c|k=>k_is))
  (case Pq=>refine' ⟨_,⟨?ns,?pg,?hd,?po,?sa,?mk,?kc⟩,?m0,?n0,?n1⟩;(case ns|pg|hd|po|sa|mk|kc=>k_is);(case m0=>refine' Dj.B8 ?a ?b ?l ?c ?k;(case a|b|l|c|k=>k_is));(case n0|n1=>refine' Dj.Gx ?a;(case a=>k_is)))
  (case UM=>refine' ⟨_,⟨?ns,?pg,?hd,?po,?sa,?mk,?kc⟩,?m0,?m1,?n0,?n1,?n2,?n3,?n4,?n5,?n6,?n7⟩;(case ns|pg|hd|po|sa|mk|kc=>k_is);(case m0|m1=>refine' Dj.B8 ?a ?b ?l ?c ?k;(case a|b|l|c|k=>k_is));(case n0|n1|n2|n3|n4|n5|n6|n7=>refine' Dj.Gx ?a;(case a=>k_is)))
  (case Yd=>refine' ⟨_,⟨?ns,?pg,?hd,?po,?sa,?mk,?kc⟩,?m0,?m1,?m2,?m3,?m4,?m5,?m6,?m7,?m8,?m9,?m10,?m11,?m12,?m13,?m14,?m15,?m16,?m17,?m18,?m19,?m20,?n0,?n1⟩;(case ns|pg|hd|po|sa|mk|kc=>k_is);(case m0|m1|m2|m3|m4|m5|m6|m7|m8|m9|m10|m11|m12|m13|m14|m15|m16|m17|m18|m19|m20=>refine' Dj.B8 ?a ?b ?l ?c ?k;(case a|b|l|c|k=>k_is));(case n0|n1=>refine' Dj.Gx ?a;(case a=>k_is)))
  (case UL=>refine' ⟨_,⟨?ns,?pg,?hd,?po,?sa,?mk,?kc⟩,?m0,?m1,?m2,?m3,?m4,?n0,?n1⟩;(case ns|pg|hd|po|sa|mk|kc=>k_is);(case m0|m1|m2|m3|m4=>refine' Dj.B8 ?a ?b ?l ?c ?k;(case a|b|l|c|k=>k_is));(case n0|n1=>refine' Dj.Gx ?a;(case a=>k_is)))
  (case du=>refine' Dj.ji ?hg0 ?hg1 ?hg2 ?hg3 ?hg4 ?hg5 ?wV ?hg7 ?hg8 ?hg9 ?AEc ?AEb ?AEa ?AEZ ?AEY ?AEX ?AEW ?AEV ?AEU ?AET ?AES ?hza ?hzl;(case hg0|hg1|hg2|hg3|hg4|hg5|wV|hg7|hg8|hg9|AEc|AEb|AEa|AEZ|AEY|AEX|AEW|AEV|AEU|AET|AES=>refine' Dj.B2 ?a ?l ?c ?k;(case a|l|c|k=>k_is));(case hza|hzl=>k_is))
  (case Fc|Fb|Fa|KP|X9|Mh|PN|Ie|GN|Id|D1|En|Mg|Mi|PQ|GO|HL|C9|Eo|GR|GP|FZ|GQ=>refine' Dj.int_mk ?a;(case a=>k_is))
  (case PP|Tg|HK|Ic=>refine' Dj.str_mk ?a;(case a=>k_is))
  (case qV|qU|YR|qR|qX|qW|eO|eN|qT|T8=>k_is)
  (case FV=>refine' Dj.MZ ?a ?l;(case a|l=>k_is))
  (case Em=>refine' Dj.LR ?a ?l;(case a|l=>k_is))
  (case FU=>refine' Dj.MY ?a ?l;(case a|l=>k_is))
  (case El=>refine' Dj.LQ ?a ?l;(case a|l=>k_is))
  (case Dv=>refine' Dj.JW ?a ?l;(case a|l=>k_is))
  (case FW=>refine' Dj.Ma ?a ?l;(case a|l=>k_is))
  (case Xh=>refine' Dj.dO ?a ?l ?s;(case a|l=>k_is);(case s=>decide))
  (case Pb|KY=>refine' Dj.CA ?a ?l ?c ?k;(case a|l|c|k=>k_is))
 case S=>
  intro K H xs a hO hwi az hx;cases hx with
  |cons h1 h2=>
   cases h2;cases h1 with
   |lst hs ha=>
    have e:=L2.gU a.1 _ ha;subst e;refine ⟨_,a.1,rfl,?_,az,fun H' p hp=> .lst (L2.Ao.of hp) (L2.gq _)⟩;rcases hs with (hs|⟨o,hs⟩)|hs
    ·rcases hO _ with z|⟨o,u,z⟩
     ·rw[hs]at z;cases z
     ·rw[hs]at z;cases z
    ·exact .inl ⟨o,hs⟩
    ·exact .inr fun H=> .inr hs
