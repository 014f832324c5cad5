import PyProof.Rows.All
import Wide.All
import OpenK.AllK
import Wide.FinOn
import Lean
import PyProof.EqAt
import PyProof.EqKinds
import PyProof.TupleCall
import PyProof.Rows.TupAdd
import PyProof.NeKinds
import KE.LcSums
import PyProof.ListRange
import PyProof.ListMulRoad
import PyProof.Draws
import PyProof.EnumMake
import PyProof.MinMaxWalk
import PyProof.WalkInts
import PyProof.Rows.SortStr
import PyProof.Rows.SortKeyStr
import PyProof.WalksMore
import KE.KDictLaws
import KE.KDictOf
import KE.KDictList
import PyProof.DictWalks
import PySem.Challenge.RW_pageties_k06_whole_papers
set_option Elab.async false
set_option linter.all false
set_option maxRecDepth 100000
set_option maxHeartbeats 4000000
abbrev VP:=PySem.Value->PySem.Shared->Prop
abbrev jA:=List (PySem.Addr×PySem.Obj)
open List renaming length_map→A0,getElem?_eq_getElem→A3,mem_cons_self→A6,mem_cons_of_mem→A7,range→Aa,mem_append_right→Ab,mem_cons→Ad,mem_singleton→Ae,length_append→Af,size_toArray→Ag,mem_map→Ah,map_cons→Aj,length_range→An,mem_range→Ap,mem_append→Aq,getElem?_map→As,length_cons→Av,getElem?_eq_some_iff→Ax,length_singleton→Ay,mem_filter→Az,mem_append_left→B4,map_congr_left→B6,map_map→B8,map_append→B9,getElem?_set_ne→Bc,replicate→Bf,lookup_cons→Bi,toArray→Bl,nodup_cons→Bm,getElem_mem→Bo,mem_map_of_mem→Bq,pairwise_map→Br,length_nil→Bx,nodup_append→C5,getElem?_set_self→C7,getD_eq_getElem?_getD→C9,idxOf_lt_length_of_mem→Cf,append_nil→Ci,length_set→Cm,append_assoc→Co,pairwise_append→Cq,pairwise_cons→D5,length_take→D7,length_filter_le→D9,pairwise_singleton→Da,mem_of_getElem?→Dc,mergeSort_perm→Dh,getElem_of_mem→Dj,nodup_nil→Dm,pairwise_mergeSort→Dr,nodup_range→Ds,mem_of_mem_take→Dt,replicate_succ→E2,getElem?_append_left→E3,zip_cons_cons→E5,length_drop→E7,eq_nil_of_length_eq_zero→Ea,getElem?_cons_succ→Ee,getElem?_range→Ei,pairwise_lt_range→Ej,any_cons→Ek,all_eq_true→En,not_mem_nil→Eo,drop_eq_getElem_cons→Ex,pairwise_iff_getElem→Ey,find?_cons→F4,take_sublist→F7,flatten_cons→Fa,mem_of_mem_drop→Fe,filter_sublist→Fk,length→Fz,map_nil→G6,range_succ_eq_map→G7,foldl_cons→Gb,getElem?_eq_none→Gi,mem_iff_getElem→Gt,take_length→Ha,map_id'→Hb,getLast?_eq_some_iff→He,getLast?_eq_none_iff→Hf,filterMap_cons→Hi,of_mem_zip→Ho,getElem_idxOf→Hx,map_id→Ib,take_zero→Ii,take_of_length_le→Ij,reverse_cons→Io,length_replicate→Ip,ext_getElem→Iq,filter_cons→Iw,idxOf_cons_self→Jc,mem_erase_of_ne→Jd,filter_map→Jj,mem_filterMap→Jr,zip_nil_right→Js,Pairwise→Kn,drop_length→Kt,any_eq_true→Ku,mem_flatMap→Kx,sublist_nil→Ky,Nodup→Lb,nil_append→Le,range_succ→Lg,foldl→M7
open PySem renaming wpAny_bind→A4,starEach→A9,Value→Ac,Shared→Am,wpAny→Ar,Addr→Aw,model→B2,bootBuiltins→B7,Str→Bg,backTo→Bu,Program→By,eval→Bz,mem_of_lookup→C0,sizeLine_eq→C1,foldedSetIterable→C3,wpAny_newObj_type→C4,Around→C6,wpAny_mono→Cc,compareOp→Ce,World→Cg,Heap→Cl,wpAny_truthy_bool→Cn,Spec→Cr,behindInMarks→Cs,wpAny_holding→Cu,mainGlobals→Cy,cLine→Cz,Builtin→D0,Stmt→Db,SetTable→Df,wpAny_tryCatch→Dl,attributeBase→Dv,assignEach→Dx,swapsWith→Dz,wpAny_Call_Name_kw→E4,codeAny→E8,wpAny_callSpecial?_slot→Ec,wpAny_pyIter_tuple→Ep,wpAny_seqItems→Eu,wpAny_passesOwn→F0,wpAny_field→F8,Keyword→F9,sysModules→Ff,wpAny_pyNext_tuple_item→Fl,wpAny_call_entry→Fn,richCompare→G0,keywordEach→G4,wpAny_letGo→G5,wpAny_evalAll_cons→G9,wpAny_loadPart'→Ga,wpAny_updateSeq→Gc,wpAny_standAt→Gf,intKind→Gj,Pos→Gm,binaryOp→Gn,FuncData→Go,bindArgs→Gp,NameKind→Gq,holding→Gx,cellsFrom→Gy,Paired→Hg,wpAny_newList→Hn,builtinsNs→Hr,call_meets→Hs,wpAny_rule→Hu,tupleKind_room_in1→Hv,sliceBounds→I0,wpAny_of_eq→Ia,wpAny_pyNext_tuple_end→Ic,getItem→If,wpAny_evalAll_nil→Ik,seqItems?→Ir,updateSeq→Is,scanBound→Iv,backToKw→Iz,wpAny_execs_nil→Je,letOwnedTupleGo→Jf,codeAny_mono→Jm,wpAny_typeOf→Jn,Obj→Jp,codeAmong→Jq,IsPart→Jt,standAt→Jx,wpAny_pyIter_list→Jy,wpAny_sequenceKey→Jz,wpAny_pyIter_enum→Kb,valueAt→Kc,pyNext→Ki,Result→Kj,wpAny_forIn_list→Kr,noFill_tuple_add→Ks,concat_meets→L1,defaultsOf→L6,call_meetsIn→La,wpAny_ite_false→Ld,assign→Li,subscripted→Lj,wpAny_runValue→Ll,relayAll→Lm,tupleKind→Lp,PassesOwn→Lq,callerA→Ls,Arguments→Lt,Fin→Lw,rangeSize_one→Ly,seq_tuple_add→Lz,evalPart_none→M1,BindsTo→M9,collect→Mc,Env→Me,lastMarks→Mf,argsOk→Mg,isSubtype→Mh,atKey→Mi,newList→Mj,wpAny_Name→Mk,CmpOp→Ml,truthy→Mm,pyIter→Mn,wpAny_load→Mo,Walks→Mp,again→Mq,wpAny_call→Mr,bindL→Ms,bindC→Mt,Meets→Mu,call→Mw,closureFor→Mx,numAt_eq→Mz
open PySem.W renaming Frag→A5,fnOf→Do,kitOne→Et,kas_rev→Ev,kas_place→F2,kia_one→F3,kas_desc→Fb,kas_descPart→Fc,keepIn→Fm,codeIn→Id,nsIn→Ig,kdv_fn→Ih,codeHdIn→Iu,kas_asc→Ix,methodObj→Jw,envX→L7,OpenLaw→Lf,kas_tail3→Lu,kas_count→Lv,mg_of→M3,KasT→N2
open PySem.Heap renaming get?_push_of_some→A8,lt_size→Ao,get?_push_size→Au,get?_update_other→Bn,size_push→Dy,SameBut→F6,get?_update_self→Gh,size_update→Gz
open Int renaming toNat_natCast→Ai,eq_ofNat_of_zero_le→Cb,min_eq_right→Fs,max_eq_right→Ft,min_eq_left→Gd,max_eq_left→Ge,toNat_of_nonneg→Hj,emod_lt_of_pos→Hw,le_refl→Ja,emod_nonneg→Ji,le_total→L5,zero_add→Lc
open Nat renaming le_refl→Ak,ne_of_lt→At,le_trans→B3,lt_of_lt_of_le→Ba,zero_le→Bh,lt_succ_of_lt→Ca,ne_of_gt→D4,le_of_lt→De,lt_irrefl→Dk,lt_trans→Dp,le_succ→Dq,lt_succ_self→Em,not_lt_zero→F5,lt_succ_iff_lt_or_eq→Fj,lt_of_le_of_lt→Ht,lt_trichotomy→Kf,le_add_right→Kv,zero_add→L8
open Bool renaming false_ne_true→B0,and_eq_true→Be,true_and→Dw,false_or→El,false_eq_true→Es,not_eq_true'→Fd,or_eq_true→Hq,eq_false_iff→Ka,or_false→M2,true_or→Md
open Array renaming length_toList→B1,getD_eq_getD_getElem?→Gk,getD→L4
open Prod renaming fst→B5,snd→Kz,ext→Mv
open Option.some renaming inj→Bb
open PyProof.Rows renaming seqObj→Bd,slot_tuple_getitem→Bt,IntsAre→C2,envOfC→D8,callWith_type1→Du,callWith_kw→Fi,listUpdate_at→Gg,envOfC→Jg,entry_tuple_getitem→Jk,AllBare→Jl,listItems_at→Jo,args_tuple_getitem→Ju,subscriptTail→Kk,IsTup→Kq,seqEpoch_at→Lk,tupleItemsOf_→M0,Subscript_→M6,size_push'→M8,failedOf→Mb,keyKind'→My
open Option renaming map_eq_some_iff→Bj,isSome_iff_exists→Ct,isSome_map→Ef
open PySem.Str renaming ofString→Bk
open PySem.PassesOwn renaming never→Bp
open PySem.NameKind renaming free→Bs,cell→Dd
open Sum renaming inl→Bv,inr→L0
open PySem.Builtin.Builtins renaming bindParams→Bw
open PySem.Value renaming none→C8,type→D3,ref→Eb,int→Gw,notImplemented→Iy,str→Lo,bool→M5
open PySem.Obj renaming mapSeq→Cd,putSet→L9
open PySem.Around renaming under_plainId→Ch
open Pure renaming pure→Cj
open PySem.SetTable renaming below→Ck,grown→Fu
open Or renaming inr→Cp,inl→Dg
open PySem.Builtin.Tuple renaming tupleExact→Cv,tupleItemsOf→Gr
open Ne renaming symm→Cw
open PySem.SeqAt renaming RcNeAt→D1,EqAt→Fo,RcAt→Fx,EqAt→M4
open PySem.Builtin.Slice renaming slicePlaces→D2,sliceApplied→Er,sliceAdjust→Hc
open PySem.F renaming plain_max_loop→D6,plainAttrs_list→Fp,plainAttrs_dict→Fv,args_tuple_add_2→Hl,entry_tuple_add→Hz,slot_tuple_add→Ie,entry_max_loop→Il,plain_max→Kd,entry_max→Ke,kind_max→Kw
open PySem.Heap.SameBut renaming update→Di
open List.Pairwise renaming imp_of_mem→E9,nil→Ed
open ForInStep renaming yield→Eg
open PyProof.Rows.F renaming plain_set_update_loop→Eh
open Min renaming min→Ew
open PySem.Builtin.SmallTypes renaming nextOf→Ez
open Array.Perm renaming refl→F1
open False renaming elim→Fg
open PySem.AutoSeq1 renaming wpAny_loadPart'→Fh
open MonadExcept renaming tryCatch→Fq
open Classical renaming axiomOfChoice→Fw,byContradiction→Hd
open Sum.inl renaming inj→Fy
open True renaming intro→G8
open List.Perm renaming refl→Gu,swap→Ln
open Prod.mk renaming inj→Gv
open List.Sublist renaming append→Hk,refl→Kg
open PySem.Builtin.List renaming listTooLong→Hm
open PySem.Builtin.Range renaming rangeSize→Hy
open PySem.SetTable.below renaming go→Im
open PySem.Data renaming seq→Jb
open PySem.Fin renaming again→Jh
open ToString renaming toString→Jv
open PySem.Paired renaming length→Kh
open Function renaming comp→Kl
open List.cons renaming inj→Ko
open Max renaming max→Lh
open LawfulBEq renaming eq_of_beq→Lr
open PySem.W.KasT renaming ask→Ma
open PySem.SeqAt.EqAt renaming same→N0
open Except renaming ok→N1
namespace L2
open PySem PySem.Spec PyProof.Rows
abbrev f7:=Sum Int Bg
def yT:f7->Ac->Bool
 | .inl k,v=>Ac.isInt k v
 | .inr x,v=>Ac.isStrOf x v
def û(w:Cg):f7->Int
 | .inl k=>hashInt k
 | .inr x=>hashStr w x
theorem rK:∀{k:f7} {v:Ac},yT k v=true->(∃i t,k=Bv i/\v=Gw i t)\/(∃x t,k=L0 x/\v=Lo x t)
 | .inl i,v,h=>by obtain⟨t,e⟩:=Ac.isInt_shape (k:=i) (v:=v) h;exact .inl ⟨i,t,rfl,e⟩
 | .inr x,v,h=>by obtain⟨t,e⟩:=Ac.isStrOf_shape (x:=x) (v:=v) h;exact .inr ⟨x,t,rfl,e⟩
def Xc(i:Int)(t:Tok):yT (.inl i) (.int i t)=true:=by simp[yT,Ac.isInt]
def Xd(x:Bg)(t:Tok):yT (.inr x) (.str x t)=true:=by simp[yT,Ac.isStrOf]
def Ą(a b:Int):decide ((Bv a:f7)=Bv b)=(a==b):=by
 by_cases e:a=b
 .subst e;simp
 .have h:¬(Bv a:f7)=Bv b:=λq=>e (Fy q);rw[decide_eq_false h];exact(beq_eq_false_iff_ne.mpr e).symm
def ć(a b:Bg):decide ((L0 a:f7)=L0 b)=decide (a=b):=by
 by_cases e:a=b
 .subst e;simp
 .have h:¬(L0 a:f7)=L0 b:=λq=>e (L0.inj q);rw[decide_eq_false h,decide_eq_false e]
def ą(a:Int)(b:Bg):decide ((Bv a:f7)=L0 b)=false:=decide_eq_false (λq=>nomatch q)
def Ć(a:Bg)(b:Int):decide ((L0 a:f7)=Bv b)=false:=decide_eq_false (λq=>nomatch q)
def mC(prog:By)(w:Cg):PySem.KeyKind prog w f7 where
 is:=yT
 hash:=û w
 inj:=λv a b ha hb=>by
  rcases rK ha with⟨i,t,rfl,rfl⟩|⟨x,t,rfl,rfl⟩
  .rcases rK hb with⟨j,u,rfl,e⟩|⟨y,u,rfl,e⟩
   .injection e with e1 _;rw[e1]
   .exact nomatch e
  .rcases rK hb with⟨j,u,rfl,e⟩|⟨y,u,rfl,e⟩
   .exact nomatch e
   .injection e with e1 _;rw[e1]
 byValue:=λk v h=>by rcases rK h with⟨i,t,rfl,rfl⟩|⟨x,t,rfl,rfl⟩<;>rfl
 pyHash:=λhv h=>by
  rcases rK hv with⟨i,t,rfl,rfl⟩|⟨x,t,rfl,rfl⟩
  .exact wpAny_pyHash_int h
  .exact wpAny_pyHash_str h
 eqBool:=λhu hv h=>by
  rcases rK hu with⟨i,t,rfl,rfl⟩|⟨x,t,rfl,rfl⟩
  .rcases rK hv with⟨j,u,rfl,rfl⟩|⟨y,u,rfl,rfl⟩
   .rw[Ą]at h;exact wpAny_eqBool_int h
   .rw[ą]at h;exact M4.int_str i t y u _ _ _ _ h
  .rcases rK hv with⟨j,u,rfl,rfl⟩|⟨y,u,rfl,rfl⟩
   .rw[Ć]at h;exact M4.str_int x t j u _ _ _ _ h
   .rw[ć]at h;exact wpAny_eqBool_str h
 «strs»:=λk x t v h=>by
  rcases rK h with⟨i,u,rfl,e⟩|⟨y,u,rfl,e⟩
  .exact nomatch e
  .injection e with e1 _;subst e1;cases v<;>rfl
def US(prog:By)(w:Cg)(i:Int)(t:Tok):(mC prog w).is (.inl i) (.int i t)=true:=Xc i t
def UT(prog:By)(w:Cg)(x:Bg)(t:Tok):(mC prog w).is (.inr x) (.str x t)=true:=Xd x t
inductive V where
 |non|bl (b:Bool)|int (i:Int)|str (x:Bg)|byt (b:Array UInt8)|flt (b:UInt64)|ref (a:Aw)|ty (n:String)
 deriving DecidableEq
def i6:V->Ac->Prop
 | .non,u=>u=C8
 | .bl b,u=>u=M5 b
 | .int i,u=>∃t,u=Gw i t
 | .str x,u=>∃t,u=Lo x t
 | .byt b,u=>∃t,u=Ac.bytes b t
 | .flt b,u=>∃t,u=Ac.float b t
 | .ref a,u=>u=Eb a
 | .ty n,u=>u=D3 n
abbrev W3:List V->List Ac->Prop:=Hg i6
def W3.length{xs:List V}{us:List Ac}(r:W3 xs us):xs.length=us.length:=Kh r
theorem W3.get:∀{xs:List V} {us:List Ac} {i:Nat} {x:V},W3 xs us->xs[i]?=some x->∃u,us[i]?=some u/\i6 x u
 |_,_,_,_,.nil,e=>by simp at e
 |_,_,0,_,.cons r _,e=>by simp at e;subst e;exact⟨_,rfl,r⟩
 |_,_,i+1,x,.cons _ t,e=>by obtain⟨u,h1,h2⟩:=W3.get (i:=i) (x:=x) t (by simpa using e);exact⟨u,by simpa using h1,h2⟩
theorem W3.append:∀{xs ys:List V} {us ws:List Ac},W3 xs us->W3 ys ws->W3 (xs++ys) (us++ws)
 |_,_,_,_,.nil,s=>s
 |_,_,_,_,.cons r t,s=>.cons r (W3.append t s)
theorem W3.take:∀{xs:List V} {us:List Ac} (n:Nat),W3 xs us->W3 (xs.take n) (us.take n)
 |_,_,0,_=>.nil
 |_,_,_+1,.nil=>.nil
 |_,_,n+1,.cons r t=>.cons r (W3.take n t)
theorem W3.drop:∀{xs:List V} {us:List Ac} (n:Nat),W3 xs us->W3 (xs.drop n) (us.drop n)
 |_,_,0,r=>r
 |_,_,_+1,.nil=>.nil
 |_,_,n+1,.cons _ t=>W3.drop n t
def pV:Option V->Option Ac->Prop
 |some v,some u=>i6 v u
 |none,none=>True
 |_,_=>False
def KV{κ:Type}:List (κ×V)->List (κ×Ac)->Prop:=Hg λ(p:κ×V) (q:κ×Ac)=>p.1=q.1/\i6 p.2 q.2
def kV:f7->V
 | .inl i=>.int i
 | .inr x=>.str x
inductive HO where
 /-- a list -/
 |lst (xs:List V)
 /-- a tuple (never changes) -/
 |tup (xs:List V)
 /-- a dict whose keys are ints and texts;one whose keys are tuples of ints and texts (the empty one is fz) -/
 |dK (kvs:List (f7×V))|dT (kvs:List (List f7×V))
 /-- a set of ints: its members,its size -/
 |set (S:Int->Bool) (n:Nat)
 /-- an instance of the class at C,its dict at dx,its attributes -/
 |ins (C dx:Aw) (fs:List (Bg×V))
 /-- the dict of the instance at x -/
 |own (x:Aw)
 /-- the dict of an exception -/
 |xd (fs:List (Bg×V))
 /-- a bound method,f of x -/
 |met (f x:Aw)
 /-- a range object lo,lo+1,.. below hi -/
 |rng (lo hi:Int)
 /-- a thing that is known to the object (the script;a dict while a loop walks it): read,never written while it is so -/
 |frz (o:Jp) (u:HO)
 /-- a code object's table -/
 |tbl (ps:Array Ac)
 /-- any other thing,by what is true of its one object (a def of one's own: SetO a S n:=HO.ext λh=>..) -/
 |ext (φ:Cl->Prop)
abbrev Hp:=Aw->Option HO
def upd(H:Hp)(a:Aw)(o:HO):Hp:=λb=>if b=a then some o else H b
def v4:upd H a o a=some o:=by unfold upd;rw[if_pos rfl]
def v9{a b:Aw}(h:b≠a):upd H a o b=H b:=by unfold upd;rw[if_neg h]
def ż:upd (upd H a o) a u=upd H a u:=by funext b;unfold upd;split<;>rfl
def Zl{H:Hp}{o u:HO}(h:H a=some o)(h':H b=some u)(d:o≠u):a≠b:=by intro e;subst e;rw[h]at h';exact d (Bb h')
def Z3{H:Hp}{o:HO}(h:H a=some o)(h':H b=none):a≠b:=by intro e;subst e;rw[h]at h';cases h'
def QD(ps:Array Ac):Bg:=match (ps[0]?:Option Ac) with|some (Lo q _)=>q++".<locals>."++"<lambda>" |_=>"<lambda>"
def qL(h:Cl)(a:Aw)(items:Array Ac):Prop:=∃o,h.get? a=some o/\o.cls = .type "tuple"/\(∃n,o.data = .seq items n)/\o.dict=none
def qL.isTup(x:qL h a items):Kq h a items:=let ⟨o,e,c,d,_⟩:=x;⟨o,e,c,d⟩
def qL.new(h:Cl)(items:Array Ac):qL (h.push { cls:=.type "tuple",data:=.seq items }) h.objs.size items:=⟨_,Au _ rfl,rfl,⟨_,rfl⟩,rfl⟩
section
variable(P:By)(w:Cg)
def lH(H:Hp)(h:Cl)(a:Aw):HO->Prop
 | .lst xs=>xs.length<=sizeLine/\∃(its:List Ac) (n:Nat),W3 xs its/\h.get? a=some { cls:=.type "list",data:=.seq its.toArray n }
 | .tup xs=>xs.length<=sizeLine/\∃its:List Ac,W3 xs its/\qL h a its.toArray
 | .dK kvs=>kvs.length<=sizeLine/\(a==Ff)=false/\∃vs,KV kvs vs/\h.DictOf (mC P w) a vs
 | .dT kvs=>kvs.length<=sizeLine/\(a==Ff)=false/\∃xs:List (List f7×Aw×Ac),
   Hg (λ(p:List f7×V) (q:List f7×Aw×Ac)=>p.1=q.1/\H q.2.1=some (.tup (p.1.map kV))/\i6 p.2 q.2.2) kvs xs /\
   ∃o es ep,h.get? a=some o/\o.ExactDict/\o.data = .dict es ep/\es.toList=xs.map (entryOfKey (Lp (mC P w)))/\(xs.map (·.1)).Nodup
 | .set S n=>h.SetOf (Gj P w) a S n
 | .ins C dx fs=>H dx=some (.own a)/\fs.length<=1000/\dx≠a/\h.get? a=some (PySem.W.instObj C dx) /\
   ∃mA,h.Ns1 dx mA/\(∀f,pV (fs.lookup f) (mA f))/\PySem.Within mA (fs.map (·.1))
 | .own _=>∃o,h.get? a=some o
 | .xd fs=>∃mA,h.Ns1 a mA/\∀f,pV (fs.lookup f) (mA f)
 | .rng lo hi=>∃t u v,h.get? a=some { cls:=.type "range",data:=.fields #[.int lo t,.int hi u,.int 1 v] }
 | .frz o u=>h.get? a=some o/\lH H h a u
 | .tbl ps=>∃qs:Array Ac,h.get? a=some { cls:=.none,data:=.fields qs }/\TriplesOk qs.toList/\∀(p:Gm) (v:Ac),Jq p qs.toList=some v->∃(c:Aw) (oc:Jp) (vs:Array Ac) (t:Tok),v = .ref c/\H c=some (.frz oc (.own a))/\oc.data = .fields vs/\vs[1]?=some (.str (QD ps) t)
 | .met f x=>h.get? a=some (Jw (.ref f) (.ref x))
 | .ext φ=>φ h/\(∃o,h.get? a=some o)/\∀h1 h2:Cl,φ h1->(∀o,h1.get? a=some o->h2.get? a=some o)->φ h2
def lB(H:Hp)(h:Cl):Prop:=∀a o,H a=some o->lH P w H h a o
end
section
variable{P:By}{w:Cg}{H H':Hp}{h h':Cl}{a:Aw}{o:HO}
theorem lH.lt(x:lH P w H h a o):a<h.objs.size:=by
 cases o with
 |lst xs=>obtain⟨_,_,_,_,e⟩:=x;exact Ao e
 |tup xs=>obtain⟨_,_,_,p⟩:=x;exact p.isTup.lt
 |dK kvs=>obtain⟨_,_,_,_,o,_,_,e,_⟩:=x;exact Ao e
 |dT kvs=>obtain⟨_,_,_,_,o,_,_,e,_⟩:=x;exact Ao e
 |set S n=>obtain⟨o,_,_,_,e,_⟩:=x;exact Ao e
 |ins C dx fs=>obtain⟨_,_,_,e,_⟩:=x;exact Ao e
 |own y=>obtain⟨_,e⟩:=x;exact Ao e
 |xd fs=>obtain⟨_,⟨_,_,_,e,_⟩,_⟩:=x;exact Ao e
 |rng lo hi=>obtain⟨_,_,_,e⟩:=x;exact Ao e
 |frz ob u=>obtain⟨e,_⟩:=x;exact Ao e
 |tbl ps=>obtain⟨_,e,_⟩:=x;exact Ao e
 |met f y=>exact Ao (show h.get? a=some _ from x)
 |ext φ=>obtain⟨_,⟨_,e⟩,_⟩:=x;exact Ao e
theorem Hg.mapP{α β:Type}{F G:α->β->Prop}:∀{l₁:List α} {l₂:List β},Hg F l₁ l₂->(∀a b,F a b->G a b)->Hg G l₁ l₂
 |_,_,.nil,_=>.nil
 |_,_,.cons r t,f=>.cons (f _ _ r) (Hg.mapP t f)
theorem lH.stay(x:lH P w H h a o)(k:∀b u,(b=a\/H b=some (.own a))->h.get? b=some u->h'.get? b=some u)(ho:∀b,H b=some (.own a)->H' b=some (.own a))(ht:∀b xs,H b=some (.tup xs)->H' b=some (.tup xs))(hz:∀b ob u,H b=some (.frz ob u)->H' b=some (.frz ob u)):lH P w H' h' a o:=by
 induction o with
 |lst xs=>obtain⟨z,its,n,r,e⟩:=x;exact⟨z,its,n,r,k _ _ (.inl rfl) e⟩
 |tup xs=>obtain⟨z,its,r,ob,e,c⟩:=x;exact⟨z,its,r,ob,k _ _ (.inl rfl) e,c⟩
 |dK kvs=>obtain⟨z,y,vs,r,ob,es,ep,e,c⟩:=x;exact⟨z,y,vs,r,ob,es,ep,k _ _ (.inl rfl) e,c⟩
 |dT kvs=>obtain⟨z,y,xs,r,ob,es,ep,e,c⟩:=x;exact⟨z,y,xs,Hg.mapP r λp q z=>⟨z.1,ht _ _ z.2.1,z.2.2⟩,ob,es,ep,k _ _ (.inl rfl) e,c⟩
 |set S n=>obtain⟨ob,es,ep,t,e,c⟩:=x;exact⟨ob,es,ep,t,k _ _ (.inl rfl) e,c⟩
 |ins C dx fs=>obtain⟨d,z,ne,e,mA,⟨od,es,ep,e2,c⟩,r⟩:=x;exact⟨ho _ d,z,ne,k _ _ (.inl rfl) e,mA,⟨od,es,ep,k _ _ (.inr d) e2,c⟩,r⟩
 |own y=>obtain⟨ob,e⟩:=x;exact⟨ob,k _ _ (.inl rfl) e⟩
 |xd fs=>obtain⟨mA,⟨od,es,ep,e,c⟩,r⟩:=x;exact⟨mA,⟨od,es,ep,k _ _ (.inl rfl) e,c⟩,r⟩
 |rng lo hi=>obtain⟨t,u,v,e⟩:=x;exact⟨t,u,v,k _ _ (.inl rfl) e⟩
 |frz ob u ih=>obtain⟨e,q⟩:=x;exact⟨k _ _ (.inl rfl) e,ih q⟩
 |tbl ps=>obtain⟨qs,e,t,c⟩:=x;exact⟨qs,k a _ (.inl rfl) e,t,λp v q=>let ⟨c',oc,vs,tk,z1,z2,z3⟩:=c p v q;⟨c',oc,vs,tk,z1,hz _ _ _ z2,z3⟩⟩
 |met f y=>have e:h.get? a=some (Jw (.ref f) (.ref y)):=x;show h'.get? a=some (Jw (.ref f) (.ref y));exact k a _ (.inl rfl) e
 |ext φ=>obtain⟨p,⟨o,e⟩,st⟩:=x;exact⟨st _ _ p λo q=>k _ _ (.inl rfl) q,⟨o,k _ _ (.inl rfl) e⟩,st⟩
def lB.lt(x:lB P w H h)(e:H a=some o):a<h.objs.size:=(x a o e).lt
theorem lB.fresh(x:lB P w H h)(e:h.objs.size<=a):H a=none:=by
 cases q:H a with
 |none=>rfl
 |some u=>exact absurd (Ba (x.lt q) e) (Dk _)
def lB.kept(x:lB P w H h)(k:∀b u,h.get? b=some u->h'.get? b=some u):lB P w H h':=λa o e=>(x a o e).stay (λb u _ q=>k b u q) (λ_ q=>q) (λ_ _ q=>q) λ_ _ _ q=>q
def lB.laid(x:lB P w H h)(k:∀b u,h.get? b=some u->h'.get? b=some u)(hp:h.objs.size<=a)(new:lH P w (upd H a o) h' a o):lB P w (upd H a o) h':=λb u e=>by
 have hn:=x.fresh hp;by_cases hb:b=a
 .subst hb;rw[v4]at e;cases e;exact new
 .rw[v9 hb]at e
  exact(x b u e).stay (λc v _ q=>k c v q) (λc q=>by rw[v9 (Z3 q hn)];exact q) (λc xs q=>by rw[v9 (Z3 q hn)];exact q) λc ob xs q=>by rw[v9 (Z3 q hn)];exact q
end
def Rd(H:Hp)(a:Aw)(u:HO):Prop:=H a=some u\/∃o,H a=some (.frz o u)
def Rd.of{H:Hp}{u:HO}(h:H a=some u):Rd H a u:=.inl h
def Rd.ok(r:Rd H a u)(x:lB P w H h):lH P w H h a u:=by
 rcases r with r|⟨o,r⟩
 .exact x a u r
 .obtain⟨_,q⟩:=x a _ r;exact q
def CD:Option HO->Prop
 |some (.lst _)=>True
 |some (.dK _)=>True
 |some (.dT _)=>True
 |some (.set _ _)=>True
 |some (.ins _ _ _)=>True
 |some (.ext _)=>True
 |_=>False
section
variable{P:By}{w:Cg}{H:Hp}{h h':Cl}{x e:Aw}{o':HO}
def lB.write(ok:lB P w H h)(mu:CD (H x))(he:e=x\/H e=some (.own x))(k:∀b u,b≠e->h.get? b=some u->h'.get? b=some u)(gK:∃u,h'.get? e=some u)(new:lH P w (upd H x o') h' x o'):lB P w (upd H x o') h':=λb u q=>by
 have iV:∀c y,H c=some (.own y)->c≠x:=λc y r z=>by subst z;rw[r]at mu;exact mu
 have ntup:∀c xs,H c=some (.tup xs)->c≠x:=λc xs r z=>by subst z;rw[r]at mu;exact mu
 have nfrz:∀c ob u,H c=some (.frz ob u)->c≠x:=λc ob u r z=>by subst z;rw[r]at mu;exact mu
 by_cases hb:b=x
 .subst hb;rw[v4]at q;cases q;exact new
 .rw[v9 hb]at q;by_cases fY:b=e
  .have q':H b=some (.own x):=by
    rcases he with z|z
    .exact absurd (fY.trans z) hb
    .rw[fY];exact z
   rw[q]at q';cases q';obtain⟨v,hv⟩:=gK;exact⟨v,by rw[fY];exact hv⟩
  .refine(ok b u q).stay (λc v hc r=>k c v ?_ r) (λc r=>by rw[v9 (iV c b r)];exact r) (λc xs r=>by rw[v9 (ntup c xs r)];exact r) λc ob xs r=>by rw[v9 (nfrz c ob xs r)];exact r
   rcases hc with rfl|hc
   .exact fY
   .rintro rfl;rcases he with z|z
    .exact iV c b hc z
    .rw[hc]at z;cases z;exact hb rfl
end
structure Un(fs ex:List Aw)(H H':Hp)(h h':Cl):Prop where
 keep:∀b o,h.get? b=some o->H b=none->b∉fs->b∉ex->h'.get? b=some o
 slot:∀b o,h.get? b=some o->H b=none->b∈fs->b∉ex->∃sl,h'.get? b=some { o with slots:=sl }
 free:∀b o,h.get? b=some o->H b=none->b∉ex->H' b=none
 there:∀b o,h.get? b=some o->b∉ex->∃o',h'.get? b=some o'
 tups:∀b xs,H b=some (.tup xs)->H' b=some (.tup xs)
 frzs:∀b o u,H b=some (.frz o u)->H' b=some (.frz o u)
 tbls:∀b ps,H b=some (.tbl ps)->∃more,H' b=some (.tbl (ps++more))
section
variable{fs fs' ex ex':List Aw}{H H1 H2:Hp}{h h1 h2 h':Cl}{a x e:Aw}{o:HO}
def Un.any(u:Un fs ex H H1 h h1){b:Aw}{ob:Jp}(q:h.get? b=some ob)(n:H b=none)(hx:b∉ex):∃sl,h1.get? b=some { ob with slots:=sl }:=by
 by_cases hb:b∈fs
 .exact u.slot b ob q n hb hx
 .exact⟨ob.slots,u.keep b ob q n hb hx⟩
def Un.trans(a:Un fs ex H H1 h h1)(b:Un fs ex H1 H2 h1 h2):Un fs ex H H2 h h2 where
 keep:=λc ob q n hc hx=>b.keep c ob (a.keep c ob q n hc hx) (a.free c ob q n hx) hc hx
 slot:=λc ob q n hc hx=>by obtain⟨sl,e1⟩:=a.slot c ob q n hc hx;obtain⟨sl',e2⟩:=b.slot c _ e1 (a.free c ob q n hx) hc hx;exact⟨sl',e2⟩
 free:=λc ob q n hx=>by obtain⟨o',e1⟩:=a.there c ob q hx;exact b.free c o' e1 (a.free c ob q n hx) hx
 there:=λc ob q hx=>by obtain⟨o',e1⟩:=a.there c ob q hx;exact b.there c o' e1 hx
 tups:=λc xs q=>b.tups c xs (a.tups c xs q)
 frzs:=λc ob xs q=>b.frzs c ob xs (a.frzs c ob xs q)
 tbls:=λc ps q=>by obtain⟨m1,e1⟩:=a.tbls c ps q;obtain⟨m2,e2⟩:=b.tbls c _ e1;exact⟨m1++m2,by rw[e2,Array.append_assoc]⟩
def Un.kept(k:∀b u,h.get? b=some u->h'.get? b=some u):Un fs ex H H h h':=
 ⟨λb ob q _ _ _=>k b ob q,λb ob q _ _ _=>⟨ob.slots,k b ob q⟩,λ_ _ _ n _=>n,λb ob q _=>⟨ob,k b ob q⟩,λ_ _ q=>q,λ_ _ _ q=>q,λ_ ps q=>⟨#[],by rw[q];simp⟩⟩
def Un.refl:Un fs ex H H h h:=Un.kept λ_ _ q=>q
def Un.laid(k:∀b u,h.get? b=some u->h'.get? b=some u)(hp:h.objs.size<=a)(hn:H a=none):Un fs ex H (upd H a o) h h' where
 keep:=λb u q _ _ _=>k b u q
 slot:=λb u q _ _ _=>⟨u.slots,k b u q⟩
 free:=λb u q n _=>by rw[v9 (At (Ba (Ao q) hp))];exact n
 there:=λb u q _=>⟨u,k b u q⟩
 tups:=λb xs q=>by rw[v9 (Z3 q hn)];exact q
 frzs:=λb u xs q=>by rw[v9 (Z3 q hn)];exact q
 tbls:=λb ps q=>⟨#[],by rw[v9 (Z3 q hn),q];simp⟩
def Un.write(mu:CD (H x))(he:e=x\/H e=some (.own x))(k:∀b u,b≠e->h.get? b=some u->h'.get? b=some u)(gK:∃u,h'.get? e=some u):Un fs ex H (upd H x o) h h':=by
 have hx:∀b,H b=none->b≠x:=λb n z=>by subst z;rw[n]at mu;exact mu
 have hb:∀b,H b=none->b≠e:=λb n z=>by
  subst z;rcases he with r|r
  .exact hx b n r
  .rw[n]at r;cases r
 have hm:∀b u,H b=some u->¬CD (some u)->b≠x:=λb u q nm z=>by subst z;rw[q]at mu;exact nm mu
 refine⟨λb u q n _ _=>k b u (hb b n) q,λb u q n _ _=>⟨u.slots,k b u (hb b n) q⟩,λb u q n _=>by rw[v9 (hx b n)];exact n,λb u q _=>?_,
  λb xs q=>by rw[v9 (hm b _ q λz=>z)];exact q,λb u xs q=>by rw[v9 (hm b _ q λz=>z)];exact q,λb ps q=>⟨#[],by rw[v9 (hm b _ q λz=>z),q];simp⟩⟩
 by_cases fY:b=e
 .subst fY;exact gK
 .exact⟨u,k b u fY q⟩
def Un.mono(u:Un fs ex H H1 h h1)(hs:∀b∈fs,b∈fs')(hx:∀b∈ex,b∈ex'):Un fs' ex' H H1 h h1:=
 ⟨λb ob q n hb he=>u.keep b ob q n (λz=>hb (hs b z)) λz=>he (hx b z),λ_ _ q n _ he=>u.any q n λz=>he (hx _ z),λb ob q n he=>u.free b ob q n λz=>he (hx b z),λb ob q he=>u.there b ob q λz=>he (hx b z),u.tups,u.frzs,u.tbls⟩
end
def GJ(h:Cl)(H:Hp):List Aw:=(Aa h.objs.size).filter λa=>(H a).isSome
def sY(h:Cl)(H:Hp):Cl:=PySem.W.hideAll h (GJ h H)
def WZ(h:Cl)(H:Hp):(sY h H).objs.size=h.objs.size:=PySem.W.hideAll_size _ _
def Î{h:Cl}{H:Hp}{b:Aw}{o:Jp}(e:h.get? b=some o)(n:H b=none):(sY h H).get? b=some o:=PySem.W.hideAll_get _ e λhm=>by have q:(H b).isSome=true:=(Az.mp hm).2;rw[n]at q;simp at q
theorem Ŗ{b:Aw}{o:Jp}(e:(sY h H).get? b=some o):h.get? b=some o/\H b=none:=by
 have e':h.get? b=some o:=PySem.W.of_hideAll (GJ h H) e;refine⟨e',?_⟩
 cases q:H b with
 |none=>rfl
 |some x=>have hm:b∈GJ h H:=Az.mpr ⟨Ap.mpr (Ao e'),by simp[q]⟩;have z:(sY h H).get? b=none:=PySem.W.hideAll_none (GJ h H) hm;rw[z]at e;cases e
def Ł(g h:Cl)(L:Aw):jA:=(Aa h.objs.size).filterMap λa=>if a=L\/(g.get? a).isSome=true then none else (h.get? a).map λo=>(a,o)
def rest(g h:Cl)(L d:Aw):jA:=(Ł g h L).filter λp=>decide (p.1≠d)
structure Mod(K:A5)(mg:Bg->Option Ac)(base:Cl):Prop where
 kin:K.In base
 glob:base.Ns Cy mg
 blt:∃mb,base.Ns Hr mb/\∀x:Bg,x≠"__name__"->mb x=B7 x
 nolimit:base.NoLimit
 bm:∃bm ob,mg "__builtins__" = some (.ref bm)/\bm≠Hr/\base.get? bm=some ob/\ob.cls = .type "module"/\ob.dict=some Hr/\ob.data = .plain
structure Cx where
 prog:By
 w:Cg
 K:A5
 mg:Bg->Option Ac
 base:Cl
 A:C6
 N:List Bg
 s₀:Am
 H₀:Hp
 env:Me
 outer:List Me
 stack:List Me
 ex:List Aw
 fn:Bg->Bool
 calm:Bool
 pn:jA
 xe:VP
def oO(l:List Me):List Aw:=l.filterMap (·.frame)
abbrev Cx.fs(X:Cx):List Aw:=oO X.outer
def mX(sc:Scope)(x:Bg):Prop:=sc.names.lookup x=some .local\/sc.names.lookup x=some .cell\/sc.names.lookup x=some .free
def nG(sc:Scope)(x:Bg):Prop:=sc.names.lookup x=some .local\/sc.names.lookup x=some .cell
def ó(env:Me)(h:Cl)(m:Bg->Option Ac)(x:Bg)(u:Ac):Prop:=(env.kindOf x=some .local/\m x=some u)\/((env.kindOf x=some .cell\/env.kindOf x=some .free)/\∃c,env.cells.lookup x=some c/\h.IsCell c (some u))
structure Cx.Ok(X:Cx):Prop where
 mod:Mod X.K X.mg X.base
 kind:X.env.scope.kind = .function
 glob:X.env.globals=Cy
 blt:X.env.builtins=Hr
 above:X.s₀.heap.objs.size<=X.env.locals
 inj:∀x y c,X.env.cells.lookup x=some c->X.env.cells.lookup y=some c->x=y
 has:∀x,(X.env.kindOf x=some .cell\/X.env.kindOf x=some .free)->∃c,X.env.cells.lookup x=some c
 cab:∀x c,X.fn x=true->X.env.cells.lookup x=some c->X.s₀.heap.objs.size<=c
 hd:X.calm=true->X.A.handled=none
 frames:X.A.frames=some X.stack
 stk:X.stack=X.outer\/(X.stack=X.env::X.outer/\X.env.frame=some X.env.locals)
 exf:∀b∈X.ex,b≠X.env.locals/\∀x c,X.env.cells.lookup x=some c->c≠b
 bs:∀b o,X.base.get? b=some o->X.s₀.heap.get? b=some o/\X.H₀ b=none
 bsz:X.base.objs.size<=X.s₀.heap.objs.size
 noex:∀b o,X.base.get? b=some o->b∉X.ex
 exfs:∀b∈X.ex,b∉X.fs
 funs:X.s₀.heap.FunFrames X.base X.outer
 frf:∀b∈X.fs,X.H₀ b=none
structure d4(X:Cx)(aa:jA)(U:List (Option V))(H:Hp)(s:Am):Prop where
 ok:X.Ok
 os:s.os=X.s₀.os
 bare:Jl s.gens
 base:Un X.fs X.ex X.H₀ H X.s₀.heap s.heap
 loc:∃m,s.heap.Ns X.env.locals m/\∀(i:Nat) (x:Bg) (v:V),X.N[i]?=some x->U[i]?=some (some v)->mX X.env.scope x->∃u,i6 v u/\ó X.env s.heap m x u
 cell:∀x c,X.env.cells.lookup x=some c->∃v,s.heap.IsCell c v
 free:H X.env.locals=none
 freeC:∀x c,X.env.cells.lookup x=some c->H c=none
 pin:∀p∈X.pn++aa,s.heap.get? p.1=some p.2/\H p.1=none/\p.1≠X.env.locals/\p.1∉X.fs/\∀v,p.2.data≠.cell v
 hok:lB X.prog X.w H s.heap
 len:U.length=X.N.length
section
variable{X:Cx}{aa:jA}{U:List (Option V)}{H H':Hp}{s:Am}{h':Cl}
def Cx.Ok.nofr(ok:X.Ok){b:Aw}{o:Jp}(e:X.base.get? b=some o):b∉X.fs:=λhb=>by
 have:=(ok.funs.mem hb).1
 rw[e]at this;cases this
def d4.bs(I:d4 X aa U H s):∀b o,X.base.get? b=some o->s.heap.get? b=some o/\H b=none:=λb o e=>
 ⟨I.base.keep b o (I.ok.bs b o e).1 (I.ok.bs b o e).2 (I.ok.nofr e) (I.ok.noex b o e),I.base.free b o (I.ok.bs b o e).1 (I.ok.bs b o e).2 (I.ok.noex b o e)⟩
def d4.bk(I:d4 X aa U H s):∀b o,X.base.get? b=some o->s.heap.get? b=some o:=λb o e=>(I.bs b o e).1
def d4.mod(I:d4 X aa U H s):Mod X.K X.mg X.base:=I.ok.mod
def d4.kIn(I:d4 X aa U H s):X.K.In s.heap:=I.ok.mod.kin.keeps I.bk
def d4.nolimit(I:d4 X aa U H s):s.heap.NoLimit:=I.ok.mod.nolimit.keeps I.bk
def d4.lt(I:d4 X aa U H s):X.env.locals<s.heap.objs.size:=let ⟨_,hn,_⟩:=I.loc;hn.lt
def d4.sz(I:d4 X aa U H s):X.s₀.heap.objs.size<=s.heap.objs.size:=B3 I.ok.above (De I.lt)
def d4.nofs(I:d4 X aa U H s){a:Aw}(h:s.heap.objs.size<=a):a∉X.fs:=λhb=>by obtain⟨_,o,ho,_⟩:=I.ok.funs.mem hb;exact absurd (Ba (Ao ho) (B3 I.sz h)) (Dk _)
def d4.cne(I:d4 X aa U H s):∀x c,X.env.cells.lookup x=some c->c≠X.env.locals:=λx c e z=>by obtain⟨v,o,ho,hd⟩:=I.cell x c e;obtain⟨m,⟨o',es,ep,bh,bn,_⟩,_⟩:=I.loc;rw[z,bh]at ho;cases ho;rw[bn]at hd;cases hd
def d4.funs(I:d4 X aa U H s):s.heap.FunFrames X.base X.outer:=by
 have all:∀(l:List Me),(∀b∈oO l,b∈X.fs)->X.s₀.heap.FunFrames X.base l->s.heap.FunFrames X.base l:=by
  intro l
  induction l with
  |nil=>intro _ _;trivial
  |cons env r ih=>
   intro hs hl;obtain⟨hk,⟨L,o,hf,hn,ho,hd⟩,hr⟩:=hl;have hL:L∈X.fs:=hs L (by unfold oO;rw[Hi,hf];exact A6)
   obtain⟨sl,e⟩:=I.base.slot L o ho (I.ok.frf L hL) hL λz=>I.ok.exfs L z hL;exact⟨hk,⟨L,_,hf,hn,e,hd⟩,ih (λb hb=>hs b (by unfold oO;rw[Hi,hf];exact A7 _ hb)) hr⟩
 exact all X.outer (λ_ hb=>hb) I.ok.funs
def d4.stack(I:d4 X aa U H s):s.heap.FunFrames X.base X.stack:=by
 rcases I.ok.stk with e|⟨e,hf⟩
 .rw[e];exact I.funs
 .rw[e];obtain⟨m,hn,_⟩:=I.loc;refine .cons (by rw[I.ok.kind];decide) hf hn ?_ I.funs
  exact Cl.get?_none_of_le (B3 I.ok.bsz I.ok.above)
def d4.stkSub(I:d4 X aa U H s):∀b∈oO X.stack,b∈X.env.locals::X.fs:=λb hb=>by
 rcases I.ok.stk with e|⟨e,hf⟩
 .rw[e]at hb;exact A7 _ hb
 .rw[e]at hb;unfold oO at hb;rw[Hi,hf]at hb;exact hb
def d4.stkFree(I:d4 X aa U H s):∀b∈oO X.stack,H b=none:=λb hb=>by
 rcases Ad.mp (I.stkSub b hb) with e|hb
 .rw[e];exact I.free
 .obtain⟨_,o,ho,_⟩:=I.ok.funs.mem hb;exact I.base.free b o ho (I.ok.frf b hb) λz=>I.ok.exfs b z hb
def d4.stepN{t':Nat}{d':Drawn}{ch:List Aw}(I:d4 X aa U H s)(bM:∀b∈ch,(b∈X.ex\/X.s₀.heap.get? b=none)/\b≠X.env.locals/\(∀x c,X.env.cells.lookup x=some c->c≠b)/\∀p∈X.pn++aa,p.1≠b)(keep:∀b o,b≠X.env.locals->b∉X.fs->b∉ch->s.heap.get? b=some o->H b=none->h'.get? b=some o)(slot:∀b o,b≠X.env.locals->b∈X.fs->b∉ch->s.heap.get? b=some o->H b=none->∃sl,h'.get? b=some { o with slots:=sl })(free:∀b o,b∉ch->s.heap.get? b=some o->H b=none->H' b=none)(there:∀b o,b∉ch->s.heap.get? b=some o->∃o',h'.get? b=some o')(tups:∀b xs,H b=some (.tup xs)->H' b=some (.tup xs))(frzs:∀b o u,H b=some (.frz o u)->H' b=some (.frz o u))(tbls:∀b ps,H b=some (.tbl ps)->∃more,H' b=some (.tbl (ps++more)))(ns:∀m,s.heap.Ns X.env.locals m->h'.Ns X.env.locals m)(hok:lB X.prog X.w H' h')(hg:Jl g'):
  d4 X aa U H' { s with heap:=h',gens:=g',drawn:=d',toks:=t' }:=by
 have neL:∀b o,X.s₀.heap.get? b=some o->b≠X.env.locals:=λb o e=>At (Ba (Ao e) I.ok.above)
 have dX:∀b o,X.s₀.heap.get? b=some o->b∉X.ex->b∉ch:=λb o e hx hb=>by
  rcases (bM b hb).1 with z|z
  .exact hx z
  .rw[z]at e;cases e
 have eY:∀x c,X.env.cells.lookup x=some c->∀v,s.heap.IsCell c v->h'.IsCell c v:=λx c e v h_=>by
  obtain⟨o,ho,hd⟩:=h_;have eV:c∉ch:=λz=>(bM c z).2.2.1 x c e rfl;by_cases hc:c∈X.fs
  .obtain⟨sl,q⟩:=slot c o (I.cne x c e) hc eV ho (I.freeC x c e);exact⟨_,q,hd⟩
  .exact⟨o,keep c o (I.cne x c e) hc eV ho (I.freeC x c e),hd⟩
 refine⟨I.ok,I.os,hg,⟨λb o e n hb hx=>?_,λb o e n hb hx=>?_,λb o e n hx=>?_,λb o e hx=>?_,λb xs e=>tups b xs (I.base.tups b xs e),λb o xs e=>frzs b o xs (I.base.frzs b o xs e),λb ps e=>?_⟩,?_,λx c e=>?_,?_,λx c e=>?_,λp hp=>?_,hok,I.len⟩
 .exact keep b o (neL b o e) hb (dX b o e hx) (I.base.keep b o e n hb hx) (I.base.free b o e n hx)
 .obtain⟨sl,e1⟩:=I.base.slot b o e n hb hx;obtain⟨sl',e2⟩:=slot b _ (neL b o e) hb (dX b o e hx) e1 (I.base.free b o e n hx);exact⟨sl',e2⟩
 .obtain⟨o',e1⟩:=I.base.there b o e hx;exact free b o' (dX b o e hx) e1 (I.base.free b o e n hx)
 .obtain⟨o',e1⟩:=I.base.there b o e hx;exact there b o' (dX b o e hx) e1
 .obtain⟨m1,e1⟩:=I.base.tbls b ps e;obtain⟨m2,e2⟩:=tbls b _ e1;exact⟨m1++m2,by rw[e2,Array.append_assoc]⟩
 .obtain⟨m,hn,hl⟩:=I.loc;refine⟨m,ns m hn,λi x v e1 e2 e3=>?_⟩;obtain⟨u,r,l⟩:=hl i x v e1 e2 e3;refine⟨u,r,?_⟩;rcases l with l|⟨k,c,e,z⟩
  .exact .inl l
  .exact .inr ⟨k,c,e,eY x c e _ z⟩
 .obtain⟨v,z⟩:=I.cell x c e;exact⟨v,eY x c e v z⟩
 .obtain⟨m,⟨o,_,_,ho,_⟩,_⟩:=I.loc;exact free _ o (λz=>(bM _ z).2.1 rfl) ho I.free
 .obtain⟨v,o,ho,hd⟩:=I.cell x c e;exact free c o (λz=>(bM c z).2.2.1 x c e rfl) ho (I.freeC x c e)
 .obtain⟨e,n,ne,nf,d⟩:=I.pin p hp;have eV:p.1∉ch:=λz=>(bM p.1 z).2.2.2 p hp rfl;exact⟨keep p.1 p.2 ne nf eV e n,free p.1 p.2 eV e n,ne,nf,d⟩
def d4.step{t':Nat}{d':Drawn}{ch:List Aw}(I:d4 X aa U H s)(bM:∀b∈ch,(b∈X.ex\/X.s₀.heap.objs.size<=b)/\b≠X.env.locals/\(∀x c,X.env.cells.lookup x=some c->c≠b)/\∀p∈X.pn++aa,p.1≠b)(keep:∀b o,b≠X.env.locals->b∉X.fs->b∉ch->s.heap.get? b=some o->H b=none->h'.get? b=some o)(slot:∀b o,b≠X.env.locals->b∈X.fs->b∉ch->s.heap.get? b=some o->H b=none->∃sl,h'.get? b=some { o with slots:=sl })(free:∀b o,b∉ch->s.heap.get? b=some o->H b=none->H' b=none)(there:∀b o,b∉ch->s.heap.get? b=some o->∃o',h'.get? b=some o')(tups:∀b xs,H b=some (.tup xs)->H' b=some (.tup xs))(frzs:∀b o u,H b=some (.frz o u)->H' b=some (.frz o u))(tbls:∀b ps,H b=some (.tbl ps)->∃more,H' b=some (.tbl (ps++more)))(ns:∀m,s.heap.Ns X.env.locals m->h'.Ns X.env.locals m)(hok:lB X.prog X.w H' h')(hg:Jl g'):
  d4 X aa U H' { s with heap:=h',gens:=g',drawn:=d',toks:=t' }:=
 I.stepN (λb hb=>⟨(bM b hb).1.imp id λz=>Cl.get?_none_of_le z,(bM b hb).2⟩) keep slot free there tups frzs tbls ns hok hg
def d4.un{t':Nat}(I:d4 X aa U H s)(u:Un X.fs [] H H' s.heap h')(hok:lB X.prog X.w H' h'):d4 X aa U H' { s with heap:=h',toks:=t' }:=by
 obtain⟨m,⟨o,es,ep,ho,r⟩,_⟩:=id I.loc;obtain⟨sl,hL⟩:=u.any ho I.free (by simp)
 exact I.step (g':=s.gens) (d':=s.drawn) (ch:=[]) (λ_ z=>nomatch z) (λb o _ hb _ e n=>u.keep b o e n hb (by simp)) (λb o _ hb _ e n=>u.slot b o e n hb (by simp)) (λb o _ e n=>u.free b o e n (by simp)) (λb o _ e=>u.there b o e (by simp)) u.tups u.frzs u.tbls (λm' hm=>by
  obtain⟨o',cZ,eZ,bh,r'⟩:=hm;rw[ho]at bh;cases bh
  exact⟨_,cZ,eZ,hL,r'⟩) hok I.bare
def d4.call{t':Nat}{d':Drawn}(I:d4 X aa U H s)(u:Un (oO X.stack) ch H H' s.heap h')(hok:lB X.prog X.w H' h')(hg:Jl g')(bM:∀b∈ch,(b∈X.ex\/X.s₀.heap.objs.size<=b)/\b≠X.env.locals/\(∀x c,X.env.cells.lookup x=some c->c≠b)/\∀p∈X.pn++aa,p.1≠b):
  d4 X aa U H' { s with heap:=h',gens:=g',drawn:=d',toks:=t' }:=by
 obtain⟨m,⟨o,es,ep,ho,r⟩,_⟩:=id I.loc;obtain⟨sl,hL⟩:=u.any ho I.free λz=>(bM _ z).2.1 rfl
 exact I.step (ch:=ch) bM (λb o hL hb hc e n=>u.keep b o e n (λz=>(Ad.mp (I.stkSub b z)).elim hL hb) hc) (λb o _ _ hc e n=>u.any e n hc) (λb o hc e n=>u.free b o e n hc) (λb o hc e=>u.there b o e hc) u.tups u.frzs u.tbls (λm' hm=>by
  obtain⟨o',cZ,eZ,bh,r'⟩:=hm;rw[ho]at bh;cases bh
  exact⟨_,cZ,eZ,hL,r'⟩) hok hg
def d4.turned{t':Nat}{it:Aw}(I:d4 X aa U H s)(k:∀b o,b≠it->s.heap.get? b=some o->h'.get? b=some o)(hn:H it=none)(hL:it≠X.env.locals)(h1:it∈X.ex\/X.s₀.heap.objs.size<=it)(h2:∀x c,X.env.cells.lookup x=some c->c≠it)(h3:∀p∈X.pn++aa,p.1≠it):d4 X aa U H { s with heap:=h',toks:=t' }:=by
 have nit:∀b u,H b=some u->b≠it:=λb u e z=>by rw[z,hn]at e;cases e
 refine I.step (g':=s.gens) (d':=s.drawn) (ch:=[it]) (λb hb=>?_) (λb o _ _ hc e _=>k b o (λz=>hc (by simp[z])) e) (λb o _ _ hc e _=>⟨o.slots,k b o (λz=>hc (by simp[z])) e⟩) (λ_ _ _ _ n=>n)
  (λb o hc e=>⟨o,k b o (λz=>hc (by simp[z])) e⟩) (λ_ _ e=>e) (λ_ _ _ e=>e) (λb ps e=>⟨#[],by rw[e];simp⟩) (λm hm=>?_) (λb u e=>?_) I.bare
 .have e:b=it:=by simpa using hb
  subst e;exact⟨h1,hL,h2,h3⟩
 .obtain⟨o,es,ep,ho,r⟩:=hm;exact⟨o,es,ep,k _ o (Cw hL) ho,r⟩
 .refine(I.hok b u e).stay (λc v hc q=>k c v ?_ q) (λ_ q=>q) (λ_ _ q=>q) λ_ _ _ q=>q;rcases hc with z|z
  .rw[z];exact nit b u e
  .exact nit c _ z
def d4.tok(I:d4 X aa U H s)(t:Nat):d4 X aa U H { s with toks:=t }:=I.un (h':=s.heap) (t':=t) Un.refl I.hok
def d4.kept{t':Nat}(I:d4 X aa U H s)(k:∀b u,s.heap.get? b=some u->h'.get? b=some u):d4 X aa U H { s with heap:=h',toks:=t' }:=I.un (Un.kept k) (I.hok.kept k)
def d4.laid{a:Aw}{t':Nat}(I:d4 X aa U H s)(k:∀b u,s.heap.get? b=some u->h'.get? b=some u)(hp:s.heap.objs.size<=a)(new:lH X.prog X.w (upd H a o) h' a o):
  d4 X aa U (upd H a o) { s with heap:=h',toks:=t' }:=I.un (Un.laid k hp (I.hok.fresh hp)) (I.hok.laid k hp new)
def d4.write{x e:Aw}{t':Nat}(I:d4 X aa U H s)(mu:CD (H x))(he:e=x\/H e=some (.own x))(k:∀b u,b≠e->s.heap.get? b=some u->h'.get? b=some u)(gK:∃u,h'.get? e=some u)(new:lH X.prog X.w (upd H x o) h' x o):d4 X aa U (upd H x o) { s with heap:=h',toks:=t' }:=I.un (Un.write mu he k gK) (I.hok.write mu he k gK new)
def d4.pins_of{eS:jA}(I:d4 X aa U H s)(h:∀p∈eS,s.heap.get? p.1=some p.2/\H p.1=none/\p.1≠X.env.locals/\p.1∉X.fs/\∀v,p.2.data≠.cell v):d4 X eS U H s:=
 ⟨I.ok,I.os,I.bare,I.base,I.loc,I.cell,I.free,I.freeC,λp hp=>(Aq.mp hp).elim (λz=>I.pin p (B4 _ z)) (h p),I.hok,I.len⟩
def Rm{N:List Bg}(hN:N.Nodup){i j:Nat}{x:Bg}(a:N[i]?=some x)(b:N[j]?=some x):i=j:=by obtain⟨h1,e1⟩:=Ax.mp a;obtain⟨h2,e2⟩:=Ax.mp b;exact(List.getElem_inj hN).mp (e1.trans e2.symm)
def OQ{i:Nat}{x:Bg}{Q:Unit->Am->Prop}(I:d4 X aa U H s)(hN:X.N.Nodup)(hi:X.N[i]?=some x)(hx:nG X.env.scope x)(r:i6 v u)(h:∀s',d4 X aa (U.set i (some v)) H s'->(∃a,F6 a s.heap s'.heap/\(a=X.env.locals\/X.env.cells.lookup x=some a))->Q () s')(hf:X.fn x=true\/X.env.scope.names.lookup x=some .local:=by first|exact .inl rfl|exact .inr rfl|assumption):Ar M A (storeName X.env x u) Q E s:=by
 obtain⟨m,hn,hl⟩:=id I.loc
 have hcls:(X.env.scope.kind==.class||(X.env.scope.kind==.module&&X.env.locals != X.env.globals))=false:=by rw[I.ok.kind];rfl
 have hiσ:i<U.length:=by rw[I.len];exact(Ax.mp hi).1
 have cne:=I.cne
 have cI:∀{a:Aw} {h':Cl},(∃o,s.heap.get? a=some o/\H a=none)->F6 a s.heap h'->lB X.prog X.w H h':=λ{a h'} ha hs b ob e=>by
  obtain⟨_,_,aY⟩:=ha;refine(I.hok b ob e).stay (λc w' hc q=>(hs.2 c ?_).trans q) (λ_ q=>q) (λ_ _ q=>q) λ_ _ _ q=>q;rintro rfl;rcases hc with rfl|hc
  .rw[aY]at e;cases e
  .rw[aY]at hc;cases hc
 rcases hx with hk|hk
 .refine wpAny_storeName_local hk hn (λh' bj hs=>?_) hcls;obtain⟨oL,_,_,hoL,_⟩:=id hn;refine h _ ⟨I.ok,I.os,I.bare,⟨λb o e n hb hx=>?_,λb o e n hb hx=>?_,I.base.free,λb o e hx=>?_,I.base.tups,I.base.frzs,I.base.tbls⟩,⟨_,bj,λj y v' e1 e2 e3=>?_⟩,λy c e=>?_,I.free,I.freeC,λp hp=>?_,cI ⟨oL,hoL,I.free⟩ hs,by simpa using I.len⟩ ⟨_,hs,.inl rfl⟩
  .exact(hs.2 b (At (Ba (Ao e) I.ok.above))).trans (I.base.keep b o e n hb hx)
  .obtain⟨sl,e1⟩:=I.base.slot b o e n hb hx;exact⟨sl,(hs.2 b (At (Ba (Ao e) I.ok.above))).trans e1⟩
  .obtain⟨o',e1⟩:=I.base.there b o e hx;exact⟨o',(hs.2 b (At (Ba (Ao e) I.ok.above))).trans e1⟩
  .by_cases hj:j=i
   .subst hj;rw[hi]at e1;cases e1;rw[C7 hiσ]at e2;cases e2;exact⟨u,r,.inl ⟨hk,by simp⟩⟩
   .rw[Bc (Cw hj)]at e2;obtain⟨u',r',q⟩:=hl j y v' e1 e2 e3;refine⟨u',r',?_⟩;rcases q with⟨k,e⟩|⟨k,c,e,z⟩
    .refine .inl ⟨k,?_⟩
     have:y≠x:=λe=>hj (Rm hN e1 (e▸hi))
     simp[this,e]
    .exact .inr ⟨k,c,e,z.sameBut hs (cne y c e)⟩
  .obtain⟨w',z⟩:=I.cell y c e;exact⟨w',z.sameBut hs (cne y c e)⟩
  .obtain⟨e,n,ne,nf,d⟩:=I.pin p hp;exact⟨(hs.2 p.1 ne).trans e,n,ne,nf,d⟩
 .have hfn:X.fn x=true:=by
   rcases hf with z|z
   .exact z
   .rw[z]at hk;cases hk
  obtain⟨c,hc⟩:=I.ok.has x (.inl hk);obtain⟨w',z⟩:=I.cell x c hc;refine wpAny_storeName_cell I.ok.kind hk hc z (λh' be hs=>?_);obtain⟨oc,fV,hocd⟩:=id z;refine h { s with heap:=h' } ⟨I.ok,I.os,I.bare,⟨λb o e n hb hx=>?_,λb o e n hb hx=>?_,I.base.free,λb o e hx=>?_,I.base.tups,I.base.frzs,I.base.tbls⟩,⟨m,hn.sameBut hs (Cw (cne x c hc)),λj y v' e1 e2 e3=>?_⟩,λy c' e=>?_,I.free,I.freeC,λp hp=>?_,cI ⟨oc,fV,I.freeC x c hc⟩ hs,by simpa using I.len⟩ ⟨c,hs,.inr hc⟩
  .exact(hs.2 b (At (Ba (Ao e) (I.ok.cab x c hfn hc)))).trans (I.base.keep b o e n hb hx)
  .obtain⟨sl,e1⟩:=I.base.slot b o e n hb hx;exact⟨sl,(hs.2 b (At (Ba (Ao e) (I.ok.cab x c hfn hc)))).trans e1⟩
  .obtain⟨o',e1⟩:=I.base.there b o e hx;exact⟨o',(hs.2 b (At (Ba (Ao e) (I.ok.cab x c hfn hc)))).trans e1⟩
  .by_cases hj:j=i
   .subst hj;rw[hi]at e1;cases e1;rw[C7 hiσ]at e2;cases e2;exact⟨u,r,.inr ⟨.inl hk,c,hc,be⟩⟩
   .rw[Bc (Cw hj)]at e2;obtain⟨u',r',q⟩:=hl j y v' e1 e2 e3;refine⟨u',r',?_⟩;rcases q with q|⟨k,c',e,z'⟩
    .exact .inl q
    .refine .inr ⟨k,c',e,z'.sameBut hs ?_⟩;rintro rfl;exact hj (Rm hN e1 (I.ok.inj _ _ _ e hc▸hi))
  .by_cases hcc:c'=c
   .subst hcc;exact⟨_,be⟩
   .obtain⟨w2,z2⟩:=I.cell y c' e;exact⟨w2,z2.sameBut hs hcc⟩
  .obtain⟨e,n,ne,nf,d⟩:=I.pin p hp;refine⟨(hs.2 p.1 ?_).trans e,n,ne,nf,d⟩;intro q;rw[q,fV]at e;have q':oc=p.2:=Bb e;exact d w' (by rw[<-q'];exact hocd)
def KG{i:Nat}{x:Bg}{Q:Unit->Am->Prop}(I:d4 X aa U H s)(hN:X.N.Nodup)(hi:X.N[i]?=some x)(hx:nG X.env.scope x)(r:i6 v u)(h:∀s',d4 X aa (U.set i (some v)) H s'->Q () s')(hf:X.fn x=true\/X.env.scope.names.lookup x=some .local:=by first|exact .inl rfl|exact .inr rfl|assumption):Ar M A (storeName X.env x u) Q E s:=OQ I hN hi hx r (λs' I' _=>h s' I') hf
def d4.call'{s':Am}(I:d4 X aa U H s)(ho:s'.os=s.os)(u:Un (oO X.stack) ch H H' s.heap s'.heap)(hok:lB X.prog X.w H' s'.heap)(hg:Jl s'.gens)(bM:∀b∈ch,(b∈X.ex\/X.s₀.heap.objs.size<=b)/\b≠X.env.locals/\(∀x c,X.env.cells.lookup x=some c->c≠b)/\∀p∈X.pn++aa,p.1≠b):d4 X aa U H' s':=by obtain⟨h',g',d',t',o'⟩:=s';have e:o'=s.os:=ho;subst e;exact I.call (g':=g') (t':=t') (d':=d') u hok hg bM
end
abbrev XK:=Ac->Option Aw->Hp->Prop
abbrev St:=List (Option V)
abbrev VK:=V->Hp->Prop
abbrev TE:=St->Hp->VK->Prop
abbrev TT:=St->Hp->(Bool->Hp->Prop)->Prop
abbrev TA:=St->Hp->(List V->Hp->Prop)->Prop
structure qU where
 nx:St->Hp->Prop
 rt:VK
 bk:St->Hp->Prop:=λ_ _=>False
 ct:St->Hp->Prop:=λ_ _=>False
abbrev TS:=qU->St->Hp->Prop
def EP(X:Cx)(aa:jA)(U:St)(Q:VK)(u:Ac)(s':Am):Prop:=∃v H',d4 X aa U H' s'/\i6 v u/\Q v H'
def TP(X:Cx)(aa:jA)(U:St)(Q:Bool->Hp->Prop)(b:Bool)(s':Am):Prop:=∃H',d4 X aa U H' s'/\Q b H'
def AP(X:Cx)(aa:jA)(U:St)(Q:List V->Hp->Prop)(us:List Ac)(s':Am):Prop:=∃vs H',d4 X aa U H' s'/\W3 vs us/\Q vs H'
def SP(X:Cx)(aa:jA)(D:qU)(f:Flow)(s':Am):Prop:=
 match f with
 | .next=>∃U' H',d4 X aa U' H' s'/\D.nx U' H'
 | .brk=>∃U' H',d4 X aa U' H' s'/\D.bk U' H'
 | .cont=>∃U' H',d4 X aa U' H' s'/\D.ct U' H'
 | .ret u=>∃v U' H',d4 X aa U' H' s'/\i6 v u/\D.rt v H'
def PE(X:Cx)(e:Expr)(t:TE):Prop:=∀(aa:jA) (s:Am) (U:St) (H:Hp) (Q:VK),d4 X aa U H s->t U H Q->Ar (B2 X.prog X.w) X.A (Bz e X.env) (EP X aa U Q) X.xe s
def PT(X:Cx)(e:Expr)(t:TT):Prop:=∀(aa:jA) (s:Am) (U:St) (H:Hp) (Q:Bool->Hp->Prop),d4 X aa U H s->t U H Q->Ar (B2 X.prog X.w) X.A (isTrue e X.env (Bz e X.env)) (TP X aa U Q) X.xe s
def PW(X:Cx)(e:Expr)(t:TT):Prop:=∀(aL:Sem Ac) (aa:jA) (s:Am) (U:St) (H:Hp) (Q:Bool->Hp->Prop),d4 X aa U H s->t U H Q->Ar (B2 X.prog X.w) X.A (isTrue e X.env aL) (TP X aa U Q) X.xe s
def PW.pt(h:PW X e t):PT X e t:=h _
def PA(X:Cx)(es:List Expr)(t:TA):Prop:=∀(pos:Gm) (aa:jA) (s:Am) (U:St) (H:Hp) (Q:List V->Hp->Prop),d4 X aa U H s->t U H Q->Ar (B2 X.prog X.w) X.A (spliced (Bu pos (A9 es X.env))) (AP X aa U Q) X.xe s
def PS(X:Cx)(st:Db)(t:TS):Prop:=∀(aa:jA) (s:Am) (U:St) (H:Hp) (D:qU),d4 X aa U H s->t D U H->Ar (B2 X.prog X.w) X.A (exec st X.env) (SP X aa D) X.xe s
def nV(X:Cx)(st:List Db)(t:TS):Prop:=∀(aa:jA) (s:Am) (U:St) (H:Hp) (D:qU),d4 X aa U H s->t D U H->Ar (B2 X.prog X.w) X.A (execs st X.env) (SP X aa D) X.xe s
def lC{α:Type}{t:Sem α}{Q Q':α->Am->Prop}{M:Model}{A:C6}{E:VP}{s:Am}(h:Ar M A t Q E s)(hQ:∀a s,Q a s->Q' a s):Ar M A t Q' E s:=Cc h hQ λ_ _ x=>x
def jG{α β γ:Type}{t:Sem α}{I:γ->Am->Prop}{R:β->α->Prop}{Q:β->γ->Prop}{Q':α->Am->Prop}{M:Model}{A:C6}{E:VP}{s:Am}(h:Ar M A t (λu s'=>∃v H',I H' s'/\R v u/\Q v H') E s)(k:∀a s v H',I H' s->R v a->Q v H'->Q' a s):Ar M A t Q' E s:=Cc h (λa s h=>by
 obtain⟨v,H',x,y,z⟩:=h
 exact k a s v H' x y z) λ_ _ x=>x
section
variable{X:Cx}
def oN(i:Nat):TE:=λU H Q=>∃v,U[i]?=some (some v)/\Q v H
def tC(v:V):TE:=λ_ H Q=>Q v H
def nX{i:Nat}{x:Bg}(hN:X.N[i]?=some x)(hv:mX X.env.scope x)(hd:(x==("__debug__":Bg))=false:=by decide)(aO:(x==("__classdict__":Bg))=false:=by decide):PE X (.Name x pos) (oN i):=by
 intro aa s U H Q I h;obtain⟨v,e,h⟩:=h;obtain⟨m,hn,hl⟩:=I.loc;obtain⟨u,r,l⟩:=hl i x v hN e hv;have fin:EP X aa U Q u s:=⟨v,H,I,r,h⟩;rcases l with⟨hk,hm⟩|⟨hk,c,hc,aA⟩
 .exact Mk (wpAny_loadName_local I.ok.kind hk hn hm fin) hd
 .rcases hk with hk|hk
  .exact Mk (wpAny_loadName_cell I.ok.kind hk hc aA fin) hd
  .exact Mk (wpAny_loadName_free I.ok.kind hk hc aA fin aO) hd
def ė{i j pos}:PE X (.Constant (.int i) j pos) (tC (.int i)):=λ_ _ _ H _ I h=>wpAny_Constant_int ⟨.int i,H,I.tok _,⟨_,rfl⟩,h⟩
def Zp{b j pos}:PE X (.Constant (.bool b) j pos) (tC (.bl b)):=λ_ _ _ H _ I h=>Constant_bool ⟨.bl b,H,I,rfl,h⟩
def Ę{j pos}:PE X (.Constant .none j pos) (tC .non):=λ_ _ _ H _ I h=>Constant_none ⟨.non,H,I,rfl,h⟩
def Ĝ{x j pos}:PE X (.Constant (.str x) j pos) (tC (.str x)):=λ_ _ _ H _ I h=>Calls.Constant_str ⟨.str x,H,I.tok _,⟨_,rfl⟩,h⟩
def Gl(X:Cx)(x:Bg):Prop:=X.env.kindOf x=some .globalImplicit
def Qh{u:Ac}{Q:VP}(I:d4 X aa U H s)(hg:Gl X x)(hm:X.mg x=some u)(h:Q u s)(hd:(x==("__debug__":Bg))=false:=by decide):Ar (B2 X.prog X.w) X.A (Bz (.Name x pos) X.env) Q E s:=Calls.Name_function_global I.ok.kind hg (Calls.loadGlobal_global (by rw[I.ok.glob];exact I.mod.glob.keeps I.bk) hm h) hd
def oW{u:Ac}{Q:VP}(I:d4 X aa U H s)(hg:Gl X x)(hm:X.mg x=none)(hv:B7 x=some u)(h:Q u s)(hn:x≠"__name__":=by decide)(hd:(x==("__debug__":Bg))=false:=by decide):Ar (B2 X.prog X.w) X.A (Bz (.Name x pos) X.env) Q E s:=by obtain⟨mb,h1,h2⟩:=I.mod.blt;exact Calls.Name_function_global I.ok.kind hg (Calls.loadGlobal_builtin (by rw[I.ok.glob];exact I.mod.glob.keeps I.bk) hm (by rw[I.ok.blt];exact h1.keeps I.bk) ((h2 x hn).trans hv) h) hd
def Ş{u:Ac}(hg:Gl X x)(hm:X.mg x=some u)(r:i6 v u)(hd:(x==("__debug__":Bg))=false:=by decide):PE X (.Name x pos) (tC v):=λ_ _ _ H _ I h=>Qh I hg hm ⟨v,H,I,r,h⟩ hd
def Ŝ{u:Ac}(hg:Gl X x)(hm:X.mg x=none)(hv:B7 x=some u)(r:i6 v u)(hn:x≠"__name__":=by decide)(hd:(x==("__debug__":Bg))=false:=by decide):PE X (.Name x pos) (tC v):=λ_ _ _ H _ I h=>oW I hg hm hv ⟨v,H,I,r,h⟩ hn hd
variable{a b:Expr}{ta tb:TE}{pos:Gm}
def PC(X:Cx)(op:Ml)(a b:Expr)(t:TE):Prop:=
 ∀(aa:jA) (s:Am) (U:St) (H:Hp) (Q:VK),d4 X aa U H s->t U H Q ->
  Ar (B2 X.prog X.w) X.A (Bz a X.env) (λv s₁=>Ar (B2 X.prog X.w) X.A (Bz b X.env) (λu s₂=>Ar (B2 X.prog X.w) X.A (Ce op v u) (EP X aa U Q) X.xe s₂) X.xe s₁) X.xe s
def tB(t:TE):TT:=λU H Q=>t U H λx H1=>∃c,x = .bl c/\Q c H1
def Ė(h:PC X op a b t)(h1:Cs op b=false:=by first|exact nobehind _ (by decide) (by decide)|rfl):PE X (.Compare a [op] [b] pos) t:=λaa s U H Q I hw=>wpAny_Compare1 (h aa s U H Q I hw) h1
def LW(h:PC X op a b t)(h1:Cs op b=false:=by first|exact nobehind _ (by decide) (by decide)|rfl):PT X (.Compare a [op] [b] pos) (tB t):=by intro aa s U H Q I hw;refine wpAny_isTrue_Compare1 (lC (h aa s U H _ I hw) λv s1 h1=>lC h1 λu s2 h2=>lC h2 λc s3 ⟨x,H1,I1,r1,q1⟩=>?_) h1;obtain⟨d,rfl,q⟩:=q1;cases r1;exact Cn ⟨H1,I1,q⟩
def ģ(h:PE X e t)(he:∀aL,isTrue e X.env aL=(do let v <-aL;Jx e.pos;Gx [v] (Mm v)):=by intro _;rfl):PT X e (tB t):=by intro aa s U H Q I hw;refine isTrue_plain (jG (h aa s U H _ I hw) λv s1 x H1 I1 r1 q1=>?_) (he _);obtain⟨d,rfl,q⟩:=q1;cases r1;exact Cn ⟨H1,I1,q⟩
variable{tA tB':TT}{rest:List Expr}
def ϐ(t u:TT):TT:=λU H Q=>t U H λc H1=>if c=true then u U H1 Q else Q false H1
def ϩ(t u:TT):TT:=λU H Q=>t U H λc H1=>if c=true then Q true H1 else u U H1 Q
def ϔ(t:TT):TT:=λU H Q=>t U H λc H1=>Q (!c) H1
theorem ť(ha:PT X a tA):PW X (.BoolOp .And [a] pos) tA:=by
 intro wh aa s U H Q I h;refine isTrue_and (lC (ha aa s U H Q I h) λc s1 e=>?_)
 cases c with
 |true=>exact isTrue_and_nil e
 |false=>exact e
theorem ħ(ha:PT X a tA):PW X (.BoolOp .Or [a] pos) tA:=by
 intro wh aa s U H Q I h;refine isTrue_or (lC (ha aa s U H Q I h) λc s1 e=>?_)
 cases c with
 |false=>exact isTrue_or_nil e
 |true=>exact e
theorem Ħ(ha:PT X a tA)(hb:PW X (.BoolOp .And (b::rest) pos) tB'):PW X (.BoolOp .And (a::b::rest) pos) (ϐ tA tB'):=by
 intro wh aa s U H Q I h;refine isTrue_and (lC (ha aa s U H _ I h) λc s1 ⟨H1,I1,q1⟩=>?_)
 cases c with
 |true=>exact hb wh aa s1 U H1 Q I1 q1
 |false=>exact⟨H1,I1,q1⟩
theorem Zt(ha:PT X a tA)(hb:PW X (.BoolOp .Or (b::rest) pos) tB'):PW X (.BoolOp .Or (a::b::rest) pos) (ϩ tA tB'):=by
 intro wh aa s U H Q I h;refine isTrue_or (lC (ha aa s U H _ I h) λc s1 ⟨H1,I1,q1⟩=>?_)
 cases c with
 |true=>exact⟨H1,I1,q1⟩
 |false=>exact hb wh aa s1 U H1 Q I1 q1
def Ģ(ha:PT X a tA):PT X (.UnaryOp .Not a pos) (ϔ tA):=by intro aa s U H Q I h;exact isTrue_not (ha aa s U H (λc H1=>Q (!c) H1) I h)
def ZC(ta tb:TE):TE:=λU H Q=>ta U H λx H1=>∃c,x = .bl c/\if c=true then tb U H1 Q else Q (.bl false) H1
def ϕ(ta tb:TE):TE:=λU H Q=>ta U H λx H1=>∃c,x = .bl c/\if c=true then Q (.bl true) H1 else tb U H1 Q
def ZK(ta:TE):TE:=λU H Q=>ta U H λx H1=>∃c,x = .bl c/\Q (.bl (!c)) H1
def Ě{op}(h:PE X a t):PE X (.BoolOp op [a] pos) t:=λaa s U H Q I hw=>BoolOp_one (h aa s U H Q I hw)
theorem Ĕ(ha:PE X a ta)(hb:PE X (.BoolOp .And (b::rest) pos) tb):PE X (.BoolOp .And (a::b::rest) pos) (ZC ta tb):=by
 intro aa s U H Q I h;refine BoolOp_and (jG (ha aa s U H _ I h) λv s1 x H1 I1 r1 q1=>?_);obtain⟨c,rfl,q1⟩:=q1;cases r1;refine Cn ?_
 cases c with
 |true=>exact hb aa s1 U H1 Q I1 q1
 |false=>exact⟨.bl false,H1,I1,rfl,q1⟩
theorem pe_or(ha:PE X a ta)(hb:PE X (.BoolOp .Or (b::rest) pos) tb):PE X (.BoolOp .Or (a::b::rest) pos) (ϕ ta tb):=by
 intro aa s U H Q I h;refine BoolOp_or (jG (ha aa s U H _ I h) λv s1 x H1 I1 r1 q1=>?_);obtain⟨c,rfl,q1⟩:=q1;cases r1;refine Cn ?_
 cases c with
 |false=>exact hb aa s1 U H1 Q I1 q1
 |true=>exact⟨.bl true,H1,I1,rfl,q1⟩
def ę(ha:PE X a ta):PE X (.UnaryOp .Not a pos) (ZK ta):=by intro aa s U H Q I h;refine UnaryOp_ (jG (ha aa s U H _ I h) λv s1 x H1 I1 r1 q1=>?_);obtain⟨c,rfl,q1⟩:=q1;cases r1;exact not_of (Cn ⟨.bl (!c),H1,I1,rfl,q1⟩)
def Ϫ(t:TT)(ta tb:TE):TE:=λU H Q=>t U H λc H1=>if c=true then ta U H1 Q else tb U H1 Q
theorem è(hc:PT X c tA)(ha:PE X a ta)(hb:PE X b tb):PE X (.IfExp c a b pos) (Ϫ tA ta tb):=by
 intro aa s U H Q I h;refine wpAny_IfExp (lC (hc aa s U H _ I h) λd s1 ⟨H1,I1,q1⟩=>?_)
 cases d with
 |true=>exact ha aa s1 U H1 Q I1 q1
 |false=>exact hb aa s1 U H1 Q I1 q1
end
def jE(K:A5)(H:Hp)(a:Aw)(xs:List V):Prop:=
 Rd H a (.lst xs) \/
  ∃(o:Jp) (its:Array Ac) (n:Nat),K.lookup a=some o/\o.cls = .type "list"/\o.dict=none/\o.data = .seq its n/\its.size<=sizeLine/\W3 xs its.toList
def jF(K:A5)(H:Hp)(a:Aw)(xs:List V):Prop:=
 Rd H a (.tup xs) \/
  ∃(o:Jp) (its:Array Ac) (n:Nat),K.lookup a=some o/\o.cls = .type "tuple"/\o.data = .seq its n/\its.size<=sizeLine/\W3 xs its.toList/\o.dict=none
def õ:Ac->Option V
 | .none=>some .non
 | .bool b=>some (.bl b)
 | .int i _=>some (.int i)
 | .str x _=>some (.str x)
 | .bytes b _=>some (.byt b)
 | .float b _=>some (.flt b)
 | .ref a=>some (.ref a)
 | .type n=>some (.ty n)
 |_=>none
theorem i6.abs(r:i6 x u):õ u=some x:=by
 cases x with
 |non=>cases r;rfl
 |bl _=>cases r;rfl
 |int _=>obtain⟨t,rfl⟩:=r;rfl
 |str _=>obtain⟨t,rfl⟩:=r;rfl
 |byt _=>obtain⟨t,rfl⟩:=r;rfl
 |flt _=>obtain⟨t,rfl⟩:=r;rfl
 |ref _=>cases r;rfl
 |ty _=>cases r;rfl
def i6.inj(r:i6 x u)(q:i6 y u):x=y:=Bb (r.abs.symm.trans q.abs)
theorem W3.inj:∀{xs ys:List V} {us:List Ac},W3 xs us->W3 ys us->xs=ys
 |_,_,_,.nil,.nil=>rfl
 |_,_,_,.cons r t,.cons r' t'=>by rw[r.inj r',W3.inj t t']
section
variable{X:Cx}{aa:jA}{U:St}{H:Hp}{s:Am}{a:Aw}{xs ys:List V}
def jE.of{K:A5}(h:H a=some (.lst xs)):jE K H a xs:=.inl (.inl h)
def jF.of{K:A5}(h:H a=some (.tup xs)):jF K H a xs:=.inl (.inl h)
def d4.list(I:d4 X aa U H s)(h:jE X.K H a xs):∃its:List Ac,W3 xs its/\PlainL s.heap a its.toArray/\xs.length<=sizeLine:=by
 rcases h with h|⟨o,its,n,hk,hc,hd,hs,hz,r⟩
 .obtain⟨z,its,n,r,e⟩:=h.ok I.hok;exact⟨its,r,⟨_,n,e,rfl,rfl,rfl⟩,z⟩
 .refine⟨its.toList,r,⟨o,n,I.kIn a o hk,hc,hd,by simpa using hs⟩,?_⟩;have e:=r.length;simp only[B1]at e;omega
def d4.tuple(I:d4 X aa U H s)(h:jF X.K H a xs):∃its:List Ac,W3 xs its/\Kq s.heap a its.toArray/\xs.length<=sizeLine:=by
 rcases h with h|⟨o,its,n,hk,hc,hs,hz,r,_⟩
 .obtain⟨z,its,r,p⟩:=h.ok I.hok;exact⟨its,r,p.isTup,z⟩
 .refine⟨its.toList,r,⟨o,I.kIn a o hk,hc,n,by simpa using hs⟩,?_⟩;have e:=r.length;simp only[B1]at e;omega
def d4.tupleP(I:d4 X aa U H s)(h:jF X.K H a xs):∃o,s.heap.get? a=some o/\o.cls = .type "tuple"/\o.dict=none:=by
 rcases h with h|⟨o,its,n,hk,hc,hs,hz,r,d⟩
 .obtain⟨z,its,r,o,e,c,_,d⟩:=h.ok I.hok;exact⟨o,e,c,d⟩
 .exact⟨o,I.kIn a o hk,hc,d⟩
def d4.list_inj(I:d4 X aa U H s)(h:jE X.K H a xs)(h':jE X.K H a ys):xs=ys:=by
 obtain⟨its,r,⟨o,n,e,_,_,d⟩,_⟩:=I.list h;obtain⟨its',r',⟨o',n',e',_,_,d'⟩,_⟩:=I.list h';rw[e]at e';cases e';rw[d]at d';injection d' with d1 _
 have:its=its':=by simpa using congrArg Array.toList d1
 subst this;exact r.inj r'
def d4.tuple_inj(I:d4 X aa U H s)(h:jF X.K H a xs)(h':jF X.K H a ys):xs=ys:=by
 obtain⟨its,r,⟨o,e,_,n,d⟩,_⟩:=I.tuple h;obtain⟨its',r',⟨o',e',_,n',d'⟩,_⟩:=I.tuple h';rw[e]at e';cases e';rw[d]at d';injection d' with d1 _
 have:its=its':=by simpa using congrArg Array.toList d1
 subst this;exact r.inj r'
end
abbrev Cx.wish(X:Cx)(E:VP):Cx:={ X with xe:=E }
abbrev Cx.nox(X:Cx):Cx:=X.wish λ_ _=>False
def Cx.Ok.wish{X:Cx}(ok:X.Ok)(E:VP):(X.wish E).Ok:=
 ⟨ok.mod,ok.kind,ok.glob,ok.blt,ok.above,ok.inj,ok.has,ok.cab,ok.hd,ok.frames,ok.stk,ok.exf,ok.bs,ok.bsz,ok.noex,ok.exfs,ok.funs,ok.frf⟩
def Cx.Ok.unwish{X:Cx}(ok:(X.wish E).Ok):X.Ok:=
 ⟨ok.mod,ok.kind,ok.glob,ok.blt,ok.above,ok.inj,ok.has,ok.cab,ok.hd,ok.frames,ok.stk,ok.exf,ok.bs,ok.bsz,ok.noex,ok.exfs,ok.funs,ok.frf⟩
section
variable{X:Cx}{aa:jA}{U:St}{H:Hp}{s:Am}{E:VP}
def d4.wish(I:d4 X aa U H s)(E:VP):d4 (X.wish E) aa U H s:=⟨I.ok.wish E,I.os,I.bare,I.base,I.loc,I.cell,I.free,I.freeC,I.pin,I.hok,I.len⟩
def d4.unwish(I:d4 (X.wish E) aa U H s):d4 X aa U H s:=⟨I.ok.unwish,I.os,I.bare,I.base,I.loc,I.cell,I.free,I.freeC,I.pin,I.hok,I.len⟩
theorem SP.unwish(h:SP (X.wish E) aa D f s'):SP X aa D f s':=by
 cases f with
 |next=>obtain⟨U',H',I,q⟩:=h;exact⟨U',H',I.unwish,q⟩
 |brk=>obtain⟨U',H',I,q⟩:=h;exact⟨U',H',I.unwish,q⟩
 |cont=>obtain⟨U',H',I,q⟩:=h;exact⟨U',H',I.unwish,q⟩
 |ret u=>obtain⟨v,U',H',I,r,q⟩:=h;exact⟨v,U',H',I.unwish,r,q⟩
def nV.nox{st:List Db}{t:TS}(h:nV X.nox st t):nV X st t:=λaa s U H D I hw=>Cc (h aa s U H D (I.wish _) hw) (λ_ _ q=>q.unwish) λ_ _ z=>Fg z
end
section
variable{X:Cx}{st:Db}{rest:List Db}{t u:TS}{e:Expr}{te:TE}{pos:Gm}
def ZJ:TS:=λD U H=>D.nx U H
def T8(t u:TS):TS:=λD U H=>t { D with nx:=u D } U H
def Ť:nV X [] ZJ:=λ_ _ U H _ I h=>Je ⟨U,H,I,h⟩
theorem EV(h1:PS X st t)(h2:nV X rest u):nV X (st::rest) (T8 t u):=by
 intro aa s U H D I h;refine wpAny_execs_cons (lC (h1 aa s U H { D with nx:=u D } I h) λf s1 q=>?_)
 cases f with
 |next=>obtain⟨U',H',I',q⟩:=q;exact h2 aa s1 U' H' D I' q
 |ret v=>exact q
 |brk=>exact q
 |cont=>exact q
theorem JD(h1:PS X st t):nV X [st] t:=by
 intro aa s U H D I h;refine wpAny_execs_cons (lC (h1 aa s U H D I h) λf s1 q=>?_)
 cases f with
 |next=>exact Je q
 |ret v=>exact q
 |brk=>exact q
 |cont=>exact q
def d4.quiet(I:d4 X aa U H s):interactive X.env=false:=by simp[interactive,I.ok.kind]
def ZH(te:TE):TS:=λD U H=>te U H λ_ H1=>D.nx U H1
def BE(he:PE X e te)(hs:Dz e none pos.line X.env=Cj false:=by rfl):PS X (.Expr e pos) (ZH te):=by intro aa s U H D I h;exact wpAny_Expr_any (jG (he aa s U H _ I h) λv s1 x H1 I1 r1 q1=>⟨U,H1,I1,q1⟩) I.quiet hs
def T7(te:TE):TS:=λD U H=>te U H D.rt
def LU(he:PE X e te):PS X (.Return (some e) pos) (T7 te):=by intro aa s U H D I h;exact wpAny_Return_some (jG (he aa s U H _ I h) λv s1 x H1 I1 r1 q1=>⟨x,U,H1,I1,r1,q1⟩)
def ϓ(c:TT)(t u:TS):TS:=λD U H=>c U H λb H1=>if b=true then t D U H1 else u D U H1
theorem Zr(hc:PT X c tc)(ha:nV X a t)(hb:nV X b u):PS X (.If c a b pos) (ϓ tc t u):=by
 intro aa s U H D I h;refine wpAny_If (lC (hc aa s U H _ I h) λd s1 ⟨H1,I1,q1⟩=>?_)
 cases d with
 |true=>exact ha aa s1 U H1 D I1 q1
 |false=>exact hb aa s1 U H1 D I1 q1
end
abbrev TG:=V->St->Hp->(St->Hp->Prop)->Prop
abbrev xE:=List V->St->Hp->(St->Hp->Prop)->Prop
def PG(X:Cx)(ae:Expr)(t:TG):Prop:=
 ∀(aa:jA) (s:Am) (U:St) (H:Hp) (v:V) (u:Ac) (Q:St->Hp->Prop),d4 X aa U H s->i6 v u->t v U H Q ->
  Ar (B2 X.prog X.w) X.A (Li ae X.env u) (λ_ s'=>∃U' H',d4 X aa U' H' s'/\Q U' H') X.xe s
def xG(X:Cx)(ts:List Expr)(t:xE):Prop:=
 ∀(aa:jA) (s:Am) (U:St) (H:Hp) (vs:List V) (us:List Ac) (Q:St->Hp->Prop),d4 X aa U H s->W3 vs us->t vs U H Q ->
  Ar (B2 X.prog X.w) X.A (assignInOrder ((Dx ts X.env).map (·.2)) us) (λ_ s'=>∃U' H',d4 X aa U' H' s'/\Q U' H') X.xe s
abbrev Nn:=V->V->Hp->VK->Prop
def Ud(X:Cx)(op:Operator)(t:Nn):Prop:=
 ∀(aa:jA) (s:Am) (U:St) (H:Hp) (x y:V) (v u:Ac) (Q:VK),d4 X aa U H s->i6 x v->i6 y u->t x y H Q ->
  Ar (B2 X.prog X.w) X.A (inplaceOp op v u) (EP X aa U Q) X.xe s
section
variable{X:Cx}{pos:Gm}
def oT(i:Nat):TG:=λv U H Q=>Q (U.set i (some v)) H
def BD{i:Nat}{x:Bg}(hN:X.N.Nodup)(hi:X.N[i]?=some x)(hx:nG X.env.scope x)(hf:X.fn x=true\/X.env.scope.names.lookup x=some .local:=by first|exact .inl rfl|exact .inr rfl|assumption):PG X (.Name x pos) (oT i):=by intro aa s U H v u Q I r h;exact wpAny_assign_Name (KG I hN hi hx r (λs' I'=>⟨_,H,I',h⟩) hf)
def TQ:xE:=λvs U H Q=>vs=[]/\Q U H
def MQ(t:TG)(u:xE):xE:=λvs U H Q=>∃v r,vs=v::r/\t v U H λU' H'=>u r U' H' Q
def Qu:xG X [] TQ:=by intro aa s U H vs us Q I r h;obtain⟨e,h⟩:=h;subst e;cases r;exact assignInOrder_nil ⟨U,H,I,h⟩
theorem JZ(h1:PG X e t)(h2:xG X es u)(hs:(Dx (e::es) X.env).map (·.2)=Li e X.env::(Dx es X.env).map (·.2):=by rfl):xG X (e::es) (MQ t u):=by
 intro aa s U H vs us Q I r h;obtain⟨v,vr,e1,h⟩:=h;subst e1
 cases r with
 |cons r rr=>rw[hs];refine assignInOrder_cons (lC (h1 aa s U H _ _ _ I r h) λ_ s1 ⟨U1,H1,I1,q1⟩=>?_);exact h2 aa s1 U1 H1 _ _ Q I1 rr q1
def TR(K:A5)(n:Nat)(t:xE):TG:=λv U H Q=>∃a xs,v = .ref a/\jF K H a xs/\xs.length=n/\t xs U H Q
def Tf{n:Nat}(hc:X.calm=true)(h:xG X es t)(hn:(Dx es X.env).length=n:=by rfl)(bO:(Dx es X.env).findIdx? (·.1)=none:=by rfl):PG X (.Tuple es k pos) (TR X.K n t):=by intro aa s U H v u Q I r hw;obtain⟨a,xs,e1,hq,hl,hw⟩:=hw;subst e1;cases r;obtain⟨its,rv,ht,hz⟩:=I.tuple hq;refine assign_Tuple_tuple (I.ok.hd hc) ht (by simp[hn,<-hl,rv.length]) bO λh' hx=>?_;have I1:d4 X aa U H { s with heap:=h' }:=I.kept (t':=s.toks) λb o e=>hx b o (At (Ao e)) e;exact h aa _ U H xs _ Q I1 (by simpa using rv) hw
def GB(te:TE)(g:TG):TS:=λD U H=>te U H λx H1=>g x U H1 D.nx
def LV{i:Nat}{x:Bg}(hN:X.N.Nodup)(hi:X.N[i]?=some x)(hx:nG X.env.scope x)(he:PE X e te)(hs:Dz e (some (.Name x aU)) pos.line X.env=Cj false:=by rfl)(hf:X.fn x=true\/X.env.scope.names.lookup x=some .local:=by first|exact .inl rfl|exact .inr rfl|assumption):
  PS X (.Assign [.Name x aU] e pos) (GB te (oT i)):=by
 intro aa s U H D I h;refine wpAny_Assign_Name (jG (he aa s U H _ I h) λv s1 y H1 I1 r1 q1=>?_) hs;exact KG I1 hN hi hx r1 (λs2 I2=>⟨_,H1,I2,q1⟩) hf
def ϑ(i:Nat)(te:TE)(ti:Nn):TS:=λD U H=>∃x,U[i]?=some (some x)/\te U H λy H1=>ti x y H1 λz H2=>D.nx (U.set i (some z)) H2
def ġ{i:Nat}{x:Bg}(hN:X.N.Nodup)(hi:X.N[i]?=some x)(hx:nG X.env.scope x)(he:PE X e te)(ho:Ud X op ti)(hf:X.fn x=true\/X.env.scope.names.lookup x=some .local:=by first|exact .inl rfl|exact .inr rfl|assumption):
  PS X (.AugAssign (.Name x aU) op e pos) (ϑ i te ti):=by
 intro aa s U H D I h;obtain⟨v,e1,h⟩:=h;obtain⟨m,hn,hl⟩:=I.loc
 have vis:mX X.env.scope x:=by rcases hx with k|k;exact .inl k;exact .inr (.inl k)
 obtain⟨u,r,l⟩:=hl i x v hi e1 vis;refine wpAny_AugAssign_Name ?_
 have go:Ar (B2 X.prog X.w) X.A (Bz e X.env) (λw s₂=>Ar (B2 X.prog X.w) X.A (inplaceOp op u w) (λr s₃=>Ar (B2 X.prog X.w) X.A (storeName X.env x r) (λ_=>SP X aa D .next) X.xe s₃) X.xe s₂) X.xe s:=by refine jG (he aa s U H _ I h) λw s1 y H1 I1 r1 q1=>?_;refine jG (ho aa s1 U H1 v y u w _ I1 r r1 q1) λz s2 zv H2 I2 r2 q2=>?_;exact KG I2 hN hi hx r2 (λs3 I3=>⟨_,H2,I3,q2⟩) hf
 rcases l with⟨hk,hm⟩|⟨hk,c,hc,aA⟩
 .exact wpAny_loadName_local I.ok.kind hk hn hm go
 .rcases hk with hk|hk
  .exact wpAny_loadName_cell I.ok.kind hk hc aA go
  .rcases hx with k|k
   .have:X.env.scope.names.lookup x=some .free:=hk
    rw[k]at this;cases this
   .have:X.env.scope.names.lookup x=some .free:=hk
    rw[k]at this;cases this
def ϲ(f:Int->Int->Int):Nn:=λx y H Q=>∃i j,x = .int i/\y = .int j/\Q (.int (f i j)) H
def ZZ:Ud X .Add (ϲ λi j=>i+j):=by intro aa s U H x y v u Q I r1 r2 h;obtain⟨i,j,e1,e2,q⟩:=h;subst e1;subst e2;obtain⟨t,rfl⟩:=r1;obtain⟨t',rfl⟩:=r2;exact iadd_int ⟨.int _,H,I.tok _,⟨_,rfl⟩,q⟩
def ĺ(c:TT)(tb:TS):TS:=λD U H=>∃W:Nat->St->Hp->Prop,(∃m,W m U H)/\∀m U H,W m U H ->
 c U H λb H1=>if b=true then ∃N:St->Hp->Prop,(∀U' H',N U' H'->∃m',m'<m/\W m' U' H')/\tb { D with nx:=N,ct:=N,bk:=D.nx } U H1 else D.nx U H1
theorem í(hp:Lq (B2 X.prog X.w) X.A X.env X.xe)(hc:PT X c tc)(hb:nV X body tb):PS X (.While c body [] pos) (ĺ tc tb):=by
 intro aa s U H D I h;obtain⟨W,⟨m0,w0⟩,turn⟩:=h;refine wpAny_While (codeAny_whileLoop (λn s'=>∃U' H',d4 X aa U' H' s'/\W n U' H') ?_ m0 ⟨U,H,I,w0⟩);rintro n s1 ⟨U1,H1,I1,w1⟩;refine F0 hp (lC (hc aa s1 U1 H1 _ I1 (turn n U1 H1 w1)) λb s2 ⟨H2,I2,q2⟩=>?_)
 cases b with
 |true=>
  obtain⟨N,hN,q2⟩:=q2;rw[if_pos rfl];refine F0 hp (lC (hb aa s2 U1 H2 _ I2 q2) λf s3 q3=>?_)
  cases f with
  |next=>obtain⟨U3,H3,I3,n3⟩:=q3;obtain⟨m',hm,w3⟩:=hN U3 H3 n3;exact⟨m',hm,U3,H3,I3,w3⟩
  |cont=>obtain⟨U3,H3,I3,n3⟩:=q3;obtain⟨m',hm,w3⟩:=hN U3 H3 n3;exact⟨m',hm,U3,H3,I3,w3⟩
  |brk=>exact q3
  |ret v=>exact q3
 |false=>rw[if_neg B0];exact Je ⟨U1,H2,I2,q2⟩
end
structure It where
 go:Nat->Hp->Prop
 yld:Nat->Hp->V->Hp->Prop
 stop:Nat->Hp->Prop
def qK(X:Cx)(aa:jA)(H:Hp)(b:Aw):Prop:=H b=none/\b≠X.env.locals/\b∉X.fs/\(b∈X.ex\/X.s₀.heap.objs.size<=b)/\(∀x c,X.env.cells.lookup x=some c->c≠b)/\∀p∈X.pn++aa,p.1≠b
def d4.fpOk{H H':Hp}{b:Aw}(I:d4 X aa U H s)(hb:s.heap.objs.size<=b)(hn:H' b=none):qK X aa H' b:=by
 refine⟨hn,D4 (Ba I.lt hb),I.nofs hb,.inr (B3 I.sz hb),λx c e z=>?_,λp hp z=>?_⟩
 .obtain⟨v,q⟩:=I.cell x c e;exact absurd (Ba q.lt (by rw[z];exact hb)) (Dk _)
 .exact absurd (Ba (Ao (I.pin p hp).1) (by rw[z];exact hb)) (Dk _)
structure pF(P:By)(w:Cg)(K:A5)(tg:Expr)(J:It)(fp:List Aw)(it:Aw)(tn:Nat->Cl->Prop):Prop where
 mem:it∈fp
 obj:∀i h,tn i h->∀b∈fp,∃o,h.get? b=some o/\∀v,o.data≠.cell v
 keep:∀i h h',tn i h->(∀b∈fp,∀o,h.get? b=some o->h'.get? b=some o)->tn i h'
 item:∀(X:Cx),X.prog=P->X.w=w->X.K=K->X.calm=true->∀(i:Nat) (aa:jA) (s:Am) (U:St) (H:Hp) (E:VP),d4 X aa U H s->(∀b∈fp,qK X aa H b)->tn i s.heap->J.go i H ->
  Ar (B2 P w) X.A (Ki (.ref it)) (λr s1=>∃u,r=some u /\
   Ar (B2 P w) X.A (Jf tg (.ref it) u) (λ_ s2=>∃x H',d4 X aa U H' s2/\i6 x u/\J.yld i H x H'/\tn (i+1) s2.heap/\∀b∈fp,H' b=none) E s1) E s
 done:∀(X:Cx),X.prog=P->X.w=w->X.K=K->X.calm=true->∀(i:Nat) (aa:jA) (s:Am) (U:St) (H:Hp) (E:VP),d4 X aa U H s->(∀b∈fp,qK X aa H b)->tn i s.heap->J.stop i H ->
  Ar (B2 P w) X.A (Ki (.ref it)) (λr s1=>r=none/\d4 X aa U H s1) E s
 self:∀(A:C6) (i:Nat) (s:Am) (Q:VP) (E:VP),tn i s.heap->Q (.ref it) s->Ar (B2 P w) A (Mn (.ref it)) Q E s
abbrev TI:=St->Hp->(It->Hp->Prop)->Prop
def Ue(X:Cx)(aa:jA)(U:St)(tg:Expr)(R:It->Hp->Prop)(itv:Ac)(s2:Am):Prop:=∃(it:Aw) (fp:List Aw) (tn:Nat->Cl->Prop) (J:It) (H':Hp),itv = .ref it/\d4 X aa U H' s2/\pF X.prog X.w X.K tg J fp it tn/\tn 0 s2.heap/\(∀b∈fp,qK X aa H' b)/\R J H'
def PI(X:Cx)(tg af:Expr)(wi:TI):Prop:=
 ∀(aa:jA) (s:Am) (U:St) (H:Hp) (R:It->Hp->Prop),d4 X aa U H s->wi U H R ->
  Ar (B2 X.prog X.w) X.A (Bz af X.env) (λv s1=>Ar (B2 X.prog X.w) X.A (Mn v) (Ue X aa U tg R) X.xe s1) X.xe s
def GF{s:Am}{it:Aw}{o:Jp}{Q:Unit->Am->Prop}(ho:s.heap.get? it=some o)(hc:o.cls = .type n)(hd:o.data = .fields vs)(hn:["enumerate","zip","dict_itemiterator","dict_reverseitemiterator","odict_iterator","itertools.zip_longest","itertools.pairwise"].contains n=false)(hQ:Q () s):Ar M A (Jf tg (.ref it) u) Q E s:=by
  unfold Jf
  cases tg<;>first
    |exact wpAny_pure hQ
    | (cases u<;>first
        |exact wpAny_pure hQ
        | (refine A4 (Mo ho ?_)
           rw[hc,hd]
           show Ar M A (if (["enumerate","zip","dict_itemiterator","dict_reverseitemiterator","odict_iterator","itertools.zip_longest","itertools.pairwise"].contains n&&vs[0]?==some (rawInt _))=true then _ else _) Q E s
           rw[if_neg (by intro h;rw[hn,Bool.false_and]at h;cases h)]
           exact wpAny_pure hQ))
def Nt(K:A5)(a:Aw):It:=
 ⟨λi H=>∃xs x,jE K H a xs/\xs[i]?=some x,λi H x H'=>H'=H/\∀xs,jE K H a xs->xs[i]?=some x,λi H=>∃xs,jE K H a xs/\xs.length<=i⟩
def Nr(K:A5)(a:Aw):It:=
 ⟨λi H=>∃xs x,jF K H a xs/\xs[i]?=some x,λi H x H'=>H'=H/\∀xs,jF K H a xs->xs[i]?=some x,λi H=>∃xs,jF K H a xs/\xs.length<=i⟩
def CF(lo:Int)(n:Nat):It:=⟨λi _=>i<n,λi H x H'=>H'=H/\x = .int (lo+i),λi _=>n<=i⟩
def XV{P:By}{w:Cg}{K:A5}{tg:Expr}(a it:Aw):pF P w K tg (Nt K a) [it] it (λi h=>h.IsListIter it a i) where
 mem:=by simp
 obj:=λi h st b hb=>by
  have e:b=it:=by simpa using hb
  subst e;obtain⟨o,e,c,d⟩:=st;exact⟨o,e,λv z=>by rw[d]at z;cases z⟩
 keep:=λi h h' st k=>st.at λo e=>k it (by simp) o e
 item:=by
  intro X hP hw hK hc i aa s U H E I hf st hg;subst hP hw hK;obtain⟨xs,x,hq,hx⟩:=hg;obtain⟨its,rv,p,hz⟩:=I.list hq;obtain⟨u,hu,ru⟩:=rv.get hx;obtain⟨f0,f1,f2,f3,f4,f5⟩:=hf it (by simp);refine wpAny_pyNext_list_item st p.isList (x:=u) (by simpa using hu) λh' aR sb=>?_;have I1:d4 X aa U H { s with heap:=h' }:=I.turned (t':=s.toks) (λb o hb e=>(sb.2 b hb).trans e) f0 f1 f3 f4 f5;obtain⟨o,e,c,d⟩:=id aR
  exact⟨u,rfl,GF (s:={ s with heap:=h' }) e c d (by decide) ⟨x,H,I1,ru,⟨rfl,λys hy=>by rw[I.list_inj hy hq];exact hx⟩,aR,λb hb=>(hf b hb).1⟩⟩
 done:=by intro X hP hw hK hc i aa s U H E I hf st hg;subst hP hw hK;obtain⟨xs,hq,hx⟩:=hg;obtain⟨its,rv,p,hz⟩:=I.list hq;obtain⟨f0,f1,f2,f3,f4,f5⟩:=hf it (by simp);have hl:=rv.length;exact wpAny_pyNext_list_end (I.ok.hd hc) st p.isList (by simp;omega) λh' eb=>⟨rfl,I.turned (t':=s.toks) (λb o hb e=>eb b o hb e) f0 f1 f3 f4 f5⟩
 self:=λ_ _ _ _ _ st h=>wpAny_pyIter_listiter st h
def Zb{P:By}{w:Cg}{K:A5}{tg:Expr}(a it:Aw):pF P w K tg (Nr K a) [it] it (λi h=>h.IsTupleIter it a i) where
 mem:=by simp
 obj:=λi h st b hb=>by
  have e:b=it:=by simpa using hb
  subst e;obtain⟨o,e,c,d⟩:=st;exact⟨o,e,λv z=>by rw[d]at z;cases z⟩
 keep:=λi h h' st k=>st.at λo e=>k it (by simp) o e
 item:=by
  intro X hP hw hK hc i aa s U H E I hf st hg;subst hP hw hK;obtain⟨xs,x,hq,hx⟩:=hg;obtain⟨its,rv,p,hz⟩:=I.tuple hq;obtain⟨u,hu,ru⟩:=rv.get hx;obtain⟨f0,f1,f2,f3,f4,f5⟩:=hf it (by simp);refine Fl st (show s.heap.IsTuple a its.toArray from p) (x:=u) (by simpa using hu) λh' aR sb=>?_;have I1:d4 X aa U H { s with heap:=h' }:=I.turned (t':=s.toks) (λb o hb e=>(sb.2 b hb).trans e) f0 f1 f3 f4 f5
  obtain⟨o,e,c,d⟩:=id aR;exact⟨u,rfl,GF (s:={ s with heap:=h' }) e c d (by decide) ⟨x,H,I1,ru,⟨rfl,λys hy=>by rw[I.tuple_inj hy hq];exact hx⟩,aR,λb hb=>(hf b hb).1⟩⟩
 done:=by intro X hP hw hK hc i aa s U H E I hf st hg;subst hP hw hK;obtain⟨xs,hq,hx⟩:=hg;obtain⟨its,rv,p,hz⟩:=I.tuple hq;obtain⟨f0,f1,f2,f3,f4,f5⟩:=hf it (by simp);have hl:=rv.length;exact Ic (I.ok.hd hc) st (show s.heap.IsTuple a its.toArray from p) (by simp;omega) λh' eb=>⟨rfl,I.turned (t':=s.toks) (λb o hb e=>eb b o hb e) f0 f1 f3 f4 f5⟩
 self:=λ_ _ _ _ _ st h=>wpAny_pyIter_tupleiter st h
def Za{P:By}{w:Cg}{K:A5}{tg:Expr}(it:Aw)(lo:Int)(n:Nat):pF P w K tg (CF lo n) [it] it (λi h=>IsRangeIter h it (lo+(i:Nat)*1) ((n:Int)-(i:Nat)) 1) where
 mem:=by simp
 obj:=λi h st b hb=>by
  have e:b=it:=by simpa using hb
  subst e
  exact⟨_,st,λv z=>by
   have z':Data.fields _=Data.cell v:=z
   cases z'⟩
 keep:=λi h h' st k=>k it (by simp) _ st
 item:=by
  intro X hP hw hK hc i aa s U H E I hf st hg;subst hP hw hK;obtain⟨f0,f1,f2,f3,f4,f5⟩:=hf it (by simp);have W:=Mp.range (prog:=X.prog) (w:=X.w) (I.ok.hd hc) it lo 1 n;refine W.item i s _ _ hg st λv h' tk hv aR kk=>?_;obtain⟨t,rfl⟩:=hv;have I1:d4 X aa U H { s with heap:=h',toks:=tk }:=I.turned (λb o hb e=>kk b o (by simpa using hb) e) f0 f1 f3 f4 f5;refine⟨_,rfl,GF (s:={ s with heap:=h',toks:=tk }) (n:="range_iterator") aR rfl rfl (by decide) ⟨.int (lo+i),H,I1,⟨t,?_⟩,⟨rfl,rfl⟩,aR,λb hb=>(hf b hb).1⟩⟩
  rw[Int.mul_one]
 done:=by intro X hP hw hK hc i aa s U H E I hf st hg;subst hP hw hK;obtain⟨f0,f1,f2,f3,f4,f5⟩:=hf it (by simp);exact wpAny_pyNext_range_end (I.ok.hd hc) st (by have:n<=i:=hg;omega) λh' eb=>⟨rfl,I.turned (t':=s.toks) (λb o hb e=>eb b o hb e) f0 f1 f3 f4 f5⟩
 self:=λ_ _ _ _ _ st h=>wpAny_pyIter_rangeiter st h
section
variable{X:Cx}{tg:Expr}
def ϡ(K:A5)(tl:TE):TI:=λU H R=>tl U H λx H1=>∃a,x = .ref a/\(∃xs,jE K H1 a xs)/\R (Nt K a) H1
def ú(K:A5)(tl:TE):TI:=λU H R=>tl U H λx H1=>∃a,x = .ref a/\(∃xs,jF K H1 a xs)/\R (Nr K a) H1
def Qv(hl:PE X l tl):PI X tg l (ϡ X.K tl):=by
 intro aa s U H R I h;refine jG (hl aa s U H _ I h) λv s1 x H1 I1 r1 q1=>?_;obtain⟨a,e,⟨xs,hq⟩,q⟩:=q1;subst e;cases r1;obtain⟨its,rv,p,hz⟩:=I1.list hq;refine Jy p.isList ?_;refine⟨s1.heap.objs.size,[s1.heap.objs.size],_,_,H1,rfl,I1.kept (t':=s1.toks) λb o e=>A8 _ e,XV a _,⟨_,Au _ rfl,rfl,rfl⟩,λb hb=>?_,q⟩
 have e:b=s1.heap.objs.size:=by simpa using hb
 subst e;exact I1.fpOk (Ak _) (I1.hok.fresh (Ak _))
def Ġ(hl:PE X l tl):PI X tg l (ú X.K tl):=by
 intro aa s U H R I h;refine jG (hl aa s U H _ I h) λv s1 x H1 I1 r1 q1=>?_;obtain⟨a,e,⟨xs,hq⟩,q⟩:=q1;subst e;cases r1;obtain⟨its,rv,p,hz⟩:=I1.tuple hq;refine Ep (show s1.heap.IsTuple a its.toArray from p) ?_;refine⟨s1.heap.objs.size,[s1.heap.objs.size],_,_,H1,rfl,I1.kept (t':=s1.toks) λb o e=>A8 _ e,Zb a _,⟨_,Au _ rfl,rfl,rfl⟩,λb hb=>?_,q⟩
 have e:b=s1.heap.objs.size:=by simpa using hb
 subst e;exact I1.fpOk (Ak _) (I1.hok.fresh (Ak _))
def Rt{R:It->Hp->Prop}{lo hi:Int}{tk:Nat}(I:d4 X aa U H s)(h1 : -(2 ^ 62)<=lo)(h2:lo<2 ^ 62)(h3 : -(2 ^ 62)<=hi)(h4:hi<2 ^ 62)(q:R (CF lo (hi-lo).toNat) H):Ar (B2 X.prog X.w) X.A (Mn (.ref s.heap.objs.size)) (Ue X aa U tg R) E { s with heap:=s.heap.push { cls:=.type "range",data:=.fields #[.int lo t,.int hi u,.int 1 v] },toks:=tk }:=by
 refine wpAny_pyIter_range (IsRange.new ..) (small_one h1 h2 h3 h4) ?_;have I1:d4 X aa U H { s with heap:=s.heap.push { cls:=.type "range",data:=.fields #[.int lo t,.int hi u,.int 1 v] },toks:=tk }:=I.kept λb o e=>A8 _ e
 refine⟨(s.heap.push { cls:=.type "range",data:=.fields #[.int lo t,.int hi u,.int 1 v] }).objs.size,[(s.heap.push { cls:=.type "range",data:=.fields #[.int lo t,.int hi u,.int 1 v] }).objs.size],_,_,H,rfl,
  I1.kept (t':=tk) λb o e=>A8 _ e,Za _ lo (hi-lo).toNat,?_,λb hb=>?_,q⟩
 .have e1:lo+((0:Nat):Int)*1=lo:=by simp
  have e2:(((hi-lo).toNat:Nat):Int)-((0:Nat):Int)=Hy lo hi 1:=by rw[Ly];split<;>omega
  show IsRangeIter _ _ (lo+((0:Nat):Int)*1) ((((hi-lo).toNat:Nat):Int)-((0:Nat):Int)) 1;rw[e1,e2];exact Au _ rfl
 .have e:b=(s.heap.push { cls:=.type "range",data:=.fields #[.int lo t,.int hi u,.int 1 v] }).objs.size:=by simpa using hb
  subst e;exact I1.fpOk (Ak _) (I1.hok.fresh (Ak _))
def Ϣ(ta:TA):TI:=λU H R=>ta U H λvs H1=>∃j:Int,vs=[.int j]/\-(2 ^ 62)<=j/\j<2 ^ 62/\R (CF 0 j.toNat) H1
def ϣ(ta:TA):TI:=λU H R=>ta U H λvs H1=>∃i j:Int,vs=[.int i,.int j]/\(-(2 ^ 62)<=i/\i<2 ^ 62/\-(2 ^ 62)<=j/\j<2 ^ 62)/\R (CF i (j-i).toNat) H1
theorem Xu{a:Expr}{p pos:Gm}(hg:Gl X "range")(hm:X.mg "range" = none)(ha:PA X [a] ta)(hs:A9 [a] X.env=[(false,Bz a X.env)]:=by rfl):PI X tg (.Call (.Name "range" p) [a] [] pos) (Ϣ ta):=by
 intro aa s U H R I h;refine Call_ (oW I hg hm boot_range (Du (jG (ha pos aa s U H _ I h) λus s1 vs H1 I1 r1 q1=>?_) hs rfl));obtain⟨j,e,q1,q2,q⟩:=q1;subst e
 cases r1 with
 |cons r rr=>cases rr;obtain⟨t,rfl⟩:=r;exact call_range_1 (Rt I1 (by omega) (by omega) q1 q2 (by simpa using q))
theorem Xv{a b:Expr}{p pos:Gm}(hg:Gl X "range")(hm:X.mg "range" = none)(ha:PA X [a,b] ta)(hs:A9 [a,b] X.env=[(false,Bz a X.env),(false,Bz b X.env)]:=by rfl)(bD:A9 [b] X.env=[(false,Bz b X.env)]:=by rfl):
  PI X tg (.Call (.Name "range" p) [a,b] [] pos) (ϣ ta):=by
 intro aa s U H R I h;refine Call_ (oW I hg hm boot_range (Du (jG (ha pos aa s U H _ I h) λus s1 vs H1 I1 r1 q1=>?_) (by rw[hs,bD]) (by rw[bD];rfl)))
 obtain⟨i,j,e,⟨q1,q2,q3,q4⟩,q⟩:=q1;subst e
 cases r1 with
 |cons r rr=>
  cases rr with
  |cons r' rr=>cases rr;obtain⟨t,rfl⟩:=r;obtain⟨t',rfl⟩:=r';exact call_range_2 (Rt I1 q1 q2 q3 q4 q)
def T5(wi:TI)(g:TG)(tb:TS):TS:=λD U H=>wi U H λJ H1=>∃W:Nat->Nat->St->Hp->Prop,(∃m,W 0 m U H1)/\∀i m U H,W i m U H ->
 (J.stop i H/\D.nx U H)\/(J.go i H/\∃N:St->Hp->Prop,(∀U' H',N U' H'->∃m',m'<m/\W (i+1) m' U' H')/\∀x H',J.yld i H x H'->g x U H' λU2 H2=>tb { D with nx:=N,ct:=N,bk:=D.nx } U2 H2)
def AQ(fp:List Aw)(h:Cl):jA:=fp.filterMap λb=>(h.get? b).map λo=>(b,o)
def CZ{fp:List Aw}{h:Cl}{b:Aw}{o:Jp}(hb:b∈fp)(e:h.get? b=some o):(b,o)∈AQ fp h:=Jr.mpr ⟨b,hb,by rw[e];rfl⟩
theorem Xq{p:Aw×Jp}(hp:p∈AQ fp h):p.1∈fp/\h.get? p.1=some p.2:=by
 obtain⟨b,hb,e⟩:=Jr.mp hp
 cases q:h.get? b with
 |none=>rw[q]at e;cases e
 |some o=>rw[q]at e;have e':(b,o)=p:=Bb e;subst e';exact⟨hb,q⟩
def d4.pinned{fp:List Aw}(I:d4 X aa U H s)(hf:∀b∈fp,qK X aa H b)(ho:∀b∈fp,∃o,s.heap.get? b=some o/\∀v,o.data≠.cell v):d4 X (aa++AQ fp s.heap) U H s:=I.pins_of λp hp=>(Aq.mp hp).elim (λz=>I.pin p (Ab _ z)) λz=>by obtain⟨hb,e⟩:=Xq z;obtain⟨f0,f1,f2,_⟩:=hf p.1 hb;obtain⟨o,e',d⟩:=ho p.1 hb;rw[e]at e';cases e';exact⟨e,f0,f1,f2,d⟩
def d4.unpinned{aa pl:jA}(I:d4 X (aa++pl) U H s):d4 X aa U H s:=I.pins_of λp hp=>I.pin p (Ab _ (B4 _ hp))
def Th(hp:Lq (B2 X.prog X.w) X.A X.env X.xe)(hc:X.calm=true)(hi:PI X tg af wi)(hg:PG X tg g)(hb:nV X body tb)(hs:∀x,C3 af X.env x=Cj x:=by intro _;rfl):PS X (.For tg af body [] pos) (T5 wi g tb):=by
 intro aa s U H D I h;refine wpAny_For (lC (hi aa s U H _ I h) λv s1 h1=>lC h1 λitv s2 h2=>?_) hs;obtain⟨it,fp,tn,J,H2,e,I2,T,dw,f2,W,⟨m0,w0⟩,turn⟩:=h2;subst e;have cF:∀{H':Hp},(∀b∈fp,H' b=none)->∀b∈fp,qK X aa H' b:=λhn b hb=>⟨hn b hb,(f2 b hb).2⟩;refine codeAny_forLoop_any (λn s'=>∃i U' H',d4 X aa U' H' s'/\tn i s'.heap/\(∀b∈fp,H' b=none)/\W i n U' H') ?_ m0 ⟨0,U,H2,I2,dw,λb hb=>(f2 b hb).1,w0⟩
 rintro n s3 ⟨i,U3,H3,I3,iT,fr3,w3⟩;rcases turn i n U3 H3 w3 with⟨stop,qn⟩|⟨go,N,hN,step⟩
 .refine F0 hp (lC (T.done X rfl rfl rfl hc i aa s3 U3 H3 X.xe I3 (cF fr3) iT stop) λr s4 ⟨hr,I4⟩=>?_);subst hr;exact Je ⟨U3,H3,I4,qn⟩
 .refine F0 hp (lC (T.item X rfl rfl rfl hc i aa s3 U3 H3 X.xe I3 (cF fr3) iT go) λr s4 ⟨u,hr,h4⟩=>?_);subst hr;refine F0 hp (lC h4 λ_ s5 ⟨x,H5,I5,r5,y5,gq,fr5⟩=>?_);have I5':=I5.pinned (cF fr5) (T.obj _ _ gq);refine F0 hp (lC (hg _ s5 U3 H5 x u _ I5' r5 (step x H5 y5)) λ_ s6 ⟨U6,H6,I6,q6⟩=>?_);refine F0 hp (lC (hb _ s6 U6 H6 _ I6 q6) λf s7 q7=>?_)
  have Mq:∀{U7:St} {H7:Hp},d4 X (aa++AQ fp s5.heap) U7 H7 s7->N U7 H7->∃m,m<n/\∃i U' H',d4 X aa U' H' s7/\tn i s7.heap/\(∀b∈fp,H' b=none)/\W i m U' H':=λ{U7 H7} I7 n7=>by obtain⟨m',hm,w7⟩:=hN U7 H7 n7;refine⟨m',hm,i+1,U7,H7,I7.unpinned,T.keep _ _ _ gq λb hb o e=>(I7.pin (b,o) (Ab _ (Ab _ (CZ hb e)))).1,λb hb=>?_,w7⟩;obtain⟨o,e,d⟩:=T.obj _ _ gq b hb;exact(I7.pin (b,o) (Ab _ (Ab _ (CZ hb e)))).2.1
  cases f with
  |next=>obtain⟨U7,H7,I7,n7⟩:=q7;exact Mq I7 n7
  |cont=>obtain⟨U7,H7,I7,n7⟩:=q7;exact Mq I7 n7
  |brk=>obtain⟨U7,H7,I7,q7⟩:=q7;exact⟨U7,H7,I7.unpinned,q7⟩
  |ret v=>obtain⟨x7,U7,H7,I7,r7,q7⟩:=q7;exact⟨x7,U7,H7,I7.unpinned,r7,q7⟩
end
abbrev R2:=V->V->Hp->VK->Prop
def kG(X:Cx)(f:Ac->Ac->Sem Ac)(r:R2):Prop:=
 ∀(aa:jA) (s:Am) (U:St) (H:Hp) (x y:V) (v u:Ac) (Q:VK),d4 X aa U H s->i6 x v->i6 y u->r x y H Q ->
  Ar (B2 X.prog X.w) X.A (f v u) (EP X aa U Q) X.xe s
def Nm(X:Cx)(f:Ac->Sem Ac)(r:V->Hp->VK->Prop):Prop:=
 ∀(aa:jA) (s:Am) (U:St) (H:Hp) (x:V) (v:Ac) (Q:VK),d4 X aa U H s->i6 x v->r x H Q ->
  Ar (B2 X.prog X.w) X.A (f v) (EP X aa U Q) X.xe s
def lN(X:Cx)(f:Ac)(r:List V->Hp->VK->Prop):Prop:=
 ∀(aa:jA) (s:Am) (U:St) (H:Hp) (xs:List V) (us:List Ac) (Q:VK),d4 X aa U H s->W3 xs us->r xs H Q ->
  Ar (B2 X.prog X.w) X.A (call f us) (EP X aa U Q) X.xe s
def ô(X:Cx)(r:V->Hp->(Bool->Hp->Prop)->Prop):Prop:=
 ∀(aa:jA) (s:Am) (U:St) (H:Hp) (x:V) (v:Ac) (Q:Bool->Hp->Prop),d4 X aa U H s->i6 x v->r x H Q ->
  Ar (B2 X.prog X.w) X.A (Mm v) (TP X aa U Q) X.xe s
def zF(r:R2)(ta tb:TE):TE:=λU H Q=>ta U H λx H1=>tb U H1 λy H2=>r x y H2 Q
def Ϧ(r:V->Hp->VK->Prop)(ta:TE):TE:=λU H Q=>ta U H λx H1=>r x H1 Q
def rI(C:Int->Int->Prop)(g:Int->Int->V):R2:=λx y H Q=>∃i j,x = .int i/\y = .int j/\C i j/\Q (g i j) H
def rW(g:Int->Int->V):R2:=λx y H Q=>∃i j,x = .int i/\y = .int j/\Q (g i j) H
def rU(g:Int->V):V->Hp->VK->Prop:=λx H Q=>∃i,x = .int i/\Q (g i) H
section
variable{X:Cx}{a b c:Expr}{ta tb tc:TE}{pos:Gm}
def Na(ha:PE X a ta)(hb:PE X b tb){R:V->V->Hp->Prop}(I:d4 X aa U H s)(h:ta U H λx H1=>tb U H1 λy H2=>R x y H2){f:Ac->Ac->Sem Ac}(hf:∀v u s2 x y H2,d4 X aa U H2 s2->i6 x v->i6 y u->R x y H2->Ar (B2 X.prog X.w) X.A (f v u) Q X.xe s2):
  Ar (B2 X.prog X.w) X.A (Bz a X.env) (λv s₁=>Ar (B2 X.prog X.w) X.A (Bz b X.env) (λu s₂=>Ar (B2 X.prog X.w) X.A (f v u) Q X.xe s₂) X.xe s₁) X.xe s:=by
 refine jG (ha aa s U H _ I h) λv s1 x H1 I1 r1 q1=>?_;refine jG (hb aa s1 U H1 _ I1 q1) λu s2 y H2 I2 r2 q2=>?_;exact hf v u s2 x y H2 I2 r1 r2 q2
def RY(ho:kG X (Gn op) r)(ha:PE X a ta)(hb:PE X b tb):PE X (.BinOp a op b pos) (zF r ta tb):=by intro aa s U H Q I h;exact wpAny_BinOp (Na ha hb I h λv u s2 x y H2 I2 rx ry q=>ho aa s2 U H2 x y v u Q I2 rx ry q)
def Zq(ho:Nm X (unaryOp op) r)(ha:PE X a ta):PE X (.UnaryOp op a pos) (Ϧ r ta):=by intro aa s U H Q I h;exact UnaryOp_ (jG (ha aa s U H _ I h) λv s1 x H1 I1 r1 q1=>ho aa s1 U H1 x v Q I1 r1 q1)
def Ni{f:Ac->Ac->Sem Ac}{C:Int->Int->Prop}{g:Int->Int->Int}(rule:∀(i j:Int) (t u:Tok) (s:Am) (Q:VP) (E:VP),C i j->Q (.int (g i j) s.toks) { s with toks:=s.toks+1 }->Ar (B2 X.prog X.w) X.A (f (.int i t) (.int j u)) Q E s):
  kG X f (rI C λi j=>.int (g i j)):=by
 intro aa s U H x y v u Q I rx ry h;obtain⟨i,j,rfl,rfl,hc,q⟩:=h;obtain⟨t,rfl⟩:=rx;obtain⟨t',rfl⟩:=ry;exact rule i j t t' s _ _ hc ⟨.int (g i j),H,I.tok _,⟨_,rfl⟩,q⟩
def TX{f:Ac->Ac->Sem Ac}{g:Int->Int->Int}(rule:∀(i j:Int) (t u:Tok) (s:Am) (Q:VP) (E:VP),Q (.int (g i j) s.toks) { s with toks:=s.toks+1 }->Ar (B2 X.prog X.w) X.A (f (.int i t) (.int j u)) Q E s):
  kG X f (rW λi j=>.int (g i j)):=by
 intro aa s U H x y v u Q I rx ry h;obtain⟨i,j,rfl,rfl,q⟩:=h;obtain⟨t,rfl⟩:=rx;obtain⟨t',rfl⟩:=ry;exact rule i j t t' s _ _ ⟨.int (g i j),H,I.tok _,⟨_,rfl⟩,q⟩
def FY{f:Ac->Ac->Sem Ac}{g:Int->Int->Bool}(rule:∀(i j:Int) (t u:Tok) (s:Am) (Q:VP) (E:VP),Q (.bool (g i j)) s->Ar (B2 X.prog X.w) X.A (f (.int i t) (.int j u)) Q E s):
  kG X f (rW λi j=>.bl (g i j)):=by
 intro aa s U H x y v u Q I rx ry h;obtain⟨i,j,rfl,rfl,q⟩:=h;obtain⟨t,rfl⟩:=rx;obtain⟨t',rfl⟩:=ry;exact rule i j t t' s _ _ ⟨.bl (g i j),H,I,rfl,q⟩
def TK(i j:Int):Prop:=0<j/\j<1073741824
def BS(i j:Int):Prop:=(-(2 ^ 64)<i/\i<2 ^ 64)\/(-(2 ^ 64)<j/\j<2 ^ 64)
def BS.ok(h:BS i j):IntMulOk i j:=by
 rcases h with⟨h1,h2⟩|⟨h1,h2⟩
 .exact .of_left (intBits_le_64 h1 h2)
 .exact .of_right (intBits_le_64 h1 h2)
def Ď:kG X (Gn .Add) (rW λi j=>.int (i+j)):=TX λ_ _ _ _ _ _ _ q=>add_int q
def ē:kG X (Gn .Sub) (rW λi j=>.int (i-j)):=TX λ_ _ _ _ _ _ _ q=>sub_int q
def đ:kG X (Gn .Mult) (rI BS λi j=>.int (i*j)):=Ni λ_ _ _ _ _ _ _ hc q=>mul_int q hc.ok
def Ś:kG X (Gn .FloorDiv) (rI TK λi j=>.int (i / j)):=Ni λi j _ _ _ _ _ hc q=>by have h1:(0:Int)<j:=hc.1;have h2:j<1073741824:=hc.2;exact floordiv_int (by omega) (by rw[Int.fdiv_eq_ediv_of_nonneg i (by omega)];exact q) (.inl (PyProof.noPylong_small (by omega)))
def Đ:kG X (Gn .Mod) (rI (λ_ j=>0<j) λi j=>.int (i % j)):=Ni λi j _ _ _ _ _ hc q=>by have h1:(0:Int)<j:=hc;exact mod_int' (by omega) (by rw[Int.fmod_eq_emod_of_nonneg i (by omega)];exact q)
def ϥ{f:Ac->Sem Ac}{g:Int->Int}(rule:∀(i:Int) (t:Tok) (s:Am) (Q:VP) (E:VP),Q (.int (g i) s.toks) { s with toks:=s.toks+1 }->Ar (B2 X.prog X.w) X.A (f (.int i t)) Q E s):
  Nm X f (rU λi=>.int (g i)):=by
 intro aa s U H x v Q I rx h;obtain⟨i,rfl,q⟩:=h;obtain⟨t,rfl⟩:=rx;exact rule i t s _ _ ⟨.int (g i),H,I.tok _,⟨_,rfl⟩,q⟩
def Ľ:Nm X (unaryOp .USub) (rU λi=>.int (-i)):=ϥ λ_ _ _ _ _ q=>neg_int q
def uS:kG X (Ce .Lt) (rW λi j=>.bl (decide (i<j))):=FY λ_ _ _ _ _ _ _ q=>lt_int q
def GG:kG X (Ce .LtE) (rW λi j=>.bl (decide (i<=j))):=FY λ_ _ _ _ _ _ _ q=>le_int q
def Zn:kG X (Ce .Gt) (rW λi j=>.bl (decide (j<i))):=FY λ_ _ _ _ _ _ _ q=>gt_int q
def Zm:kG X (Ce .GtE) (rW λi j=>.bl (decide (j<=i))):=FY λ_ _ _ _ _ _ _ q=>ge_int q
def kG.or(h:kG X f r)(h':kG X f r'):kG X f (λx y H Q=>r x y H Q\/r' x y H Q):=by
 intro aa s U H x y v u Q I rx ry q;rcases q with q|q
 .exact h aa s U H x y v u Q I rx ry q
 .exact h' aa s U H x y v u Q I rx ry q
def qW(b:Expr){op:Ml}(h:op≠.In:=by decide)(h2:op≠.NotIn:=by decide):Cs op b=false:=by
 have e1:(op==Ml.In)=false:=by cases op<;>first|rfl|exact absurd rfl h
 have e2:(op==Ml.NotIn)=false:=by cases op<;>first|rfl|exact absurd rfl h2
 cases b<;>simp[Cs,e1,e2]
def Qr(ho:kG X (Ce op) r)(ha:PE X a ta)(hb:PE X b tb)(hm:Cs op b=false):PE X (.Compare a [op] [b] pos) (zF r ta tb):=by intro aa s U H Q I h;exact wpAny_Compare1 (Na ha hb I h λv u s2 x y H2 I2 rx ry q=>ho aa s2 U H2 x y v u Q I2 rx ry q) hm
def Sh(t:TE):TT:=λU H Q=>t U H λx H'=>∃k,x = .bl k/\Q k H'
def JE(ho:kG X (Ce op) r)(ha:PE X a ta)(hb:PE X b tb)(hm:Cs op b=false):PT X (.Compare a [op] [b] pos) (Sh (zF r ta tb)):=by
 intro aa s U H Q I h
 refine wpAny_isTrue_Compare1 (jG (ha aa s U H _ I h) λv s1 x H1 I1 r1 q1=>jG (hb aa s1 U H1 _ I1 q1) λu s2 y H2 I2 r2 q2=>
  jG (ho aa s2 U H2 x y v u _ I2 r1 r2 q2) λc s3 z H3 I3 r3 ⟨k,e,q3⟩=>?_) hm
 subst e;cases r3;exact Cn ⟨H3,I3,q3⟩
def LY(r r':R2)(ta tb tc:TE):TE:=λU H Q=>ta U H λx H1=>tb U H1 λy H2=>r x y H2 λz H3=>∃k,z = .bl k /\
 (if k=true then tc U H3 λw' H4=>r' y w' H4 Q else Q (.bl false) H3)
theorem å(ho:kG X (Ce op) r)(bh:kG X (Ce op') r')(ha:PE X a ta)(hb:PE X b tb)(hc:PE X c tc)(hm:Mf [op,op'] [b,c]=false:=by with_unfolding_all rfl):PE X (.Compare a [op,op'] [b,c] pos) (LY r r' ta tb tc):=by
 intro aa s U H Q I h
 refine Compare_chain (jG (ha aa s U H _ I h) λv s1 x H1 I1 r1 q1=>chain_link (jG (hb aa s1 U H1 _ I1 q1) λu s2 y H2 I2 r2 q2=>
  jG (ho aa s2 U H2 x y v u _ I2 r1 r2 q2) λd s3 z H3 I3 r3 ⟨k,e,q3⟩=>?_)) hm
 subst e;cases r3;refine Cn ?_
 cases k with
 |false=>exact ite_ff ⟨.bl false,H3,I3,rfl,q3⟩
 |true=>exact ite_tt (chain_last (jG (hc aa s3 U H3 _ I3 q3) λw' s4 z' H4 I4 r4 q4=>bh aa s4 U H4 y z' u w' Q I4 r2 r4 q4))
theorem î(ho:kG X (Ce op) r)(bh:kG X (Ce op') r')(ha:PE X a ta)(hb:PE X b tb)(hc:PE X c tc)(hm:Mf [op,op'] [b,c]=false:=by with_unfolding_all rfl):PT X (.Compare a [op,op'] [b,c] pos) (Sh (LY r r' ta tb tc)):=by
 intro aa s U H Q I h
 refine isTrue_chain (jG (ha aa s U H _ I h) λv s1 x H1 I1 r1 q1=>test_link (jG (hb aa s1 U H1 _ I1 q1) λu s2 y H2 I2 r2 q2=>
  jG (ho aa s2 U H2 x y v u _ I2 r1 r2 q2) λd s3 z H3 I3 r3 ⟨k,e,q3⟩=>?_)) hm
 subst e;cases r3;refine Cn ?_
 cases k with
 |false=>obtain⟨k',e',q'⟩:=q3;cases e';exact ite_ff ⟨H3,I3,q'⟩
 |true=>refine ite_tt (test_last (jG (hc aa s3 U H3 _ I3 q3) λw' s4 z' H4 I4 r4 q4=>jG (bh aa s4 U H4 y z' u w' _ I4 r2 r4 q4) λd' s5 z2 H5 I5 r5 ⟨k2,e2,q5⟩=>?_));subst e2;cases r5;exact Cn ⟨H5,I5,q5⟩
def TM(K:A5)(x:V)(H:Hp)(k:Bool):Prop:=
 match x with
 | .non=>k=false
 | .bl b=>k=b
 | .int i=>k=(i != 0)
 | .str y=>y.length<=sizeLine/\k=((y.length:Int) != 0)
 | .byt y=>y.size<=sizeLine/\k=((y.size:Int) != 0)
 | .ref p=>(∃xs,jE K H p xs/\k = !xs.isEmpty)\/(∃xs,jF K H p xs/\k = !xs.isEmpty)\/∃kvs,H p=some (.dK kvs)/\k = !kvs.isEmpty
 |_=>False
def Yx{κ:Type}{kvs:List (κ×V)}{vs:List (κ×Ac)}(r:KV kvs vs):(!vs.isEmpty) = !kvs.isEmpty:=by cases r<;>rfl
def Pb(r:W3 xs its):(!its.toArray.isEmpty) = !xs.isEmpty:=by cases r<;>simp
def yH:(sizeLine:Nat)<2 ^ 63:=by rw[C1];decide
theorem Ļ:ô X (λx H Q=>∃k,TM X.K x H k/\Q k H):=by
 intro aa s U H x v Q I rx h;obtain⟨k,e,q⟩:=h;have hl:=yH;have hs:sizeLine=16777216:=C1
 cases x with
 |non=>cases rx;have e':k=false:=e;subst e';exact truthy_none ⟨H,I,q⟩
 |bl b=>cases rx;have e':k=b:=e;subst e';exact Cn ⟨H,I,q⟩
 |int i=>obtain⟨t,rfl⟩:=rx;have e':k=(i != 0):=e;subst e';exact PySem.P.truthy_int ⟨H,I,q⟩
 |str y=>obtain⟨t,rfl⟩:=rx;obtain⟨hy,e'⟩:y.length<=sizeLine/\k=((y.length:Int) != 0):=e;subst e';exact PySem.P.truthy_str (by omega) ⟨H,I.tok _,q⟩
 |byt y=>obtain⟨t,rfl⟩:=rx;obtain⟨hy,e'⟩:y.size<=sizeLine/\k=((y.size:Int) != 0):=e;subst e';exact PySem.W.truthy_bytes (by omega) ⟨H,I.tok _,q⟩
 |ref p=>
  cases rx;have e':(∃xs,jE X.K H p xs/\k = !xs.isEmpty)\/(∃xs,jF X.K H p xs/\k = !xs.isEmpty)\/∃kvs,H p=some (.dK kvs)/\k = !kvs.isEmpty:=e;rcases e' with⟨xs,hx,e'⟩|⟨xs,hx,e'⟩|⟨kvs,hx,e'⟩
  .subst e';obtain⟨its,r,pl,hz⟩:=I.list hx;have ab:=r.length;exact wpAny_truthy_list pl.isList (by simp only[Ag];omega) ⟨H,I.tok _,by rw[Pb r];exact q⟩
  .subst e';obtain⟨its,r,pl,hz⟩:=I.tuple hx;have ab:=r.length;exact truthy_tuple pl (by simp only[Ag];omega) ⟨H,I.tok _,by rw[Pb r];exact q⟩
  .subst e';obtain⟨hz,hS,vs,r,m⟩:kvs.length<=sizeLine/\(p==Ff)=false/\∃vs,KV kvs vs/\s.heap.DictOf (mC X.prog X.w) p vs:=I.hok p _ hx;have ab:kvs.length=vs.length:=Kh r;exact wpAny_truthy_dict hS m (by omega) ⟨H,I.tok _,by rw[Yx r];exact q⟩
 |_=>exact(show False from e).elim
def ï(ha:PE X a ta)(he:∀aL,isTrue a X.env aL=(do let v <-aL;Jx a.pos;Gx [v] (Mm v))):
  PT X a (λU H Q=>ta U H λx H'=>∃k,TM X.K x H' k/\Q k H'):=by
 intro aa s U H Q I h;exact isTrue_plain (jG (ha aa s U H _ I h) λv s1 x H1 I1 r1 q1=>Ļ aa s1 U H1 x v Q I1 r1 q1) (he _)
theorem nH{x:V}(r:W3 [x] us):∃u,us=[u]/\i6 x u:=by
 cases r with
 |cons r1 r2=>cases r2;exact⟨_,rfl,r1⟩
theorem BR{x y:V}(r:W3 [x,y] us):∃u w',us=[u,w']/\i6 x u/\i6 y w':=by
 cases r with
 |cons r1 r2=>
  cases r2 with
  |cons r3 r4=>cases r4;exact⟨_,_,rfl,r1,r3⟩
def Oh(hc:X.calm=true):lN X (.builtin "max") (λxs H Q=>∃i j,xs=[.int i,.int j]/\Q (.int (if j>i then j else i)) H):=by
 intro aa s U H xs us Q I r h;obtain⟨i,j,rfl,q⟩:=h;obtain⟨u,w',rfl,⟨t,rfl⟩,⟨t',rfl⟩⟩:=BR r;refine max_two_ints (I.ok.hd hc) λh' tk k=>⟨_,H,I.kept k,?_,q⟩;by_cases hj:j>i
 .rw[if_pos hj,if_pos hj];exact⟨_,rfl⟩
 .rw[if_neg hj,if_neg hj];exact⟨_,rfl⟩
def Oj(hc:X.calm=true):lN X (.builtin "min") (λxs H Q=>∃i j,xs=[.int i,.int j]/\Q (.int (if j<i then j else i)) H):=by
 intro aa s U H xs us Q I r h;obtain⟨i,j,rfl,q⟩:=h;obtain⟨u,w',rfl,⟨t,rfl⟩,⟨t',rfl⟩⟩:=BR r;refine min_two_ints (I.ok.hd hc) λh' tk k=>⟨_,H,I.kept k,?_,q⟩;by_cases hj:j<i
 .rw[if_pos hj,if_pos hj];exact⟨_,rfl⟩
 .rw[if_neg hj,if_neg hj];exact⟨_,rfl⟩
def WG:lN X (.type "int") (λxs H Q=>(∃i,xs=[.int i]/\Q (.int i) H)\/∃k,xs=[.bl k]/\Q (.int (if k then 1 else 0)) H):=by
 intro aa s U H xs us Q I r h;rcases h with⟨i,rfl,q⟩|⟨k,rfl,q⟩
 .obtain⟨u,rfl,t,rfl⟩:=nH r;exact call_int_int ⟨.int i,H,I,⟨_,rfl⟩,q⟩
 .obtain⟨u,rfl,r1⟩:=nH r;cases r1;exact call_int_bool ⟨.int (if k then 1 else 0),H,I.tok _,⟨_,rfl⟩,q⟩
end
theorem pV.some_of{v:V}(r:pV (some v) o):∃u,o=some u/\i6 v u:=by
 cases o with
 |none=>exact(show False from r).elim
 |some u=>exact⟨u,rfl,r⟩
structure h9(k:Nat)(A:C6):Prop where
 hd:A.handled=none
 dp:A.depth+3*k+5<recursionLimit
 un:A.units+16*k+200<Cz
 gd:A.guards=some []
def h9.mono{j k:Nat}(r:h9 k A)(h:j<=k):h9 j A:=⟨r.hd,by have:=r.dp;omega,by have:=r.un;omega,r.gd⟩
def h9.deeper{k:Nat}(r:h9 (k+1) A)(env:Me):h9 k (A.deeper env):=
 ⟨r.hd,by have:=r.dp;show A.depth+1+3*k+5<_;omega,by have:=r.un;show A.units+3+16*k+200<_;omega,r.gd⟩
def h9.in1{k:Nat}(r:h9 (k+1) A):h9 k A.in1:=
 ⟨r.hd,by have:=r.dp;show A.depth+3*k+5<_;omega,by have:=r.un;show A.units+1+16*k+200<_;omega,r.gd⟩
def h9.depth(r:h9 k A):A.depth<recursionLimit:=by have:=r.dp;omega
def h9.units(r:h9 k A):A.units+64<Cz:=by have:=r.un;omega
def h9.units0(r:h9 k A):A.units<Cz:=by have:=r.un;omega
def GC:TA:=λ_ H Q=>Q [] H
def MV(ta:TE)(tr:TA):TA:=λU H Q=>ta U H λx H1=>tr U H1 λxs H2=>Q (x::xs) H2
section
variable{X:Cx}{e:Expr}{es:List Expr}{te:TE}{t:TA}{pos:Gm}
def W6:PA X [] GC:=λ_ _ _ _ H Q I h=>Calls.spliced_nil ⟨[],H,I,.nil,h⟩
def J7(ha:PE X e te)(hr:PA X es t)(hs:A9 (e::es) X.env=(false,Bz e X.env)::A9 es X.env:=by rfl):PA X (e::es) (MV te t):=by intro pos aa s U H Q I h;rw[hs];show Ar _ _ (spliced ((false,Bz e X.env)::Bu pos (A9 es X.env))) _ _ s;refine Calls.spliced_cons (jG (ha aa s U H _ I h) λu s1 x H1 I1 r1 q1=>?_);exact jG (hr pos aa s1 U H1 _ I1 q1) λus s2 xs H2 I2 r2 q2=>⟨x::xs,H2,I2,.cons r1 r2,q2⟩
def ϖ(t:TA):TE:=λU H Q=>t U H λxs H1=>xs.length<=sizeLine/\∀p,H1 p=none->Q (.ref p) (upd H1 p (.tup xs))
def T6(t:TA):TE:=λU H Q=>t U H λxs H1=>xs.length<=sizeLine/\∀p,H1 p=none->Q (.ref p) (upd H1 p (.lst xs))
def ĝ{x1}(h:PA X es t):PE X (.Tuple es x1 pos) (ϖ t):=by
 intro aa s U H Q I hq;refine wpAny_Tuple_spliced (jG (h pos aa s U H _ I hq) λus s1 xs H1 I1 r ⟨z,q⟩=>⟨by rw[<-r.length];exact z,?_⟩)
 have hf:H1 s1.heap.objs.size=none:=I1.hok.fresh (Ak _);refine⟨.ref s1.heap.objs.size,upd H1 s1.heap.objs.size (.tup xs),I1.laid (t':=s1.toks) (λb u e=>A8 _ e) (Ak _) ?_,rfl,q _ hf⟩;exact⟨z,us,r,⟨_,Au _ rfl,rfl,⟨_,rfl⟩,rfl⟩⟩
def Td(h:PA X es t):PE X (.List es pos) (T6 t):=by
 intro aa s U H Q I hq;refine wpAny_List_spliced (jG (h pos aa s U H _ I hq) λus s1 xs H1 I1 r ⟨z,q⟩=>⟨by rw[<-r.length];exact z,?_⟩)
 have hf:H1 s1.heap.objs.size=none:=I1.hok.fresh (Ak _);refine⟨.ref s1.heap.objs.size,upd H1 s1.heap.objs.size (.lst xs),I1.laid (t':=s1.toks) (λb u e=>A8 _ e) (Ak _) ?_,rfl,q _ hf⟩;exact⟨z,us,0,r,Au _ rfl⟩
end
abbrev Sp:=List V->Hp->VK->XK->Prop
abbrev vH:=List Me->Hp->Am->XK->VP
structure tM(P:By)(w:Cg)(K:A5)(mg:Bg->Option Ac)(base:Cl)(A:C6)(outer:List Me)(s:Am)(H:Hp):Prop where
 frames:A.frames=some outer
 mod:Mod K mg base
 bs:∀b o,base.get? b=some o->s.heap.get? b=some o/\H b=none
 bsz:base.objs.size<=s.heap.objs.size
 funs:s.heap.FunFrames base outer
 frf:∀b∈oO outer,H b=none
 hok:lB P w H s.heap
 bare:Jl s.gens
def CE(outer:List Me)(P:By)(w:Cg)(H:Hp)(s:Am)(Q:VK)(u:Ac)(s':Am):Prop:=∃v H',s'.os=s.os/\Jl s'.gens/\Un (oO outer) [] H H' s.heap s'.heap/\lB P w H' s'.heap/\i6 v u/\Q v H'
def CR(CX:vH)(outer:List Me)(P:By)(w:Cg)(H:Hp)(s:Am)(Q:VK)(E:XK)(r:Kj)(s':Am):Prop:=
 match r with
 | .ok (.ret u)=>CE outer P w H s Q u s'
 | .ok _=>False
 | .error e=>CX outer H s E e s'
structure kY(P:By)(w:Cg)(K:A5)(mg:Bg->Option Ac)(base:Cl)(CX:vH)(k:Nat)(f:Aw)(fd:Go)(ps:List Bg)(sp:Sp):Prop where
 len:∀vs H Q E,sp vs H Q E->vs.length=ps.length
 run:∀(A:C6) (outer:List Me) (s:Am) (H:Hp) (args:Args) (us:List Ac) (vs:List V) (Q:VK) (E:XK),h9 k A->tM P w K mg base A outer s H->M9 s fd args (ps.zip us)->W3 vs us->sp vs H Q E ->
  E8 (B2 P w) A (.call (.ref f) args) (CR CX outer P w H s Q E) s
def kY.mono{P:By}{w:Cg}{K:A5}{mg:Bg->Option Ac}{base:Cl}{CX:vH}{j k:Nat}{f:Aw}{fd:Go}{ps:List Bg}{sp:Sp}(F:kY P w K mg base CX j f fd ps sp)(h:j<=k):
  kY P w K mg base CX k f fd ps sp:=⟨F.len,λA outer s H args us vs Q E hr=>F.run A outer s H args us vs Q E (hr.mono h)⟩
section
variable{X:Cx}{aa:jA}{U:St}{H:Hp}{s s':Am}
def d4.env0(I:d4 X aa U H s):tM X.prog X.w X.K X.mg X.base X.A X.stack s H:=
 ⟨I.ok.frames,I.ok.mod,I.bs,B3 I.ok.bsz I.sz,I.stack,I.stkFree,I.hok,I.bare⟩
def d4.after(I:d4 X aa U H s)(h:CE X.stack X.prog X.w H s Q u s'):EP X aa U Q u s':=by
 obtain⟨v,H',os,bare,un,hok,r,q⟩:=h;obtain⟨hh,g,d,t,os'⟩:=s'
 obtain rfl:os'=s.os:=os
 exact⟨v,H',I.call (h':=hh) (g':=g) (d':=d) (t':=t) (ch:=[]) un hok bare (λb z=>absurd z (by simp)),r,q⟩
end
def ZD(sp:Sp)(fq:List V)(E:XK)(t:TA):TE:=λU H Q=>t U H λvs H1=>sp (vs++fq) H1 Q E
def wW(K:A5)(fd:Go)(ps:List Bg)(ds:List Ac):Prop:=∀(s:Am) (us:List Ac),K.In s.heap->(us++ds).length=ps.length->M9 s fd ⟨us,[]⟩ (ps.zip (us++ds))
def wW.all{K:A5}{fd:Go}{ps:List Bg}(h:∀us:List Ac,us.length=ps.length->Gp fd ⟨us,[]⟩=Cj (ps.zip us)):wW K fd ps []:=λs us _ hl=>by rw[Ci]at hl ⊢;exact .of_eq (h us hl)
def KZ(CX:vH)(X:Cx)(E:XK):Prop:=∀(aa:jA) (U:St) (H:Hp) (s:Am) (e:Ac) (s':Am),d4 X aa U H s->CX X.stack H s E e s'->X.xe e s'
section
variable{X:Cx}{CX:vH}{k:Nat}{f C:Aw}{fd:Go}{ps:List Bg}{sp:Sp}{fq:List V}{ds:List Ac}{E:XK}{x m:Bg}{p pos cj:Gm}{e o:Expr}{es:List Expr}{ta:TE}{t:TA}
theorem İ(F:kY X.prog X.w X.K X.mg X.base CX k f fd ps sp)(hr:h9 k X.A)(hb:wW X.K fd ps ds)(hd:W3 fq ds)(hx:KZ CX X E)(I:d4 X aa U H s)(r:W3 vs us)(h:sp (vs++fq) H Q E):Ar (B2 X.prog X.w) X.A (call (.ref f) us) (EP X aa U Q) X.xe s:=by
 have r2:W3 (vs++fq) (us++ds):=r.append hd
 have hl:(us++ds).length=ps.length:=by rw[<-r2.length];exact F.len _ _ _ _ h
 refine Mr (Jm (F.run X.A X.stack s H ⟨us,[]⟩ (us++ds) (vs++fq) Q E hr I.env0 (hb s us I.kIn hl) r2 h) λr s' hq=>?_)
 cases r with
 |error e=>exact hx aa U H s e s' I hq
 |ok fl=>
  cases fl with
  |ret u=>exact I.after hq
  |next=>exact Fg hq
  |brk=>exact Fg hq
  |cont=>exact Fg hq
def ŝ(F:kY X.prog X.w X.K X.mg X.base CX k f fd ps sp)(hr:h9 k X.A)(hg:Gl X x)(hm:X.mg x=some (.ref f))(hk:Fm X.K (.ref f)=true)(hb:wW X.K fd ps ds)(hd:W3 fq ds)(hx:KZ CX X E)(ha:PA X (e::es) t)(bG:(x==("__debug__":Bg))=false:=by decide)(he:A9 (e::es) X.env=(false,Bz e X.env)::A9 es X.env:=by rfl)(ao:(Bu pos (A9 es X.env)).any (·.1)=false:=by rfl):
  PE X (.Call (.Name x p) (e::es) [] pos) (ZD sp fq E t):=by
 intro aa s U H Q I h;refine E4 (Qh I hg hm ?_ bG);refine PySem.W.callWith_K (h₀:=X.base) I.ok.mod.kin hk (jG (ha pos aa s U H _ I h) λus s1 vs H1 I1 r q=>⟨I1.kIn,?_⟩) he ao;exact İ F hr hb hd hx I1 r q
end
structure jR(N P:List Bg)(sc:Scope):Prop where
 kind:sc.kind = .function
 co:sc.isCoroutine=false
 gen:sc.isGenerator=false
 nd:N.Nodup
 pre:N.take P.length=P
 par:∀x∈P,sc.names.lookup x=some .local\/sc.names.lookup x=some .cell
 nofree:∀y∈sc.names,y.2≠.free
theorem Of{kindOf:Bg->Option Gq}{x:Bg}:∀{binds:List (Bg×Ac)} {m:Bg->Option Ac},(∀v,(x,v)∉binds)->Ms kindOf binds m x=m x
 | [],_,_=>rfl
 | (n,v)::r,m,h=>by
  unfold Ms;rw[Of λw hw=>h w (A7 _ hw)];split
  .have:x≠n:=by rintro rfl;exact h v A6
   simp[this]
  .rfl
theorem Od{kindOf:Bg->Option Gq}{x:Bg}:∀{binds:List (Bg×Ac)} {m:Bg->Option Ac},(∀v,(x,v)∉binds)->Mt kindOf binds m x=m x
 | [],_,_=>rfl
 | (n,v)::r,m,h=>by
  unfold Mt;rw[Od λw hw=>h w (A7 _ hw)];split
  .rfl
  .have:x≠n:=by rintro rfl;exact h v A6
   simp[this]
theorem Oe{kindOf:Bg->Option Gq}{x:Bg}{v:Ac}:∀{P:List Bg} {vs:List Ac} {i:Nat} {m:Bg->Option Ac},P.Nodup->P[i]?=some x->vs[i]?=some v->kindOf x=some .local ->
  Ms kindOf (P.zip vs) m x=some v
 | [],_,_,_,_,h,_,_=>by simp at h
 |_::_,[],_,_,_,_,h,_=>by simp at h
 |p::P,w::vs,0,m,nd,h1,h2,hk=>by simp at h1 h2;subst h1;subst h2;show Ms kindOf ((p,w)::P.zip vs) m p=_;unfold Ms;rw[Of λv hv=>(Bm.mp nd).1 (Ho hv).1,if_pos hk];simp
 |p::P,w::vs,i+1,m,nd,h1,h2,hk=>by show Ms kindOf ((p,w)::P.zip vs) m x=_;unfold Ms;exact Oe (i:=i) (Bm.mp nd).2 (by simpa using h1) (by simpa using h2) hk
theorem Oc{kindOf:Bg->Option Gq}{x:Bg}{v:Ac}:∀{P:List Bg} {vs:List Ac} {i:Nat} {m:Bg->Option Ac},P.Nodup->P[i]?=some x->vs[i]?=some v->kindOf x≠some .local ->
  Mt kindOf (P.zip vs) m x=some v
 | [],_,_,_,_,h,_,_=>by simp at h
 |_::_,[],_,_,_,_,h,_=>by simp at h
 |p::P,w::vs,0,m,nd,h1,h2,hk=>by simp at h1 h2;subst h1;subst h2;show Mt kindOf ((p,w)::P.zip vs) m p=_;unfold Mt;rw[Od λv hv=>(Bm.mp nd).1 (Ho hv).1,if_neg hk];simp
 |p::P,w::vs,i+1,m,nd,h1,h2,hk=>by show Mt kindOf ((p,w)::P.zip vs) m x=_;unfold Mt;exact Oc (i:=i) (Bm.mp nd).2 (by simpa using h1) (by simpa using h2) hk
def start(N:List Bg)(vs:List V):St:=vs.map some++Bf (N.length-vs.length) none
def o3(CX:vH)(P:By)(w:Cg)(K:A5)(mg:Bg->Option Ac)(base:Cl)(N:List Bg)(qual:Bg)(scope:Scope)(f:Aw)(cd:Ac)(A:C6)(outer:List Me)(s:Am)(H:Hp)(E:XK):Cx where
 prog:=P
 w:=w
 K:=K
 mg:=mg
 base:=base
 A:=A.deeper (Jg qual scope s.heap.objs.size f cd)
 N:=N
 s₀:=s
 H₀:=H
 env:=Jg qual scope s.heap.objs.size f cd
 outer:=outer
 stack:=Jg qual scope s.heap.objs.size f cd::outer
 ex:=[]
 calm:=true
 fn:=λ_=>true
 pn:=[]
 xe:=λe s'=>Ar (B2 P w) (A.deeper (Jg qual scope s.heap.objs.size f cd)) (leaving (Jg qual scope s.heap.objs.size f cd) e) (λ_ bu=>CX outer H s E e bu) (λe' bu=>CX outer H s E e' bu) s'
def QN{sc:Scope}(h:sc.names.lookup x=some .cell):∃c,(Gy n sc.names []).lookup x=some c:=by have q:=PySem.W.cellsFrom_some sc.names n [] (.inl h);exact Ct.mp q
def Xb{CX:vH}{P:By}{w:Cg}{K:A5}{mg:Bg->Option Ac}{base:Cl}{N ps:List Bg}{qual:Bg}{scope:Scope}{f:Aw}{cd:Ac}{A:C6}{outer:List Me}{s s1:Am}{H:Hp}{E:XK}{us:List Ac}{vs:List V}(S:jR N ps scope)(hd:A.handled=none)(e0:tM P w K mg base A outer s H)(hl:vs.length=ps.length)(r:W3 vs us)(x:InCallC s s.heap.objs.size (Ms (Jg qual scope s.heap.objs.size f cd).kindOf (ps.zip us) λ_=>none) (Gy (s.heap.objs.size+1) scope.names []) (Mt (Jg qual scope s.heap.objs.size f cd).kindOf (ps.zip us) λ_=>none) s1):
  d4 (o3 CX P w K mg base N qual scope f cd A outer s H E) [] (start N vs) H s1:=by
 have ao:ps.length<=N.length:=by have:=congrArg Fz S.pre;rw[D7]at this;omega
 obtain⟨h1,tk,rfl,hk⟩:=x.done;have eO:∀b:Aw,b∉(o3 CX P w K mg base N qual scope f cd A outer s H E).ex:=λb z=>absurd (show b∈([]:List Aw) from z) (by simp)
 refine⟨⟨e0.mod,S.kind,rfl,rfl,Ak _,λy z c h1 h2=>?_,λy hy=>?_,λy c _ h=>?_,λ_=>hd,C6.frames_deeper e0.frames,.inr ⟨rfl,rfl⟩,λb z=>absurd z (eO b),e0.bs,e0.bsz,λb _ _=>eO b,λb z=>absurd z (eO b),e0.funs,e0.frf⟩,
  rfl,e0.bare,Un.kept hk,⟨_,x.toInCall.ns,λi y v h1 h2 h3=>?_⟩,λy c h=>⟨_,x.cell y c h⟩,e0.hok.fresh (Ak _),λy c h=>?_,λp hp=>absurd (show p∈([]:jA) from hp) (by simp),e0.hok.kept hk,?_⟩
 .exact name_of_addr x.apart (C0 h1) (C0 h2)
 .have hy:scope.names.lookup y=some .cell\/scope.names.lookup y=some .free:=hy;rcases hy with hy|hy
  .exact QN hy
  .exact absurd rfl (S.nofree _ (C0 hy))
 .exact De (x.above y c (C0 h))
 .have hi:i<vs.length:=by
   unfold start at h2;by_cases hi:i<vs.length
   .exact hi
   .rw[List.getElem?_append_right (by simpa using hi)]at h2;rw[List.getElem?_replicate]at h2;split at h2<;>cases h2
  have ha:vs[i]?=some v:=by
   unfold start at h2;rw[E3 (by simpa using hi),As]at h2
   cases e:vs[i]? with
   |none=>rw[e]at h2;cases h2
   |some a=>rw[e]at h2;cases h2;rfl
  obtain⟨u,hu,rv⟩:=r.get ha
  have hp:ps[i]?=some y:=by rw[<-S.pre,List.getElem?_take_of_lt (by omega)];exact h1
  have ndP:ps.Nodup:=by rw[<-S.pre];exact S.nd.sublist (F7 _ _)
  refine⟨u,rv,?_⟩;rcases S.par y (Dc hp) with k|k
  .exact .inl ⟨k,Oe ndP hp hu k⟩
  .obtain⟨c,e⟩:=QN (n:=s.heap.objs.size+1) k;refine .inr ⟨.inl k,c,e,?_⟩;have q:=x.cell y c e;rw[Oc ndP hp hu (by show scope.names.lookup y≠_;rw[k];decide)]at q
   exact q
 .exact e0.hok.fresh (De (x.above y c (C0 h)))
 .unfold start;show _=N.length;rw[Af,A0,Ip];omega
theorem RN{K:A5}{dV kV aB pm am ct oc:Ac}{an od:Option Aw}{dN:Array (Option Ac)}{sp:Sp}(lk:K.lookup f=some ⟨oc,od,.func (Do name qual params body scope dV kV aB pm an am ct),dN⟩)(aO:Id K am qual=true)(S:jR N ps scope)(len:∀vs H Q E,sp vs H Q E->vs.length=ps.length)
  (av:∀(A:C6) (outer:List Me) (s:Am) (H:Hp) (vs:List V) (Q:VK) (E:XK),h9 k (A.deeper (Jg qual scope s.heap.objs.size f am))->sp vs H Q E ->
   ∃t,nV (o3 CX P w K mg base N qual scope f am A outer s H E) body t/\t { nx:=λ_ H'=>Q .non H',rt:=Q } (start N vs) H):
  kY P w K mg base CX (k+1) f (Do name qual params body scope dV kV aB pm an am ct) ps sp:=by
 refine⟨len,λA outer s H args us vs Q E hr e0 hb r fg=>?_⟩;have hl:=len _ _ _ _ fg;have KX:K.In s.heap:=e0.mod.kin.keeps λb o e=>(e0.bs b o e).1;have lim:s.heap.NoLimit:=e0.mod.nolimit.keeps λb o e=>(e0.bs b o e).1
 have dM:∀y∈ps.zip us,scope.names.lookup y.1=some .local\/(scope.names.lookup y.1=some .cell/\((Gy (s.heap.objs.size+1) scope.names []).lookup y.1).isSome=true):=λ⟨n,v⟩ hy=>by
  rcases S.par n (Ho hy).1 with q|q
  .exact .inl q
  .exact .inr ⟨q,PySem.W.cellsFrom_some _ _ _ (.inl q)⟩
 refine codeAny_call_function hr.depth (KX _ _ lk) rfl S.co S.gen rfl (PySem.W.codeRec_of KX aO) (hb _ _ _ _ ?_);refine wpAny_newFunctionEnv_cells S.kind dM λenv he s1 x=>?_;subst he;refine⟨lim.keeps x.toInCall.keep,codeAny_func ?_⟩;obtain⟨t,ht,hq⟩:=av A outer s H vs Q E (hr.deeper _) fg;have I:d4 (o3 CX P w K mg base N qual scope f am A outer s H E) [] (start N vs) H s1:=Xb S hr.hd e0 hl r x
 refine Cc (ht [] s1 (start N vs) H _ I hq) (λfl s' hs=>?_) λe s' hs=>hs
 have fin:∀{U':St} {H':Hp} {v:V} {u:Ac},d4 (o3 CX P w K mg base N qual scope f am A outer s H E) [] U' H' s'->i6 v u->Q v H'->CE outer P w H s Q u s':=λ{U' H' v u} J rv q=>⟨v,H',J.os,J.bare,J.base,J.hok,rv,q⟩
 cases fl with
 |ret u=>obtain⟨v,U',H',J,rv,q⟩:=hs;exact fin J rv q
 |next=>obtain⟨U',H',J,q⟩:=hs;exact fin (v:=V.non) (u:=C8) J rfl q
 |brk=>obtain⟨_,_,_,q⟩:=hs;exact Fg q
 |cont=>obtain⟨_,_,_,q⟩:=hs;exact Fg q
section
variable{X:Cx}{x:Bg}{p pos:Gm}{e:Expr}{es:List Expr}{t:TA}{id T:String}{r:List V->Hp->VK->Prop}
def GK(r:List V->Hp->VK->Prop)(t:TA):TE:=λU H Q=>t U H λvs H1=>r vs H1 Q
def uD(hc:lN X (.builtin id) r)(hg:Gl X x)(hm:X.mg x=none)(hv:B7 x=some (.builtin id))(ha:PA X (e::es) t)(hn:x≠"__name__":=by decide)(bG:(x==("__debug__":Bg))=false:=by decide)(he:A9 (e::es) X.env=(false,Bz e X.env)::A9 es X.env:=by rfl)(ao:(Bu pos (A9 es X.env)).any (·.1)=false:=by rfl):PE X (.Call (.Name x p) (e::es) [] pos) (GK r t):=by intro aa s U H Q I h;refine E4 (oW I hg hm hv ?_ hn bG);exact PyProof.Rows.callWith_builtin1 (jG (ha pos aa s U H _ I h) λus s1 vs H1 I1 r1 q1=>hc aa s1 U H1 vs us Q I1 r1 q1) he ao
def sP(hc:lN X (.type T) r)(hg:Gl X x)(hm:X.mg x=none)(hv:B7 x=some (.type T))(ha:PA X (e::es) t)(hn:x≠"__name__":=by decide)(bG:(x==("__debug__":Bg))=false:=by decide)(he:A9 (e::es) X.env=(false,Bz e X.env)::A9 es X.env:=by rfl)(ao:(Bu pos (A9 es X.env)).any (·.1)=false:=by rfl):PE X (.Call (.Name x p) (e::es) [] pos) (GK r t):=by intro aa s U H Q I h;refine E4 (oW I hg hm hv ?_ hn bG);exact Du (jG (ha pos aa s U H _ I h) λus s1 vs H1 I1 r1 q1=>hc aa s1 U H1 vs us Q I1 r1 q1) he ao
end
end L2
namespace HT
open PySem PyProof.Rows
def lexLt:List Int->List Int->Bool
 | [],[]=>false
 | [],_::_=>true
 |_::_,[]=>false
 |x::xs,y::ys=>if x=y then lexLt xs ys else decide (x<y)
def lexLt_cons(x y:Int)(xs ys:List Int):lexLt (x::xs) (y::ys)=if x=y then lexLt xs ys else decide (x<y):=rfl
def lexLt_nil_nil:lexLt [] []=false:=rfl
def NP(y:Int)(ys:List Int):lexLt [] (y::ys)=true:=rfl
def NO(x:Int)(xs:List Int):lexLt (x::xs) []=false:=rfl
def QT(A:C6)(s:Am)(a:Int)(t:Tok)(c:Int)(u:Tok):∃e,M4 A s (.int a t) (.int c u) e/\(e=true↔a=c):=
 ⟨(a==c),M4.int_int a t c u,by simp⟩
def ò(A:C6)(s:Am)(a:Int)(t:Tok)(c:Int)(u:Tok)(prog:By)(w:Cg)(E:VP)(Q:VP)(h:Q (.bool (decide (a<c))) s):
  Ar (B2 prog w) A (G0 .Lt (.int a t) (.int c u)) Q E s:=
 (PyProof.Rows.lt_int h:Ar (B2 prog w) A (Ce .Lt (.int a t) (.int c u)) Q E s)
section
open PySem.SeqAt
open PySem.AutoSeq1 (wpAny_loadPart')
open PySem.MeetsSeq PySem.MeetsSeq2 PySem.MeetsSeq3
def VE(l b:Aw)(items al:Array Ac)(n n2:Nat)(dd cv:Option Aw)(sl cJ:Array (Option Ac))(ns ms:List Int)(hi:C2 items.toList ns)(hj:C2 al.toList ms):
  Mu (D0.«tuple.__lt__» ⟨[.ref l,.ref b],[]⟩)
   (λ_ R s=>s.heap.get? l=some { cls:=.type "tuple",dict:=dd,data:=.seq items n,slots:=sl }/\s.heap.get? b=some { cls:=.type "tuple",dict:=cv,data:=.seq al n2,slots:=cJ } /\
    R (.ok (.ret (.bool (lexLt ns ms)))) s):=
 .of_wp λprog w A R s h=>by
  obtain⟨hp,g,d,tk,os⟩:=s;obtain⟨hl,hb,h⟩:=h;have f2:=AutoSeq1.sub_tuple_tuple
  have z1:items.size=ns.length:=by rw[<-hi.length];simp
  have z2:al.size=ms.length:=by rw[<-hj.length];simp
  wp_walk using Ga hl,Ga hb,Kr _ (λrest b s'=>b.1=none/\s'=⟨hp,g,d,tk,os⟩/\∃(vs ws:List Ac) (bH bI:List Int),rest=vs.zip ws /\
   C2 vs bH/\C2 ws bI/\bH.length+al.size=bI.length+items.size/\R (.ok (.ret (.bool (lexLt bH bI)))) ⟨hp,g,d,tk,os⟩) _
  case turn=>
   rintro ⟨y,x⟩ rest b s' ⟨aP,rfl,vs,ws,bH,bI,hz,fI,eN,ab,hR⟩
   cases fI with
   |nil=>rw[List.zip_nil_left]at hz;cases hz
   |cons a t hvi'=>
    cases eN with
    |nil=>rw[Js]at hz;cases hz
    |cons c u hwi'=>
     rw[E5]at hz;injection hz with hyx hrest;injection hyx with hy hx;subst hy hx;rw[lexLt_cons]at hR;simp only[Av]at ab;obtain⟨e,he,dv⟩:=QT A.in1 ⟨hp,g,d,tk,os⟩ a t c u;refine A4 (he prog w _ _ ?_)
     cases e with
     |true=>
      rw[if_pos (dv.mp rfl)]at hR
      wp_walk
      exact⟨rfl,rfl,_,_,_,_,hrest,hvi',hwi',by omega,hR⟩
     |false=>
      rw[if_neg (λq=>absurd (dv.mpr q) B0)]at hR;have hri:=ò A.in1 ⟨hp,g,d,tk,os⟩ a t c u prog w
      wp_walk using hri
      exact⟨_,rfl,by simpa using hR⟩
  case fin=>
   rintro ⟨b1,b2⟩ s' ⟨aP,rfl,vs,ws,bH,bI,hz,fI,eN,ab,hR⟩;simp only at aP;subst aP
   have hv:lexLt bH bI=decide (items.size<al.size):=by
    cases fI with
    |nil=>
     cases eN with
     |nil=>simp only[Bx]at ab;rw[lexLt_nil_nil];exact(decide_eq_false (by omega)).symm
     |cons c u hw=>simp only[Bx,Av]at ab;rw[NP];exact(decide_eq_true (by omega)).symm
    |cons a t hv=>
     cases eN with
     |nil=>simp only[Bx,Av]at ab;rw[NO];exact(decide_eq_false (by omega)).symm
     |cons c u hw=>rw[E5]at hz;cases hz
   rw[hv]at hR
   wp_walk
   exact⟨_,rfl,by simpa [D0.Tuple.tupleCompareSizes] using hR⟩
  case h=>exact⟨rfl,rfl,items.toList,al.toList,ns,ms,rfl,hi,hj,by omega,h⟩
end
section
variable{prog:By}{w:Cg}{A:C6}{E:VP}{s:Am}
def lt_tupInts{Q:VP}(hl:Kq s.heap l items)(hb:Kq s.heap b al)(hi:C2 items.toList ns)(hj:C2 al.toList ms)(hu:A.units<Cz)(h:Q (.bool (lexLt ns ms)) s):Ar (B2 prog w) A (Ce .Lt (.ref l) (.ref b)) Q E s:=by
 obtain⟨⟨cls,dd,data,sl⟩,ho,hc,n,hd⟩:=id hl;obtain⟨⟨eI,cv,data2,cJ⟩,bX,bf,n2,bA⟩:=id hb;simp only at hc hd bf bA;subst hc hd bf bA
 exact richCompare_meets_room (op:=.Lt) ⟨_,ho,rfl⟩ ⟨_,bX,rfl⟩ PySem.F.slot_tuple_lt PySem.F.entry_tuple_lt (PySem.F.args_tuple_lt_2 _ _) (VE l b items al n n2 dd cv sl cJ ns ms hi hj)
  ⟨ho,bX,show M5 (lexLt ns ms)≠Iy/\Q (.bool (lexLt ns ms)) s from ⟨(λx=>nomatch x),h⟩⟩ hu
def cat_tup{vs ws:List Ac}{Q:VP}(ht:Kq s.heap t vs.toArray)(hb:Kq s.heap b ws.toArray)(hv:vs≠[])(h1:ws=[]->Q (.ref t) s)(h2:ws≠[]->Q (.ref s.heap.objs.size) { s with heap:=s.heap.push { cls:=.type "tuple",data:=.seq (vs++ws).toArray } })(hsz:vs.length+ws.length<=sizeLine):Ar (B2 prog w) A (Gn .Add (.ref t) (.ref b)) Q E s:=by
 obtain⟨⟨cls,dd,data,sl⟩,ho,hc,n,hd⟩:=id ht;obtain⟨⟨eI,cv,data2,cJ⟩,bX,bf,n2,bA⟩:=id hb;simp only at hc hd bf bA;subst hc hd bf bA
 have e:vs.toArray++ws.toArray=(vs++ws).toArray:=by simp
 by_cases hw:ws=[]
 .exact L1 ⟨_,ho,rfl⟩ ⟨_,bX,rfl⟩ Ks Lz Ie Hz (Hl _ _)
   (tuple_addW1 t b vs.toArray ws.toArray n n2 dd cv sl cJ (by simpa using hv) (by simp[hw])) ⟨ho,bX,h1 hw⟩
 .refine L1 ⟨_,ho,rfl⟩ ⟨_,bX,rfl⟩ Ks Lz Ie Hz (Hl _ _)
   (tuple_addW2 t b vs.toArray ws.toArray n n2 dd cv sl cJ (by simpa using hv) (by simpa using hw) (by rw[Ag,Ag];exact hsz)) ⟨ho,bX,?_⟩
  rw[e];exact h2 hw
def sIx(n d:Nat):Option Int->Nat
 |none=>d
 |some v=>if v<0 then (v+(n:Int)).toNat else Ew v.toNat n
def sIx_nat(n d k:Nat):sIx n d (some (k:Int))=Ew k n:=by show (if (k:Int)<0 then ((k:Int)+(n:Int)).toNat else Ew (k:Int).toNat n)=Ew k n;rw[if_neg (by omega),Ai]
theorem Tt(n d:Nat)(hd:d<=n)(o:Option Int):sIx n d o<=n:=by
 cases o with
 |none=>exact hd
 |some v=>
  show (if v<0 then (v+(n:Int)).toNat else Ew v.toNat n)<=n;by_cases hv:v<0
  .rw[if_pos hv];omega
  .rw[if_neg hv];exact Nat.min_le_right _ _
def PV(v:Int)(n d:Nat):(if v<0 then Lh (v+(n:Int)) 0 else Ew v (n:Int))=((sIx n d (some v):Nat):Int):=by
 show (if v<0 then Lh (v+(n:Int)) 0 else Ew v (n:Int))=(((if v<0 then (v+(n:Int)).toNat else Ew v.toNat n):Nat):Int);by_cases hv:v<0
 .simp only[if_pos hv];omega
 .simp only[if_neg hv];omega
def Yc(lo hi:Option Int)(n:Nat):Hc lo hi 1 (n:Int)=(((sIx n 0 lo:Nat):Int),((sIx n n hi:Nat):Int)):=by
 have h1:¬((1:Int)<0):=by omega
 unfold Hc;simp only[h1,if_false];refine Mv ?_ ?_
 .cases lo with
  |none=>rfl
  |some v=>exact PV v n 0
 .cases hi with
  |none=>rfl
  |some v=>exact PV v n n
def YI(i j:Nat):D2 (i:Int) (j:Int) 1=j-i:=by
 unfold D2
 have h1:(1:Int)>0:=by omega
 simp only[h1,if_true,Int.ediv_one]
 split<;>omega
theorem zZ{Q:Option Int->Am->Prop}(p:Jt v o)(h:Q o s):Ar (B2 prog w) A (D0.Slice.slicePartIndex v) Q E s:=by
 cases p with
 |none=>exact slicePart_none h
 |int i t=>exact slicePart_int h
def N3{sl:Aw}{vl vu:Ac}{lo hi:Option Int}{n:Nat}{Q:Int×Int×Nat->Am->Prop}(hs:s.heap.IsSliceOf sl vl vu .none)(pl:Jt vl lo)(pu:Jt vu hi)(h:Q (((sIx n 0 lo:Nat):Int),1,sIx n n hi-sIx n 0 lo) s):Ar (B2 prog w) A (Er (.ref sl) (Cj (n:Int))) Q E s:=by
 obtain⟨os,cL,cS,cV⟩:=id hs;unfold Er D0.Slice.sliceFields;refine A4 (A4 (F8 cL cV (x:=vl) rfl (A4 (F8 cL cV (x:=vu) rfl (A4 (F8 cL cV (x:=.none) rfl (wpAny_pure ?_)))))));refine A4 (slicePart_none ?_);show Ar _ _ (if ((1:Int)==0)=true then _ else _) _ _ s;rw[if_neg (by decide)];refine A4 (zZ pl (A4 (zZ pu (A4 (wpAny_pure ?_)))))
 show Ar _ _ (match Hc lo hi 1 (n:Int) with|(lo,hi)=>Cj (lo,(1:Int),D2 lo hi 1)) _ _ s;rw[Yc lo hi n];show Ar _ _ (Cj (((sIx n 0 lo:Nat):Int),(1:Int),D2 ((sIx n 0 lo:Nat):Int) ((sIx n n hi:Nat):Int) 1)) _ _ s;rw[YI];exact wpAny_pure h
def é(xs:Array Ac)(i k:Nat):((Aa k).filterMap λ(m:Nat)=>xs[((i:Int)+(m:Int)*1).toNat]?).toArray=((xs.toList.drop i).take k).toArray:=by
 have e:(λ(m:Nat)=>xs[((i:Int)+(m:Int)*1).toNat]?)=λm=>xs[i+m]?:=by
  funext m
  have:((i:Int)+(m:Int)*1).toNat=i+m:=by omega
  rw[this]
 rw[e]
 have:=pick_run xs i k
 rw[List.filterMap_map]at this;have e2:((λx=>xs[x]?)∘λx=>i+x)=λm=>xs[i+m]?:=rfl;rw[e2]at this;rw[this]
def getItem_tuple_cut{t sl:Aw}{items:Array Ac}{vl vu:Ac}{lo hi:Option Int}{Q:VP}(ht:Kq s.heap t items)(hs:s.heap.IsSliceOf sl vl vu .none)(pl:Jt vl lo)(pu:Jt vu hi)(hw:¬(sIx items.size 0 lo=0/\sIx items.size items.size hi=items.size))(h:Q (.ref s.heap.objs.size) { s with heap:=s.heap.push { cls:=.type "tuple",data:=.seq ((items.toList.drop (sIx items.size 0 lo)).take (sIx items.size items.size hi-sIx items.size 0 lo)).toArray } })(hsz:items.size<=sizeLine):Ar (B2 prog w) A (If (.ref t) (.ref sl)) Q E s:=by
 have bt:sizeOk (.seq ((items.toList.drop (sIx items.size 0 lo)).take (sIx items.size items.size hi-sIx items.size 0 lo)).toArray):=by show ((items.toList.drop (sIx items.size 0 lo)).take (sIx items.size items.size hi-sIx items.size 0 lo)).toArray.size<=sizeLine;rw[Ag,D7,E7,B1];omega
 have hj:sIx items.size items.size hi<=items.size:=Tt _ _ (Ak _) hi;obtain⟨os,cL,cS,cV⟩:=id hs;have iJ:s.TypeIs (.ref sl) "slice":=⟨os,cL,cS⟩;unfold If
 try with_reducible refine Cu ?_
 first|refine A4 (wpAny_pure ?_)|skip
 refine A4 (Jz ht.typeIs (by decide) ?_)
 refine A4 (Ec (name:=Bk "__getitem__") ht.typeIs Bt
  (Fn Bt ht.typeIs Jk ?_ (Ju _ _)))
 show Ar _ _ (Gr (.ref t) >>= _) _ _ s;refine A4 (M0 ht ?_);refine A4 (Jn iJ ?_);rw[if_pos (by decide)];refine A4 (N3 hs pl pu ?_)
 have bL:¬((((sIx items.size 0 lo:Nat):Int)==0&&(1:Int)==1&&(sIx items.size items.size hi-sIx items.size 0 lo)==items.size)=true):=by intro q;rw[Be,Be]at q;have q1:((sIx items.size 0 lo:Nat):Int)=0:=Lr q.1.1;have q2:sIx items.size items.size hi-sIx items.size 0 lo=items.size:=Lr q.2;exact hw ⟨by omega,by omega⟩
 show Ar _ _ (if (((sIx items.size 0 lo:Nat):Int)==0&&(1:Int)==1&&(sIx items.size items.size hi-sIx items.size 0 lo)==items.size)=true then _ else _) _ _ s;rw[if_neg bL,é]
 first
  |exact A4 (m:=Cv _) (C4 (wpAny_pure ⟨_,rfl,wpAny_pure h⟩) bt)
  |exact A4 (m:=Cv _) (C4 (A4 (wpAny_pure (wpAny_pure ⟨_,rfl,wpAny_pure h⟩))) bt)
  |exact A4 (A4 (m:=Cv _) (C4 (wpAny_pure (wpAny_pure ⟨_,rfl,wpAny_pure h⟩)) bt))
  |exact A4 (A4 (m:=Cv _) (C4 (wpAny_pure ⟨_,rfl,wpAny_pure h⟩) bt))
end
end HT
namespace L2
open PySem PySem.Spec PyProof.Rows
abbrev TO:=St->Hp->(Option Int->Hp->Prop)->Prop
def PO(X:Cx)(e:Option Expr)(t:TO):Prop:=
 ∀(aa:jA) (s:Am) (U:St) (H:Hp) (Q:Option Int->Hp->Prop),d4 X aa U H s->t U H Q ->
  Ar (B2 X.prog X.w) X.A (evalPart e X.env) (λu s'=>∃o H',d4 X aa U H' s'/\Jt u o/\Q o H') X.xe s
def Ź:TO:=λ_ H Q=>Q none H
def ZM(t:TE):TO:=λU H Q=>t U H λx H1=>∃i,x = .int i/\Q (some i) H1
theorem W1{ns:List Int}:∀{us:List Ac},W3 (ns.map V.int) us->C2 us ns:=by
 induction ns with
 |nil=>intro us r;rw[G6]at r;cases r;exact .nil
 |cons n ns ih=>
  intro us r;rw[Aj]at r
  cases r with
  |cons r1 r2=>obtain⟨t,e⟩:=r1;subst e;exact .cons n t (ih r2)
section
variable{X:Cx}{e:Expr}{te:TE}{lo hi:Option Expr}{tl th:TO}{pos p2:Gm}
def š:PO X none Ź:=by intro aa s U H Q I h;rw[M1];exact wpAny_pure ⟨none,H,I,.none,h⟩
def Ţ(h:PE X e te):PO X (some e) (ZM te):=by intro aa s U H Q I hw;rw[evalPart_some];refine jG (h aa s U H _ I hw) λu s1 x H1 I1 r1 q1=>?_;obtain⟨i,rfl,q⟩:=q1;obtain⟨t,rfl⟩:=r1;exact⟨some i,H1,I1,.int i t,q⟩
def vF(X:Cx)(r:V->Option Int->Option Int->Hp->VK->Prop):Prop:=
 ∀(aa:jA) (s:Am) (U:St) (H:Hp) (x:V) (v vl vu:Ac) (lo hi:Option Int) (sl:Aw) (Q:VK),d4 X aa U H s->i6 x v->s.heap.IsSliceOf sl vl vu .none->Jt vl lo->Jt vu hi->r x lo hi H Q ->
  ∃T id,typeLookup (.type T) "__getitem__" = Cj (some (.builtin id))/\s.TypeIs v T/\Ar (B2 X.prog X.w) X.A (If v (.ref sl)) (EP X aa U Q) X.xe s
def vF.or(h:vF X r)(h':vF X r'):vF X (λx lo hi H Q=>r x lo hi H Q\/r' x lo hi H Q):=by
 intro aa s U H x v vl vu lo hi sl Q I rx hs pl pu q;rcases q with q|q
 .exact h aa s U H x v vl vu lo hi sl Q I rx hs pl pu q
 .exact h' aa s U H x v vl vu lo hi sl Q I rx hs pl pu q
def ϧ(r:V->Option Int->Option Int->Hp->VK->Prop)(te:TE)(tl th:TO):TE:=λU H Q=>te U H λx H1=>tl U H1 λl H2=>th U H2 λu H3=>r x l u H3 Q
def Rq(hr:vF X r)(he:PE X e te)(hl:PO X lo tl)(hu:PO X hi th):PE X (.Subscript e (.Slice lo hi none p2) pos) (ϧ r te tl th):=by
 intro aa s U H Q I h;refine M6 (jG (he aa s U H _ I h) λv s1 x H1 I1 r1 q1=>?_);refine wpAny_Slice (jG (hl aa s1 U H1 _ I1 q1) λvl s2 l H2 I2 pl q2=>jG (hu aa s2 U H2 _ I2 q2) λvu s3 u H3 I3 pu q3=>?_);rw[M1];refine wpAny_pure ?_;have I4:d4 X aa U H3 { s3 with heap:=s3.heap.push { cls:=.type "slice",data:=.fields #[vl,vu,.none] } }:=I3.kept (t':=s3.toks) λb ob q=>A8 _ q
 obtain⟨T,id,hT,ht,hg⟩:=hr aa { s3 with heap:=s3.heap.push { cls:=.type "slice",data:=.fields #[vl,vu,.none] } } U H3 x v vl vu l u s3.heap.objs.size Q I4 r1 (Cl.IsSliceOf.new ..) pl pu q3;show Ar (B2 X.prog X.w) X.A (Kk e (.Slice lo hi none p2) v (.ref s3.heap.objs.size)) (EP X aa U Q) X.xe { s3 with heap:=s3.heap.push { cls:=.type "slice",data:=.fields #[vl,vu,.none] } };exact tail_any (ops:=[.ref s3.heap.objs.size,v]) ht hT hg (by with_unfolding_all rfl)
def rP(xs:List V)(lo hi:Option Int):List V:=(xs.drop (HT.sIx xs.length 0 lo)).take (HT.sIx xs.length xs.length hi-HT.sIx xs.length 0 lo)
def Pt(xs:List V)(lo hi:Option Int):(rP xs lo hi).length<=xs.length:=by unfold rP;rw[D7,E7];omega
def ύ(K:A5):V->Option Int->Option Int->Hp->VK->Prop:=λx lo hi H Q=>∃a xs,x = .ref a/\jF K H a xs /\
 ¬(HT.sIx xs.length 0 lo=0/\HT.sIx xs.length xs.length hi=xs.length)/\∀p,H p=none->Q (.ref p) (upd H p (.tup (rP xs lo hi)))
def ĵ:vF X (ύ X.K):=by
 intro aa s U H x v vl vu lo hi sl Q I rx hs pl pu h;obtain⟨a,xs,rfl,hx,hw,q⟩:=h;cases rx;obtain⟨its,r,ht,hz⟩:=I.tuple hx
 have ab:its.toArray.size=xs.length:=by rw[Ag];exact r.length.symm
 refine⟨"tuple",_,Bt.lookup,ht.typeIs,?_⟩;refine HT.getItem_tuple_cut ht hs pl pu (by rw[ab];exact hw) ?_ (by rw[ab];exact hz)
 rw[ab];refine⟨.ref s.heap.objs.size,_,I.laid (t':=s.toks) (o:=.tup (rP xs lo hi)) (λb ob q=>A8 _ q) (Ak _) ?_,rfl,q _ (I.hok.fresh (Ak _))⟩;exact⟨B3 (Pt xs lo hi) hz,_,(r.drop (HT.sIx xs.length 0 lo)).take (HT.sIx xs.length xs.length hi-HT.sIx xs.length 0 lo),qL.new _ _⟩
def T2(K:A5):R2:=λx y H Q=>∃a b ns ms,x = .ref a/\y = .ref b/\jF K H a (ns.map V.int)/\jF K H b (ms.map V.int)/\Q (.bl (HT.lexLt ns ms)) H
def ď(hu:X.A.units<Cz):kG X (Ce .Lt) (T2 X.K):=by intro aa s U H x y v u Q I rx ry h;obtain⟨a,b,ns,ms,rfl,rfl,ha,hb,q⟩:=h;cases rx;cases ry;obtain⟨its,r1,p1,_⟩:=I.tuple ha;obtain⟨aq,r2,p2,_⟩:=I.tuple hb;have i1:C2 its.toArray.toList ns:=W1 r1;have i2:C2 aq.toArray.toList ms:=W1 r2;exact HT.lt_tupInts p1 p2 i1 i2 hu ⟨.bl (HT.lexLt ns ms),H,I,rfl,q⟩
def Zu(K:A5):R2:=λx y H Q=>∃a b xs ys,x = .ref a/\y = .ref b/\jF K H a xs/\jF K H b ys/\xs≠[]/\xs.length+ys.length<=sizeLine /\
 (ys=[]->Q (.ref a) H)/\(ys≠[]->∀p,H p=none->Q (.ref p) (upd H p (.tup (xs++ys))))
theorem W3.nil_iff(r:W3 xs us):us=[]↔xs=[]:=by
 cases r with
 |nil=>simp
 |cons _ _=>simp
def ř:kG X (Gn .Add) (Zu X.K):=by
 intro aa s U H x y v u Q I rx ry h;obtain⟨a,b,xs,ys,rfl,rfl,ha,hb,hx,hz,q1,q2⟩:=h;cases rx;cases ry;obtain⟨its,r1,p1,_⟩:=I.tuple ha;obtain⟨aq,r2,p2,_⟩:=I.tuple hb;refine HT.cat_tup p1 p2 (λz=>hx (r1.nil_iff.mp z)) (λz=>⟨.ref a,H,I,rfl,q1 (r2.nil_iff.mp z)⟩) (λz=>?_) (by rw[<-r1.length,<-r2.length];exact hz)
 refine⟨.ref s.heap.objs.size,_,I.laid (t':=s.toks) (o:=.tup (xs++ys)) (λb ob q=>A8 _ q) (Ak _) ?_,rfl,q2 (λw=>z (r2.nil_iff.mpr w)) _ (I.hok.fresh (Ak _))⟩;exact⟨by rw[Af];exact hz,_,r1.append r2,qL.new _ _⟩
end
def pD(n:Nat)(i:Int):Option Nat:=if 0<=i then (if i<n then some i.toNat else none) else if -(n:Int)<=i then some (i+n).toNat else none
def lU{α:Type}(xs:List α)(i:Int):Option α:=(pD xs.length i).bind λj=>xs[j]?
def Qa{j:Nat}(h:pD n i=some j):seqIndex? i n=some j/\j<n/\-(n:Int)<=i/\i<n:=by
 unfold pD at h;by_cases h0:0<=i
 .rw[if_pos h0]at h;by_cases h1:i<n
  .rw[if_pos h1]at h;have e:i.toNat=j:=Bb h;exact⟨by rw[seqIndex_of h0 h1,e],by omega,by omega,h1⟩
  .rw[if_neg h1]at h;cases h
 .rw[if_neg h0]at h;by_cases h1 : -(n:Int)<=i
  .rw[if_pos h1]at h;have e:(i+n).toNat=j:=Bb h;exact⟨by rw[seqIndex_neg (by omega) h1,e],by omega,h1,by omega⟩
  .rw[if_neg h1]at h;cases h
theorem IQ{α:Type}{xs:List α}{i:Int}{v:α}(h:lU xs i=some v):∃j,seqIndex? i xs.length=some j/\xs[j]?=some v/\j<xs.length/\-(xs.length:Int)<=i/\i<xs.length:=by
 unfold lU at h
 cases e:pD xs.length i with
 |none=>rw[e]at h;cases h
 |some j=>rw[e]at h;obtain⟨h1,h2,h3,h4⟩:=Qa e;exact⟨j,h1,h,h2,h3,h4⟩
def DX(b:Expr):Prop:=∀o i,Lj b false o i=operate [o,i] (If o i)
def tJ(X:Cx)(r:R2):Prop:=
 ∀(value aM:Expr) (aa:jA) (s:Am) (U:St) (H:Hp) (x y:V) (v u:Ac) (Q:VK),d4 X aa U H s->i6 x v->i6 y u->r x y H Q ->
  Lj aM false v u=operate [v,u] (If v u)->Ar (B2 X.prog X.w) X.A (Kk value aM v u) (EP X aa U Q) X.xe s
def xH(X:Cx)(id:String)(r:V->List V->Hp->VK->Prop):Prop:=
 ∀(aa:jA) (s:Am) (U:St) (H:Hp) (x:V) (xs:List V) (v:Ac) (us:List Ac) (Q:VK),d4 X aa U H s->i6 x v->W3 xs us->r x xs H Q ->
  Ar (B2 X.prog X.w) X.A (call (.builtin id) (v::us)) (EP X aa U Q) X.xe s
section
variable{X:Cx}{a b:Expr}{ta tb:TE}{pos:Gm}
def tJ.or(h:tJ X r)(h':tJ X r'):tJ X (λx y H Q=>r x y H Q\/r' x y H Q):=by
 intro value aM aa s U H x y v u Q I rx ry q hs;rcases q with q|q
 .exact h value aM aa s U H x y v u Q I rx ry q hs
 .exact h' value aM aa s U H x y v u Q I rx ry q hs
def RX(hr:tJ X r)(ha:PE X a ta)(hb:PE X b tb)(hs:DX b):PE X (.Subscript a b pos) (zF r ta tb):=by intro aa s U H Q I h;exact M6 (Na ha hb I h λv u s2 x y H2 I2 rx ry q=>hr a b aa s2 U H2 x y v u Q I2 rx ry q (hs _ _))
def TZ(K:A5):R2:=λx y H Q=>∃p xs i v,x = .ref p/\y = .int i/\jE K H p xs/\lU xs i=some v/\Q v H
def T1(K:A5):R2:=λx y H Q=>∃p xs i v,x = .ref p/\y = .int i/\jF K H p xs/\lU xs i=some v/\Q v H
def T0:R2:=λx y H Q=>∃z i c,x = .str z/\y = .int i/\z.length<=sizeLine/\lU z.cps.toList i=some c/\Q (.str ⟨#[c]⟩) H
def Qb:tJ X (TZ X.K):=by
 intro value aM aa s U H x y v u Q I rx ry h hs;obtain⟨p,xs,i,z,rfl,rfl,hq,he,q⟩:=h;cases rx;obtain⟨t,rfl⟩:=ry;obtain⟨its,r,pl,hz⟩:=I.list hq;obtain⟨j,h1,h2,h3,h4,h5⟩:=IQ he;obtain⟨w,ew,rw'⟩:=r.get h2;have hl:=r.length;have hn:=yH;have fin:EP X aa U Q w s:=⟨z,H,I,rw',q⟩;by_cases h0:0<=i
 .have hj:i.toNat=j:=by rw[seqIndex_of h0 h5]at h1;exact Bb h1
  exact item_listR pl.isList h0 (by omega) (by rw[hj];simpa using ew) fin hs
 .have hj:(i+(its.toArray.size:Int)).toNat=j:=by rw[seqIndex_neg (by omega) h4]at h1;rw[Ag,<-hl];exact Bb h1
  exact subscriptTail_builtinR (x:=w) pl.isList.typeIs slot_list_getitem.lookup
   (wpAny_getItem_list_neg (Q:=λr s'=>r=w/\EP X aa U Q r s') pl.isList (by omega) (by rw[Ag]<;>omega) (by omega) (by rw[hj];simpa using ew) ⟨rfl,fin⟩) hs
def ă:tJ X (T1 X.K):=by
 intro value aM aa s U H x y v u Q I rx ry h hs;obtain⟨p,xs,i,z,rfl,rfl,hq,he,q⟩:=h;cases rx;obtain⟨t,rfl⟩:=ry;obtain⟨its,r,pl,hz⟩:=I.tuple hq;obtain⟨j,h1,h2,h3,h4,h5⟩:=IQ he;obtain⟨w,ew,rw'⟩:=r.get h2;have hl:=r.length;have hn:=yH;have fin:EP X aa U Q w s:=⟨z,H,I,rw',q⟩
 exact subscriptTail_builtinR (x:=w) pl.typeIs slot_tuple_getitem.lookup
  (getItem_tuple (j:=j) (Q:=λr s'=>r=w/\EP X aa U Q r s') pl (by omega) (by omega) (by rw[Ag,<-hl];exact h1) (by simpa using ew) ⟨rfl,fin⟩) hs
def Ă:tJ X T0:=by
 intro value aM aa s U H x y v u Q I rx ry h hs;obtain⟨z,i,c,rfl,rfl,hz,he,q⟩:=h;obtain⟨t,rfl⟩:=rx;obtain⟨t',rfl⟩:=ry;obtain⟨j,h1,h2,h3,h4,h5⟩:=IQ he
 have hl:z.cps.toList.length=z.length:=by simp[Bg.length]
 rw[hl]at h1 h4 h5;have hn:=yH
 exact tail_any (typeIs_str s z t) slot_str_getitem.lookup (getItem_str (c:=c) (by
  have e1:decide (i < -(2 ^ 63:Int))=false:=decide_eq_false (by omega);have e2:decide (i>=2 ^ 63)=false:=decide_eq_false (by omega)
  rw[e1,e2,M2]) (by rw[h1];simpa using h2) ⟨.str ⟨#[c]⟩,H,I.tok _,⟨_,rfl⟩,q⟩) hs
def ϭ(K:A5):R2:=λx y H Q=>TZ K x y H Q\/T1 K x y H Q\/T0 x y H Q
def ā:tJ X (ϭ X.K):=Qb.or (ă.or Ă)
def d4.lst(I:d4 X aa U H s)(h:H p=some (.lst xs)):
  ∃(its:List Ac) (n:Nat),W3 xs its/\s.heap.get? p=some { cls:=.type "list",data:=.seq its.toArray n }/\xs.length<=sizeLine:=by
 obtain⟨z,its,n,r,e⟩:=I.hok p _ h;exact⟨its,n,r,e,z⟩
def Vg(lo hi:Option Int)(n:Nat):(I0 lo hi none n).1=((HT.sIx n 0 lo:Nat):Int)/\(I0 lo hi none n).2.1=((HT.sIx n n hi:Nat):Int)/\(I0 lo hi none n).2.2=1:=by
 refine⟨?_,?_,rfl⟩
 .cases lo with
  |none=>simp[I0,HT.sIx]
  |some i=>
   simp only[I0,HT.sIx,Option.getD_none,show (1:Int)>0 by decide,if_true];by_cases h:i<0
   .simp only[h,if_true]<;>omega
   .simp only[h,if_false]<;>omega
 .cases hi with
  |none=>simp[I0,HT.sIx]
  |some i=>
   simp only[I0,HT.sIx,Option.getD_none,show (1:Int)>0 by decide,if_true];by_cases h:i<0
   .simp only[h,if_true]<;>omega
   .simp only[h,if_false]<;>omega
def VB(its:List Ac)(lo hi:Option Int):slicePick its.toArray lo hi none=((its.drop (HT.sIx its.length 0 lo)).take (HT.sIx its.length its.length hi-HT.sIx its.length 0 lo)).toArray:=by obtain⟨h1,h2,h3⟩:=Vg lo hi its.toArray.size;unfold slicePick;rw[h1,h2,h3];simp only[sliceRange_one,pick_run,Ag]<;>rfl
def ό(K:A5):V->Option Int->Option Int->Hp->VK->Prop:=λx lo hi H Q=>∃a xs,x = .ref a/\jE K H a xs/\∀p,H p=none->Q (.ref p) (upd H p (.lst (rP xs lo hi)))
def ŵ:vF X (ό X.K):=by
 intro aa s U H x v vl vu lo hi sl Q I rx hs pl pu h;obtain⟨a,xs,rfl,hx,q⟩:=h;cases rx;obtain⟨its,r,ht,hz⟩:=I.list hx;have ab:=r.length;refine⟨"list",_,slot_list_getitem.lookup,ht.isList.typeIs,?_⟩;refine wpAny_getItem_list_slice ht.isList hs pl pu .none (by simp) ?_ (by rw[Ag]<;>omega)
 rw[VB,<-ab];refine⟨.ref s.heap.objs.size,_,I.laid (t':=s.toks) (o:=.lst (rP xs lo hi)) (λb ob q=>A8 _ q) (Ak _) ?_,rfl,q _ (I.hok.fresh (Ak _))⟩;exact⟨B3 (Pt xs lo hi) hz,_,0,(r.drop (HT.sIx xs.length 0 lo)).take (HT.sIx xs.length xs.length hi-HT.sIx xs.length 0 lo),Au _ rfl⟩
def U8:lN X (.builtin "len") (λxs H Q=>∃p ys,xs=[.ref p]/\(jE X.K H p ys\/jF X.K H p ys)/\Q (.int ys.length) H):=by
 intro aa s U H xs us Q I r h;obtain⟨p,ys,rfl,hq,q⟩:=h;obtain⟨u,rfl,rx⟩:=nH r;cases rx;have hn:=yH;rcases hq with hq|hq
 .obtain⟨its,r',pl,hz⟩:=I.list hq;have ab:=r'.length;exact Calls.call_len_list pl.isList (by simp only[Ag]<;>omega) ⟨.int ys.length,H,I.tok _,⟨s.toks+1,by rw[Ag,ab]⟩,q⟩
 .obtain⟨its,r',pl,hz⟩:=I.tuple hq;have ab:=r'.length;exact len_tuple pl (by simp only[Ag]<;>omega) ⟨.int ys.length,H,I.tok _,⟨s.toks+1,by rw[Ag,ab]⟩,q⟩
def lN.or(h:lN X f r)(h':lN X f r'):lN X f (λxs H Q=>r xs H Q\/r' xs H Q):=by
 intro aa s U H xs us Q I rs q;rcases q with q|q
 .exact h aa s U H xs us Q I rs q
 .exact h' aa s U H xs us Q I rs q
def ND:lN X (.type "tuple") (λxs H Q=>∃p ys,xs=[.ref p]/\((jE X.K H p ys/\∀l,H l=none->Q (.ref l) (upd H l (.tup ys)))\/(jF X.K H p ys/\Q (.ref p) H))):=by
 intro aa s U H xs us Q I r h;obtain⟨p,ys,rfl,h⟩:=h;obtain⟨u,rfl,rx⟩:=nH r;cases rx;rcases h with⟨hq,q⟩|⟨hq,q⟩
 .obtain⟨its,r',pl,hz⟩:=I.list hq;have ab:=r'.length;refine call_tuple_list pl.isList (λh' kp=>?_) (by simp only[Ag]<;>omega)
  have I1:d4 X aa U H { s with heap:=h' }:=I.kept (t':=s.toks) kp
  have I2:d4 X aa U (upd H h'.objs.size (.tup ys)) { s with heap:=h'.push { cls:=.type "tuple",data:=.seq its.toArray } }:=I1.laid (t':=s.toks) (λb o e=>A8 _ e) (Ak _) (show lH X.prog X.w _ _ _ (.tup ys) from ⟨hz,its,r',qL.new _ _⟩)
  exact⟨.ref h'.objs.size,_,I2,rfl,q _ (I1.hok.fresh (Ak _))⟩
 .obtain⟨its,r',pl,hz⟩:=I.tuple hq;exact call_tuple_same pl ⟨.ref p,H,I,rfl,q⟩
def Nf(K:A5)(T:String)(x:V)(H:Hp):Prop:=match x with
 | .str _=>T = "str"
 | .int _=>T = "int"
 | .ref p=>(T = "list"/\∃xs,jE K H p xs)\/(T = "tuple"/\∃xs,jF K H p xs) \/
   (T = "dict"/\((∃kvs,H p=some (.dK kvs))\/∃kvs,H p=some (.dT kvs)))\/(T = "set"/\∃S n,H p=some (.set S n))
 |_=>False
theorem TC(I:d4 X aa U H s)(r:i6 x v)(ty:Nf X.K T x H):
  s.TypeIs v T/\∀a,v = .ref a->∃ob,s.heap.get? a=some ob/\ob.dict=none:=by
 cases x with
 |str z=>obtain⟨t,rfl⟩:=r;cases (show T = "str" from ty);exact⟨typeIs_str s z t,λ_ e=>nomatch e⟩
 |int i=>obtain⟨t,rfl⟩:=r;cases (show T = "int" from ty);exact⟨typeIs_int s i t,λ_ e=>nomatch e⟩
 |ref p=>
  cases r;rcases ty with⟨rfl,xs,hq⟩|⟨rfl,xs,hq⟩|⟨rfl,hk⟩|⟨rfl,S,n,hk⟩
  .obtain⟨its,_,pl,_⟩:=I.list hq;refine⟨pl.isList.typeIs,λa e=>?_⟩;cases e;obtain⟨o,n,e,c,hd,_⟩:=pl;exact⟨o,e,hd⟩
  .obtain⟨o,e0,hc,hd⟩:=I.tupleP hq;refine⟨⟨o,e0,hc⟩,λa e=>?_⟩;cases e;exact⟨o,e0,hd⟩
  .have z:∃o,s.heap.get? p=some o/\o.ExactDict:=by
    rcases hk with⟨kvs,hk⟩|⟨kvs,hk⟩
    .obtain⟨_,_,_,_,o,_,_,e,ex,_⟩:=I.hok p _ hk;exact⟨o,e,ex⟩
    .obtain⟨_,_,_,_,o,_,_,e,ex,_⟩:=I.hok p _ hk;exact⟨o,e,ex⟩
   obtain⟨o,e,ex⟩:=z;refine⟨⟨o,e,ex.1⟩,λa e2=>?_⟩;cases e2;exact⟨o,e,ex.2.1⟩
  .obtain⟨o,_,_,_,e,ex,_⟩:=I.hok p _ hk;refine⟨⟨o,e,ex.1⟩,λa e2=>?_⟩;cases e2;exact⟨o,e,ex.2.1⟩
 |_=>exact Fg ty
def ϒ(K:A5)(T:String)(r:V->List V->Hp->VK->Prop)(to:TE):TE:=λU H Q=>to U H λx H1=>Nf K T x H1/\r x [] H1 Q
def T9(K:A5)(T:String)(r:V->List V->Hp->VK->Prop)(to:TE)(t:TA):TE:=λU H Q=>to U H λx H1=>Nf K T x H1/\t U H1 λxs H2=>r x xs H2 Q
variable{o e:Expr}{es:List Expr}{to:TE}{t:TA}{name:Bg}{cj bW:Gm}{T id:String}{r:V->List V->Hp->VK->Prop}
def ĕ(pa:PlainAttrs T)(slot:Slot T name id)(hty:typeOf (.builtin id)=Cj (.type "method_descriptor"))(hm:xH X id r)(ho:PE X o to)(au:Dv o name X.env (Bz o X.env)=Bz o X.env:=by rfl)(ar:(cj.endLine==bW.line)=true:=by rfl):PE X (.Call (.Attribute o name cj) [] [] bW) (ϒ X.K T r to):=by intro aa s U H Q I h;refine wpAny_Call_method0_late au ar (jG (ho aa s U H _ I h) λv s1 x H1 I1 r1 ⟨ty,q1⟩=>?_);obtain⟨h1,h2⟩:=TC I1 r1 ty;exact⟨T,id,pa,slot,hty,h1,h2,Calls.callWith_builtin rfl (PySem.evalArgs_none (hm aa s1 U H1 x [] v [] Q I1 r1 .nil q1))⟩
def uT(pa:PlainAttrs T)(slot:Slot T name id)(hty:typeOf (.builtin id)=Cj (.type "method_descriptor"))(hm:xH X id r)(ho:PE X o to)(ha:PA X (e::es) t)(au:Dv o name X.env (Bz o X.env)=Bz o X.env:=by rfl)
  (aS:((Bu bW (A9 (e::es) X.env)).all (λx=>!x.1)&&(Iz bW (G4 [] X.env)).all (λx=>x.1.isSome)
   && decide ((e::es).length+([]:List F9).length+(if ([]:List F9).isEmpty then 0 else 1)<30))=true:=by rfl)
  (ar:(cj.endLine==bW.line)=true:=by rfl) (hs:A9 (e::es) X.env=(false,Bz e X.env)::A9 es X.env:=by rfl) (ap:(Bu bW (A9 es X.env)).any (·.1)=false:=by rfl):
  PE X (.Call (.Attribute o name cj) (e::es) [] bW) (T9 X.K T r to t):=by
 intro aa s U H Q I h;refine wpAny_Call_method_late au aS ar rfl (jG (ho aa s U H _ I h) λv s1 x H1 I1 r1 ⟨ty,q1⟩=>?_);obtain⟨h1,h2⟩:=TC I1 r1 ty;refine⟨T,id,pa,slot,hty,h1,h2,?_⟩;have hA:=ha bW aa s1 U H1 _ I1 q1;rw[hs]at hA ⊢;refine Calls.callWith_builtin (by show (false||(Bu bW (A9 es X.env)).any (·.1))=false;rw[ap]<;>rfl) (Calls.evalArgs_plain ?_)
 exact lC hA λus s2 ⟨vs,H2,I2,r2,q2⟩=>hm aa s2 U H2 x vs v us Q I2 r1 r2 q2
end
def Nq(X:Cx)(id:String)(r:V->List V->Hp->VK->Prop):Prop:=
 ∀(aa:jA) (s:Am) (U:St) (H:Hp) (x:V) (xs:List V) (v:Ac) (us:List Ac) (Q:VK),d4 X aa U H s->i6 x v->W3 xs us->r x xs H Q ->
  Ar (B2 X.prog X.w) X.A (call (.builtin id) (v::us)) (EP X aa U Q) X.xe s
theorem W3.one:∀{x:V} {us:List Ac},W3 [x] us->∃u,us=[u]/\i6 x u
 |_,_,.cons r .nil=>⟨_,rfl,r⟩
theorem W3.two:∀{x y:V} {us:List Ac},W3 [x,y] us->∃u v,us=[u,v]/\i6 x u/\i6 y v
 |_,_,_,.cons r (.cons q .nil)=>⟨_,_,rfl,r,q⟩
theorem W3.zero:∀{us:List Ac},W3 [] us->us=[]
 |_,.nil=>rfl
theorem W3.eraseIdx:∀{xs:List V} {us:List Ac} (i:Nat),W3 xs us->W3 (xs.eraseIdx i) (us.eraseIdx i)
 |_,_,_,.nil=>.nil
 |_,_,0,.cons _ t=>t
 |_,_,i+1,.cons r t=>.cons r (W3.eraseIdx i t)
theorem W3.rep(h:W3 xs us):∀k:Nat,W3 (Bf k xs).flatten (Bf k us).flatten
 | 0=>.nil
 |k+1=>by rw[E2,E2,Fa,Fa];exact W3.append h (W3.rep h k)
theorem OD{α:Type}:∀(l:List α) (i:Nat),(l.eraseIdx i).length<=l.length
 | [],_=>Ak _
 |_::_,0=>Dq _
 |_::r,i+1=>Nat.succ_le_succ (OD r i)
theorem Ot(its:List Ac):∀(k:Nat) (ag:List Ac),
  M7 (λx1 x2=>x1++x2) ag.toArray (Bf k its.toArray)=(ag++(Bf k its).flatten).toArray
 | 0,ag=>by simp
 |k+1,ag=>by
  have e:ag.toArray++its.toArray=(ag++its).toArray:=by simp
  have e2:(ag++its)++(Bf k its).flatten=ag++(Bf (k+1) its).flatten:=by rw[E2,Fa,Co]
  rw[<-e2,<-Ot its k (ag++its),<-e,E2,Gb]
section
variable{X:Cx}{aa:jA}{U:St}{H:Hp}{s:Am}{l b:Aw}{xs ys zs:List V}
def d4.lset{its its':List Ac}{f:Array Ac->Array Ac}{t':Nat}(I:d4 X aa U H s)(hH:H l=some (.lst xs))(e:s.heap.get? l=some { cls:=.type "list",data:=.seq its.toArray n })(hf:f its.toArray=its'.toArray)(hv:W3 ys its')(hz:ys.length<=sizeLine):
  d4 X aa U (upd H l (.lst ys)) { s with heap:=s.heap.update l (Cd f),toks:=t' }:=by
 have q:=PySem.IsL.update e f;rw[hf]at q;refine I.write (x:=l) (e:=l) (by rw[hH];exact trivial) (.inl rfl) (λb' u hb hu=>(Bn s.heap (Cd f) (Cw hb)).trans hu) ⟨_,q⟩ ?_
 exact⟨hz,its',_,hv,q⟩
def d4.lnew{t':Nat}(I:d4 X aa U H s)(hv:W3 ys its)(hz:ys.length<=sizeLine):
  d4 X aa U (upd H s.heap.objs.size (.lst ys)) { s with heap:=s.heap.push { cls:=.type "list",data:=.seq its.toArray },toks:=t' }:=
 I.laid (λ_ _ q=>A8 _ q) (Ak _) ⟨hz,its,0,hv,Au _ rfl⟩
def d4.fresh(I:d4 X aa U H s):H s.heap.objs.size=none:=I.hok.fresh (Ak _)
def d4.lstM(I:d4 X aa U H s)(hH:H l=some (.lst xs)):xs.length<=sizeLine/\∃(its:List Ac) (n:Nat),W3 xs its/\xs.length=its.length/\s.heap.get? l=some { cls:=.type "list",data:=.seq its.toArray n }:=by obtain⟨z,its,n,r,e⟩:=I.hok l _ hH;exact⟨z,its,n,r,r.length,e⟩
def Þ{n:Nat}(h:n<=sizeLine):Hm n=false:=by unfold Hm;exact decide_eq_false (by omega)
end
section
variable{X:Cx}
def ŧ:V->List V->Hp->VK->Prop:=λx vs H Q=>∃l xs y,x = .ref l/\vs=[y]/\H l=some (.lst xs)/\xs.length<sizeLine/\Q .non (upd H l (.lst (xs++[y])))
def KS:Nq X "list.append" ŧ:=by
 intro aa s U H x vs v us Q I rx rv h;obtain⟨l,xs,y,rfl,rfl,hH,hz,q⟩:=h;cases rx;obtain⟨u,rfl,ru⟩:=rv.one;obtain⟨z,its,n,r,hl,e⟩:=I.lstM hH;refine Hs F.slot_list_append ⟨_,e,rfl⟩ F.entry_list_append (F.args_list_append_2 _ _) (PySem.list_append l its.toArray n u (by rw[Ag];omega)) ⟨e,?_⟩
 refine⟨.non,_,I.lset (its':=its++[u]) hH e (by simp) (r.append (.cons ru .nil)) ?_,rfl,q⟩;rw[Af,Ay];omega
def Ũ:V->List V->Hp->VK->Prop:=λx vs H Q=>∃l b xs zs,x = .ref l/\vs=[.ref b]/\H l=some (.lst xs)/\H b=some (.lst zs)/\xs.length+zs.length<=sizeLine/\Q .non (upd H l (.lst (xs++zs)))
def Xl:Nq X "list.extend" Ũ:=by
 intro aa s U H x vs v us Q I rx rv h;obtain⟨l,b,xs,zs,rfl,rfl,hH,hB,hz,q⟩:=h;cases rx;obtain⟨u,rfl,ru⟩:=rv.one;cases ru;obtain⟨z,its,n,r,hl,e⟩:=I.lstM hH;obtain⟨z2,aq,n2,r2,hl2,e2⟩:=I.lstM hB
 have hsz:its.toArray.size+aq.toArray.size<=sizeLine:=by rw[Ag,Ag];omega
 have iN:¬(!its.toArray.isEmpty&&Hm (its.toArray.size+aq.toArray.size))=true:=by rw[Þ hsz,Bool.and_false];exact B0
 refine Hs F.slot_list_extend ⟨_,e,rfl⟩ F.entry_list_extend (F.args_list_extend_2 _ _)
  (AutoSeq1.list_extend_list_list_0 l its.toArray n b aq.toArray n2 iN (by rw[Ag];omega) (by omega)) ⟨e,e2,?_⟩
 refine⟨.non,_,I.lset (its':=its++aq) hH e (by simp) (r.append r2) ?_,rfl,q⟩;rw[Af];omega
def Tn:V->List V->Hp->VK->Prop:=λx vs H Q=>∃l xs i k y,x = .ref l/\vs=[.int i]/\H l=some (.lst xs)/\-(2 ^ 63)<=i/\i<2 ^ 63/\seqIndex? i xs.length=some k/\xs[k]?=some y/\Q y (upd H l (.lst (xs.eraseIdx k)))
def Ü:Nq X "list.pop" Tn:=by
 intro aa s U H x vs v us Q I rx rv h;obtain⟨l,xs,i,k,y,rfl,rfl,hH,h1,h2,hk,hy,q⟩:=h;cases rx;obtain⟨u,rfl,ru⟩:=rv.one;obtain⟨t,rfl⟩:=ru;obtain⟨z,its,n,r,hl,e⟩:=I.lstM hH;obtain⟨w,hw,rw'⟩:=r.get hy
 refine Hs F.slot_list_pop ⟨_,e,rfl⟩ F.entry_list_pop (F.args_list_pop_2 _ _)
  (MeetsSeq.list_pop_at l its.toArray n i t k w (fitsIndex_both h1 h2) (by rw[Ag,<-hl];exact hk) (by rw[<-Array.getElem?_toList];exact hw) (by rw[Ag];omega)) ⟨e,?_⟩
 refine⟨y,_,I.lset (its':=its.eraseIdx k) hH e ?_ (r.eraseIdx k) ?_,rw',q⟩
 .show its.toArray.eraseIdxIfInBounds k=(its.eraseIdx k).toArray;rw[List.eraseIdxIfInBounds_toArray]
 .have:=OD xs k
  omega
theorem Ŏ{α:Type}(xs:List α)(k:Nat):(Bf k xs).flatten.length=k*xs.length:=by
 induction k with
 |zero=>simp
 |succ k ih=>rw[E2,Fa,Af,ih,Nat.succ_mul,Nat.add_comm]
end
end L2
namespace Att
open PySem PySem.W PySem.Calls PyProof.Rows
theorem V2:∀(ns:List Int) (vs:List Ac),WellAll P h vs (ns.map WData.int)->C2 vs ns:=by
 intro ns
 induction ns with
 |nil=>intro vs w;rw[G6]at w;cases w;exact .nil
 |cons n ns ih=>
  intro vs w;rw[Aj]at w
  cases w with
  |cons a b=>cases a;exact .cons _ _ (ih _ b)
theorem XI{l:OpenLaw}{n:Nat}(hn:l.most=some n)(eQ:l.row.toRowW.claim.pre args=true)(hwl:WellAll P h iQ args):
  ∃a vs ns,iQ=[Eb a]/\args=[WData.list (ns.map WData.int)]/\h.get? a=some { cls:=.type "list",data:=.seq vs.toArray }/\C2 vs ns/\ns.length<=n:=by
 have hsh:WShape.hasAll [] args [.list .int]=true:=(pre_splitW eQ).1;have hc:l.pre.holds [] { args:=args }=true:=(pre_splitW eQ).2;obtain⟨d,r,rfl,h1,h2⟩:=hasAllW_cons hsh
 obtain rfl:=hasAllW_nil h2
 obtain⟨xs,rfl,h3⟩:=hasW_list h1;obtain⟨ns,rfl⟩:=items_int h3
 have ab:ns.length<=n:=by
  unfold OpenLaw.pre at hc
  have h4:(WTm.not (.lt (.lit (.int (n:Int))) (.len (.arg 0)))).holds [] { args:=[.list (ns.map .int)] }=true:=by have h4:=(holds_andW hc).1;rw[hn]at h4;exact h4
  have h5:=condW_of h4 (w_not (w_lt w_lit (w_len_list (w_arg rfl))));rw[A0]at h5;refine Nat.le_of_not_lt λq=>?_
  have q':(n:Int)<((ns.length:Nat):Int):=by omega
  first
   | (rw[decide_eq_true q']at h5;exact absurd h5 (by decide))
   | (simp at h5;omega)
 cases hwl with
 |cons w1 w2=>
  cases w2
  cases w1 with
  |list ho cn=>exact⟨_,_,ns,rfl,rfl,ho,V2 ns _ cn,ab⟩
def Xw(l:OpenLaw)(args:List WData):l.row.toRowW.claim.post args (.bool true) args=true:=
 postW_of (r:=l.row.toRowW) (X:=(true==true))
  (show WShape.has [] (.bool true) .bool=true by first|rfl|decide|simp[WShape.has,WShape.arms,WShape.armsAll])
  (show (WTm.eq .res (.lit (.bool true))).value [] { args:=args,res:=some (.bool true),after:=args }=some (.bool (true==true)) from w_eq_bool (w_res rfl) w_lit) rfl
def attach_call{l:OpenLaw}{n:Nat}{YP:Cg->Cl->Prop}{d:DefRec}(hn:l.most=some n)(iM:d.params.defaults=[])
  (call:∀(w:Cg) (s₀ s₁:Am) (mg mb:Bg->Option Ac) (fa:Aw) (o:Jp) (pm cd aB:Ac) (a:Aw) (vs:List Ac) (ns:List Int),
   Ground q loose [] XP w s₀ mg mb s₁.heap->YP w s₁.heap ->
   s₁.heap.get? fa=some o->o.data = .func (docDef d.name d.params d.body d.scope pm cd aB)->s₁.heap.CodeRec cd d.name->mg d.name=some (.ref fa) ->
   s₁.heap.get? a=some { cls:=.type "list",data:=.seq vs.toArray }->C2 vs ns->ns.length<=n->s₁.gens = #[] ->
   E8 (B2 l.prog w) Ls (.call (.ref fa) ⟨[.ref a],[]⟩) (λr s'=>r = .ok (.ret (.bool true))/\OldK s₁.heap s'.heap/\s'.os=s₁.os/\Jl s'.gens) s₁):
  WalkO q loose XP YP l.row.toRowW d [] (λf vs=>Mw f vs):=by
 intro w s₀ s₁ mg mb G ya fa o pm cd aB dV kV ho hd aO hD hV hg args iQ as eQ hlay hrd hwl hlo
 obtain rfl:dV = .none:=Dflts.none hD iM
 obtain rfl:kV = .none:=Dflts.noKw hD
 obtain⟨a,vs,ns,rfl,rfl,fM,dF,ab⟩:=XI hn eQ hwl;refine enter_call (Jm (call w s₀ s₁ mg mb fa o pm cd aB a vs ns G ya ho (fd_plain hd) aO hV fM dF ab hg) λr s' hq=>?_);obtain⟨rfl,h2,h3,h4⟩:=hq;exact⟨.inl ⟨.bool true,.bool true,[],rfl,λ_=>rfl,.bool true,Xw l _,λ_=>⟨Ed,λ_ hm=>(nomatch hm)⟩⟩,h2,h3,h4⟩
end Att
namespace L2
open PySem PySem.Spec PyProof.Rows
theorem OU:∀{vs:List Ac} {ns:List Int},C2 vs ns->W3 (ns.map V.int) vs
 |_,_,.nil=>.nil
 |_,_,.cons n t h=>.cons ⟨t,rfl⟩ (OU h)
def p7(s:Db):Lt:=match s with
 | .FunctionDef _ a _ _ _ _ _ _ _ _=>a
 |_=>{ posonlyargs:=[],args:=[],vararg:=none,kwonlyargs:=[],kw_defaults:=[],kwarg:=none,defaults:=[] }
def mS(s:Db):List Db:=match s with
 | .FunctionDef _ _ b _ _ _ _ _ _ _=>b
 |_=>[]
def u8(s:Db):Scope:=match s with
 | .FunctionDef _ _ _ _ _ _ sc _ _ _=>sc
 |_=>{ kind:=.function,names:=[],isGenerator:=false,isCoroutine:=false }
abbrev m7:vH:=λ_ _ _ _ _ _=>False
abbrev E0:XK:=λ_ _ _=>False
def Zo:KZ m7 X E0:=λ_ _ _ _ _ _ _ h=>h.elim
structure rY(K:A5)(x qual:Bg)(st:Db)(f:Aw)(fd:Go):Prop where
 ex:∃(oc:Ac) (od:Option Aw) (kV aB pm:Ac) (an:Option Aw) (am ct:Ac) (dN:Array (Option Ac)),
  fd=Do x qual (p7 st) (mS st) (u8 st) .none kV aB pm an am ct/\K.lookup f=some ⟨oc,od,.func fd,dN⟩/\Id K am qual=true
 kp:Fm K (.ref f)=true
section
variable{P:By}{w:Cg}{K:A5}{mg:Bg->Option Ac}{base:Cl}
def rY.ok{x qual:Bg}{st:Db}{f:Aw}{fd:Go}{N ps:List Bg}{k:Nat}{sp:Sp}(F:rY K x qual st f fd)(S:jR N ps (u8 st))(len:∀vs H Q E,sp vs H Q E->vs.length=ps.length)
  (av:∀(am:Ac) (A:C6) (outer:List Me) (s:Am) (H:Hp) (vs:List V) (Q:VK) (E:XK),h9 k (A.deeper (Jg qual (u8 st) s.heap.objs.size f am))->sp vs H Q E ->
   ∃t,nV (o3 m7 P w K mg base N qual (u8 st) f am A outer s H E).nox (mS st) t/\t { nx:=λ_ H'=>Q .non H',rt:=Q } (start N vs) H):kY P w K mg base m7 (k+1) f fd ps sp:=by
 obtain⟨oc,od,kV,aB,pm,an,am,ct,dN,rfl,lk,aO⟩:=F.ex;refine RN lk aO S len λA outer s H vs Q E hr fg=>?_;obtain⟨t,h,q⟩:=av am A outer s H vs Q E hr fg;exact⟨t,h.nox,q⟩
def rY.binds{x qual:Bg}{st:Db}{f:Aw}{fd:Go}{ps:List Bg}(F:rY K x qual st f fd)(h:∀(kV aB pm:Ac) (an:Option Aw) (am ct:Ac) (us:List Ac),us.length=ps.length->Gp (Do x qual (p7 st) (mS st) (u8 st) .none kV aB pm an am ct) ⟨us,[]⟩=Cj (ps.zip us)):wW K fd ps []:=by obtain⟨oc,od,kV,aB,pm,an,am,ct,dN,rfl,lk,aO⟩:=F.ex;exact .all (h kV aB pm an am ct)
def Su{x qual:Bg}{st:Db}{f:Aw}{oc:Ac}{od an:Option Aw}{dN:Array (Option Ac)}{kV aB pm am ct:Ac}(l:K.lookup f=some ⟨oc,od,.func (Do x qual (p7 st) (mS st) (u8 st) .none kV aB pm an am ct),dN⟩)(c:Id K am qual=true)(k:Fm K (.ref f)=true):rY K x qual st f (Do x qual (p7 st) (mS st) (u8 st) .none kV aB pm an am ct):=⟨⟨oc,od,kV,aB,pm,an,am,ct,dN,rfl,l,c⟩,k⟩
end
def Ϡ(hr:h9 k A):A.units+1<Cz:=Ht (Nat.add_le_add_left (by decide:1<=64) _) hr.units
section
variable{X:Cx}
def pv(i:Nat){x:Bg}(hN:X.N[i]?=some x:=by rfl)(hv:mX X.env.scope x:=by first|exact Dg rfl|exact Cp (Dg rfl)|exact Cp (Cp rfl))(hd:(x==("__debug__":Bg))=false:=by decide)(aO:(x==("__classdict__":Bg))=false:=by decide):PE X (.Name x pos) (oN i):=nX hN hv hd aO
end
def vA{A B:Prop}(h:B):if false=true then A else B:=by rw[if_neg B0];exact h
def sZ{A B:Prop}(h:A):if true=true then A else B:=by rw[if_pos rfl];exact h
def J0(H H':Hp):Prop:=∀b o,H b=some o->H' b=some o
def J0.refl(H:Hp):J0 H H:=λ_ _ h=>h
def J0.trans(a:J0 H H1)(b:J0 H1 H2):J0 H H2:=λc o h=>b c o (a c o h)
theorem J0.free(e:J0 H H')(h:H' l=Option.none):H l=Option.none:=by
 cases q:H l with
 |none=>rfl
 |some o=>rw[e l o q]at h;cases h
def J0.seq{K:A5}{H H':Hp}{a:Aw}{xs:List V}(e:J0 H H')(h:jE K H a xs):jE K H' a xs:=by
 rcases h with (h|⟨o,h⟩)|h
 .exact .inl (.inl (e _ _ h))
 .exact .inl (.inr ⟨o,e _ _ h⟩)
 .exact .inr h
end L2
namespace L3
open PySem PySem.Spec PyProof.Rows L2
abbrev St:=L2.St
section
variable{env:Me}
theorem LF:∀(names:List (Bg×Gq)) (cs:List (Bg×Aw)),(∀x∈names,x.2 = .free->∃c,env.cells.lookup x.1=some c) ->
  ∃cl:List (Bg×Aw),(forIn names cs (λ(x:Bg×Gq) (r:List (Bg×Aw))=>(if (x.2==Bs)=true then do
    let a <-cellOf env x.1
    Cj (Eg ((x.1,a)::r))
   else Cj (Eg r):Sem (ForInStep (List (Bg×Aw))))):Sem (List (Bg×Aw)))=Cj cl /\
   (∀x c,cl.lookup x=some c->cs.lookup x=some c\/(env.cells.lookup x=some c/\(x,Bs)∈names)) /\
   (∀x,((x,Bs)∈names\/∃c,cs.lookup x=some c)->∃c,cl.lookup x=some c)
 | [],cs,_=>⟨cs,rfl,λx c h=>.inl h,λx h=>by
   rcases h with h|h
   .simp at h
   .exact h⟩
 | (n,k)::r,cs,hf=>by
  by_cases hk:k = .free
  .subst hk;obtain⟨c,hc⟩:=hf (n,.free) A6 rfl;obtain⟨cl,e,h1,h2⟩:=LF r ((n,c)::cs) (λx hx=>hf x (A7 _ hx));refine⟨cl,?_,λx d hd=>?_,λx hx=>?_⟩
   .rw[List.forIn_cons]
    have e1:cellOf env n=Cj c:=by unfold cellOf;rw[hc]
    simp only[beq_self_eq_true,if_true,e1];exact e
   .rcases h1 x d hd with q|⟨q1,q2⟩
    .rw[Bi]at q
     cases hx:x==n with
     |true=>
      rw[hx]at q
      have ex:x=n:=by simpa using hx
      subst ex;cases q;exact .inr ⟨hc,A6⟩
     |false=>rw[hx]at q;exact .inl q
    .exact .inr ⟨q1,A7 _ q2⟩
   .refine h2 x ?_;rcases hx with hx|⟨d,hd⟩
    .rcases Ad.mp hx with z|z
     .cases z;exact .inr ⟨c,by simp[Bi]⟩
     .exact .inl z
    .refine .inr ?_;rw[Bi]
     cases hx:x==n with
     |true=>exact⟨c,rfl⟩
     |false=>exact⟨d,hd⟩
  .obtain⟨cl,e,h1,h2⟩:=LF r cs (λx hx=>hf x (A7 _ hx));refine⟨cl,?_,λx d hd=>?_,λx hx=>?_⟩
   .rw[List.forIn_cons]
    have hb:(k==Bs)=false:=by simpa using hk
    simp only[hb,Es,if_false];exact e
   .rcases h1 x d hd with q|⟨q1,q2⟩
    .exact .inl q
    .exact .inr ⟨q1,A7 _ q2⟩
   .refine h2 x ?_;rcases hx with hx|hx
    .rcases Ad.mp hx with z|z
     .cases z;exact absurd rfl hk
     .exact .inl z
    .exact .inr hx
def LG{scope:Scope}(hf:∀x∈scope.names,x.2 = .free->∃c,env.cells.lookup x.1=some c):
  ∃cl,Mx scope env=Cj cl/\(∀x c,cl.lookup x=some c->env.cells.lookup x=some c/\(x,Bs)∈scope.names)/\(∀x,(x,Bs)∈scope.names->∃c,cl.lookup x=some c):=by
 obtain⟨cl,e,h1,h2⟩:=LF (env:=env) scope.names [] hf;refine⟨cl,?_,λx c h=>?_,λx h=>h2 x (.inl h)⟩
 .unfold Mx;have e':=e
  first
   |exact(congrArg (λm=>m >>= λcs=>Cj cs) e')
   | (simp only[bind_pure];exact e')
   | (show (forIn scope.names [] _ >>= λcs=>Cj cs)=Cj cl;rw[e'];rfl)
 .rcases h1 x c h with q|q
  .simp at q
  .exact q
end
section
variable{prog:By}{w:Cg}{A:C6}{R:Kj->Am->Prop}{s:Am}
theorem U9{aT ae af:Expr}{it ag:Ac}(I:Nat->Am->Prop)
  (turn:∀n s,I n s->Ar (B2 prog w) A (Ki it) (λr s1=>match r with
   |none=>R (.ok .next) s1
   |some v=>Ar (B2 prog w) A (Jf ae it v) (λ_ s1'=>Ar (B2 prog w) A (Li ae env v) (λ_ s2=>
     Ar (B2 prog w) A (forIn ba true λc r=>if r=true then do let ok <-isTrue c env (Bz c env);Cj (Eg ok) else Cj (Eg r)) (λok s3=>
      if ok=true then Ar (B2 prog w) A (Bz aT env) (λx s4=>
       Ar (B2 prog w) A (call (.builtin "list.append") [ag,x]) (λ_ s5=>∃m,m<n/\I m s5) (λ_ _=>False) s4) (λ_ _=>False) s3
      else ∃m,m<n/\I m s3) (λ_ _=>False) s2) (λ_ _=>False) s1') (λ_ _=>False) s1) (λ_ _=>False) s)
  (n:Nat) (h:I n s):
  E8 (B2 prog w) A (.compLoop (.ListComp aT [⟨ae,af,ba,0⟩] scope pos) 0 it ag env) R s:=by
 refine codeAny_loop rfl I (λn s hI=>?_) n h;show Ar _ A ((compTurn (.ListComp aT [⟨ae,af,ba,0⟩] scope pos) 0 it ag env).onRaise (λx=>do noteFrame x env;theTreesLotGoes x)) _ _ s
 refine wpAny_noted ?_;rw[compTurn_list];refine A4 (Gf (A4 (Cc (turn n s hI) (λr s1 h1=>?_) λ_ _ h'=>h'.elim)))
 cases r with
 |none=>exact wpAny_pure h1
 |some v=>
  refine A4 (Cc h1 (λ_ s1' hZ=>?_) λ_ _ h'=>h'.elim);refine A4 (Cc hZ (λ_ s2 h2=>A4 (Cc h2 (λok s3 h3=>?_) λ_ _ h'=>h'.elim)) λ_ _ h'=>h'.elim)
  cases ok with
  |false=>exact wpAny_pure ⟨rfl,h3⟩
  |true=>exact A4 (A4 (Cc h3 (λx s4 h4=>A4 (Cc h4 (λ_ s5 h5=>wpAny_pure (wpAny_pure ⟨rfl,h5⟩)) λ_ _ h'=>h'.elim)) λ_ _ h'=>h'.elim))
end
abbrev Q7(X:Cx)(N:List Bg)(scope:Scope)(cl:List (Bg×Aw))(C:Aw)(fp:List Aw)(s:Am)(H:Hp):Cx where
 prog:=X.prog
 w:=X.w
 K:=X.K
 mg:=X.mg
 base:=X.base
 A:=X.A
 N:=N
 s₀:=s
 H₀:=H
 env:=compEnvC scope cl C X.env
 outer:=X.stack
 stack:=X.stack
 ex:=fp
 fn:=λx=>match scope.names.lookup x with|some .local=>true|some .cell=>true|_=>false
 calm:=X.calm
 pn:=[]
 xe:=λ_ _=>False
structure oE(X:Cx)(scope:Scope)(s:Am)(h1:Cl)(cs:List (Bg×Aw)):Prop where
 old:∀x c,cs.lookup x=some c->(X.env.cells.lookup x=some c/\(x,Bs)∈scope.names)\/(s.heap.objs.size<c/\h1.IsCell c none/\(x,Dd)∈scope.names)
 has:∀x,((x,Bs)∈scope.names\/(x,Dd)∈scope.names)->∃c,cs.lookup x=some c
 inj:∀x y c,cs.lookup x=some c->cs.lookup y=some c->s.heap.objs.size<c->x=y
theorem HY:∀(names:List (Bg×Gq)) (n:Nat) (ag:List (Bg×Aw)) (x:Bg),((x,Dd)∈names\/∃c,ag.lookup x=some c)->∃c,(Gy n names ag).lookup x=some c
 | [],_,_,_,h=>by
  rcases h with h|h
  .simp at h
  .exact h
 | (m,k)::r,n,ag,x,h=>by
  unfold Gy;by_cases hk:(k==Dd)=true
  .rw[if_pos hk];refine HY r _ _ x ?_;rcases h with h|⟨c,h⟩
   .rcases Ad.mp h with z|z
    .cases z;exact .inr ⟨n,by simp[Bi]⟩
    .exact .inl z
   .refine .inr ?_;rw[Bi]
    cases hx:x==m with
    |true=>exact⟨n,rfl⟩
    |false=>exact⟨c,h⟩
  .rw[if_neg hk];refine HY r _ _ x ?_;rcases h with h|h
   .rcases Ad.mp h with z|z
    .cases z;exact absurd rfl hk
    .exact .inl z
   .exact .inr h
theorem IA:∀(names:List (Bg×Gq)) (h:Cl) (ag:List (Bg×Aw)) (x:Bg) (c:Aw),(Gy h.objs.size names ag).lookup x=some c ->
  ag.lookup x=some c\/(h.objs.size<=c/\(pushCells h names).IsCell c none/\(x,Dd)∈names)
 | [],_,_,_,_,e=>.inl e
 | (m,k)::r,h,ag,x,c,e=>by
  unfold Gy at e;unfold pushCells;by_cases hk:(k==Dd)=true
  .rw[if_pos hk]at e ⊢
   have cb:k=Dd:=by simpa using hk
   have ih:=IA r (h.push { cls:=.type "cell",data:=.cell none }) ((m,h.objs.size)::ag) x c (by rw[Dy];exact e)
   rcases ih with z|⟨z1,z2,z3⟩
   .rw[Bi]at z
    cases hx:x==m with
    |true=>
     rw[hx]at z;cases z
     have:x=m:=by simpa using hx
     subst this;subst cb;exact .inr ⟨Ak _,⟨_,pushCells_keeps _ _ _ _ (Au _ rfl),rfl⟩,A6⟩
    |false=>
     rw[hx]at z;exact .inl z
   .rw[Dy]at z1;exact .inr ⟨by omega,z2,A7 _ z3⟩
  .rw[if_neg hk]at e ⊢;rcases IA r h ag x c e with z|⟨z1,z2,z3⟩
   .exact .inl z
   .exact .inr ⟨z1,z2,A7 _ z3⟩
theorem HZ:∀(names:List (Bg×Gq)) (n:Nat) (ag:List (Bg×Aw)),(∀x c,ag.lookup x=some c->c<n)->∀lo,(∀x y c,ag.lookup x=some c->ag.lookup y=some c->lo<c->x=y) ->
  ∀x y c,(Gy n names ag).lookup x=some c->(Gy n names ag).lookup y=some c->lo<c->x=y
 | [],_,_,_,_,hi,x,y,c,e1,e2,hc=>hi x y c e1 e2 hc
 | (m,k)::r,n,ag,ah,lo,hi,x,y,c,e1,e2,hc=>by
  unfold Gy at e1 e2;by_cases hk:(k==Dd)=true
  .rw[if_pos hk]at e1 e2
   have cr:∀z d,((m,n)::ag).lookup z=some d->(z=m/\d=n)\/(ag.lookup z=some d):=λz d e=>by
    rw[Bi]at e
    cases hx:z==m with
    |true=>rw[hx]at e;cases e;exact .inl ⟨by simpa using hx,rfl⟩
    |false=>rw[hx]at e;exact .inr e
   refine HZ r (n+1) _ (λz d e=>?_) lo (λz1 z2 d f1 f2 hd=>?_) x y c e1 e2 hc
   .rcases cr z d e with⟨_,q⟩|q
    .rw[q];exact Em n
    .exact Ca (ah z d q)
   .rcases cr z1 d f1 with⟨q1,q2⟩|q
    .rcases cr z2 d f2 with⟨p1,_⟩|p
     .rw[q1,p1]
     .exact absurd (ah z2 d p) (by rw[q2];exact Dk _)
    .rcases cr z2 d f2 with⟨p1,p2⟩|p
     .exact absurd (ah z1 d q) (by rw[p2];exact Dk _)
     .exact hi z1 z2 d q p hd
  .rw[if_neg hk]at e1 e2;exact HZ r n ag ah lo hi x y c e1 e2 hc
section
variable{M:Model}{A:C6}{E:VP}
def VF{X:Cx}{scope:Scope}{cl:List (Bg×Aw)}{Q:Me->Am->Prop}{s:Am}(az:∀x c,cl.lookup x=some c->X.env.cells.lookup x=some c/\(x,Bs)∈scope.names)(eU:∀x,(x,Bs)∈scope.names->∃c,cl.lookup x=some c)(ah:∀x c,X.env.cells.lookup x=some c->c<s.heap.objs.size)
  (hQ:∀cs h' m,h'.Ns s.heap.objs.size m->(∀b o,s.heap.get? b=some o->h'.get? b=some o)->oE X scope s h' cs ->
   Q (newEnv scope s.heap.objs.size globals cs qual none .none (some X.env) Hr) { s with heap:=h',toks:=s.toks+([]:List (Bg×Ac)).length }):
  Ar M A (newFunctionEnv scope globals cl [] qual none .none (some X.env)) Q E s:=by
 simp only[newFunctionEnv,Option.isSome_some,if_true];refine A4 (wpAny_alloc ?_);refine A4 (wpAny_layCells _ (λname kind cells=>by cases hkc:kind==Dd<;>simp[hkc]) _ _ _ _ ?_)
 refine A4 ?_;rw[List.forIn_nil];refine wpAny_pure (wpAny_pure ?_);have hn:∀b o,s.heap.get? b=some o->(pushCells (s.heap.push { cls:=.type "dict",data:=.dict #[] }) scope.names).get? b=some o:=λb o e=>pushCells_keeps _ _ b o (A8 _ e);have sz:(s.heap.push { cls:=.type "dict",data:=.dict #[] }).objs.size=s.heap.objs.size+1:=Dy ..;refine hQ _ _ (λ_=>none) ((Cl.Ns.new s.heap (.type "dict")).keeps (pushCells_keeps _ _)) hn ⟨λx c e=>?_,λx hx=>?_,λx y c e1 e2 hc=>?_⟩
 .rcases IA scope.names _ cl x c e with z|⟨z1,z2,z3⟩
  .exact .inl (az x c z)
  .rw[sz]at z1;exact .inr ⟨by omega,z2,z3⟩
 .refine HY _ _ _ x ?_;rcases hx with hx|hx
  .exact .inr (eU x hx)
  .exact .inl hx
 .refine HZ scope.names _ cl (λx c e=>?_) s.heap.objs.size (λx y c e1 e2 hc=>?_) x y c e1 e2 hc
  .show c<(s.heap.push { cls:=.type "dict",data:=.dict #[] }).objs.size;rw[sz];exact Ca (ah x c (az x c e).1)
  .exact absurd (Dp hc (ah x c (az x c e1).1)) (Dk _)
end
theorem IG{env:Me}{x:Bg}:∀{names:List (Bg×Gq)} {k:Gq},
  (names.map λ(n,k)=>if (k==Bs&&env.scope.kind==.function&&env.kindOf n==some .cell) then (n,Dd) else (n,k)).lookup x=some k ->
  (names.lookup x=some k\/(k = .cell/\names.lookup x=some .free))
 | [],_,h=>by simp at h
 | (n,k')::r,k,h=>by
  have ih:=@IG env x r k;rw[Aj]at h;dsimp only at h;rw[Bi]
  cases hx:x==n with
  |true=>
   by_cases hc:(k'==Bs&&env.scope.kind==.function&&env.kindOf n==some .cell)=true
   .rw[if_pos hc,Bi,hx]at h;cases h
    have:k' = .free:=by simp only[Be,beq_iff_eq]at hc;exact hc.1.1
    subst this;exact .inr ⟨rfl,rfl⟩
   .rw[if_neg hc,Bi,hx]at h;exact .inl h
  |false=>
   by_cases hc:(k'==Bs&&env.scope.kind==.function&&env.kindOf n==some .cell)=true
   .rw[if_pos hc,Bi,hx]at h;exact ih h
   .rw[if_neg hc,Bi,hx]at h;exact ih h
theorem NB{env:Me}{x:Bg}:∀{names:List (Bg×Gq)},names.lookup x=some .free ->
    ((names.map λ(n,k)=>if (k==Bs&&env.scope.kind==.function&&env.kindOf n==some .cell) then (n,Dd) else (n,k)).lookup x=some .cell \/
     (names.map λ(n,k)=>if (k==Bs&&env.scope.kind==.function&&env.kindOf n==some .cell) then (n,Dd) else (n,k)).lookup x=some .free)
  | [],h=>by simp at h
  | (n,k')::r,h=>by
    have ih:=@NB env x r
    rw[Aj]
    dsimp only
    rw[Bi]at h
    cases hx:x==n with
    |true=>
      rw[hx]at h
      cases h
      by_cases hc:((Bs==Bs)&&env.scope.kind==.function&&env.kindOf n==some .cell)=true
      · rw[if_pos hc,Bi,hx];exact .inl rfl
      · rw[if_neg hc,Bi,hx];exact .inr rfl
    |false=>
      rw[hx]at h
      by_cases hc:(k'==Bs&&env.scope.kind==.function&&env.kindOf n==some .cell)=true
      · rw[if_pos hc,Bi,hx];exact ih h
      · rw[if_neg hc,Bi,hx];exact ih h
def sV(X:Cx)(ba:List Expr)(t:TT):Prop:=
 ∀(aa:jA) (s:Am) (U:St) (H:Hp) (Q:Bool->Hp->Prop),d4 X aa U H s->t U H Q ->
  Ar (B2 X.prog X.w) X.A (forIn ba true λc r=>if r=true then do let ok <-isTrue c X.env (Bz c X.env);Cj (Eg ok) else Cj (Eg r)) (TP X aa U Q) X.xe s
def EU:sV X [] (λ_ H Q=>Q true H):=λ_ _ _ H _ I h=>wpAny_tests_nil ⟨H,I,h⟩
def ë(h:PT X c t):sV X [c] t:=λaa s U H Q I hw=>wpAny_tests_one (h aa s U H Q I hw)
def l7(cap:List (Option Nat))(U:St):St:=cap.map λo=>o.bind λj=>(U[j]?).bind id
def yV(cap:List (Option Nat))(wi:TI)(g:TG)(tt:TT)(te:TE):TE:=λU H Q=>wi U H λJ H1=>∀l,H1 l=none ->
 ∃W:Nat->Nat->St->Hp->List V->Prop,(∃m,W 0 m (l7 cap U) (upd H1 l (.lst [])) [])/\∀i m U' H' ag,W i m U' H' ag ->
  (J.stop i H'/\Q (.ref l) H') \/
  (J.go i H'/\ag.length<sizeLine/\∀x H2,J.yld i H' x H2->g x U' H2 λU2 H3=>tt U2 H3 λok H4=>
   if ok=true then te U2 H4 λy H5=>H5 l=some (.lst ag)/\∃m',m'<m/\W (i+1) m' U2 (upd H5 l (.lst (ag++[y]))) (ag++[y])
   else ∃m',m'<m/\W (i+1) m' U2 H4 ag)
section
variable{X:Cx}
def Ñ{scope:Scope}{fp:List Aw}{N:List Bg}{cap:List (Option Nat)}{tk:Nat}(I:d4 X aa U H s)(hk:scope.kind = .function)(aA:∀y∈scope.names,y.2 = .cell->scope.names.lookup y.1=some .cell)(az:oE X scope s h1 cl)(bC:∀x∈scope.names,x.2 = .free->scope.names.lookup x.1=some .free)(bd:∀(i j:Nat),cap[i]?=some (some j)->∃x,N[i]?=some x/\X.N[j]?=some x/\scope.names.lookup x=some .free/\(X.env.scope.names.lookup x=some .cell\/X.env.scope.names.lookup x=some .free))(ab:cap.length=N.length)(fO:∀b∈fp,qK X aa H b)(dE:∀b∈fp,∃o,s.heap.get? b=some o)(br:h1.Ns s.heap.objs.size m)(keep:∀b o,s.heap.get? b=some o->h1.get? b=some o):
  d4 (Q7 X N scope cl s.heap.objs.size fp s H) [] (l7 cap U) H { s with heap:=h1,toks:=tk }:=by
 have kk:∀x,(compEnvC scope cl s.heap.objs.size X.env).kindOf x=(relabel scope X.env).names.lookup x:=λx=>rfl
 have nost:∀b∈fp,b∉oO X.stack:=λb hb z=>by
  obtain⟨_,f1,f2,_⟩:=fO b hb;rcases Ad.mp (I.stkSub b z) with e|e
  .exact f1 e
  .exact f2 e
 have ic:∀b∈fp,b<s.heap.objs.size:=λb hb=>by obtain⟨o,e⟩:=dE b hb;exact Ao e
 have lts:∀x c,X.env.cells.lookup x=some c->c<s.heap.objs.size:=λx c e=>by obtain⟨v,o,ho,_⟩:=I.cell x c e;exact Ao ho
 have fro:∀x c,(x,Bs)∈scope.names->cl.lookup x=some c->X.env.cells.lookup x=some c:=λx c hx e=>by
  rcases az.old x c e with z|⟨_,_,z⟩
  .exact z.1
  .have z1:=bC _ hx rfl;have z2:=aA _ z rfl;rw[z1]at z2;cases z2
 have eE:∀x,((relabel scope X.env).names.lookup x=some .cell\/(relabel scope X.env).names.lookup x=some .free)->((x,Bs)∈scope.names\/(x,Dd)∈scope.names):=λx hx=>by
  have nc:∀{k},scope.names.lookup x=some k->(x,k)∈scope.names:=λh=>C0 h;rcases hx with hx|hx
  .rcases IG hx with z|⟨_,z⟩
   .exact .inr (nc z)
   .exact .inl (nc z)
  .rcases IG hx with z|⟨z,_⟩
   .exact .inl (nc z)
   .cases z
 refine⟨⟨I.ok.mod,hk,I.ok.glob,I.ok.blt,Ak _,λx y c e1 e2=>?inj,λx hx=>az.has x (eE x hx),λx c hx e=>?cab,I.ok.hd,I.ok.frames,.inl rfl,λb hb=>?exf,I.bs,B3 I.ok.bsz I.sz,λb o e hb=>?noex,nost,I.stack,I.stkFree⟩,
  rfl,I.bare,Un.kept keep,⟨m,br,λi x v e1 e2 e3=>?loc⟩,λx c e=>?cell,I.hok.fresh (Ak _),λx c e=>?freeC,λp hp=>absurd (show p∈([]:jA) from hp) (by simp),I.hok.kept keep,?len⟩
 case inj=>
  rcases az.old x c e1 with⟨z,_⟩|⟨z,_⟩
  .rcases az.old y c e2 with⟨z',_⟩|⟨z',_⟩
   .exact I.ok.inj x y c z z'
   .exact absurd (Dp z' (lts x c z)) (Dk _)
  .exact az.inj x y c e1 e2 z
 case freeC=>
  rcases az.old x c e with⟨z,_⟩|⟨z,_⟩
  .exact I.freeC x c z
  .exact I.hok.fresh (De z)
 case cab=>
  have aG:(match scope.names.lookup x with|some .local=>true|some .cell=>true|_=>false)=true:=hx;rcases az.old x c e with⟨_,z⟩|⟨z,_⟩
  .have:=bC _ z rfl
   rw[this]at aG;cases aG
  .exact De z
 case exf=>
  refine⟨At (ic b hb),λx c e=>?_⟩;rcases az.old x c e with⟨z,_⟩|⟨z,_⟩
  .exact(fO b hb).2.2.2.2.1 x c z
  .intro q;rw[q]at z;exact absurd (Dp z (ic b hb)) (Dk _)
 case noex=>
  obtain⟨_,_,_,f3,_⟩:=fO b hb;rcases f3 with z|z
  .exact I.ok.noex b o e z
  .exact absurd (Ba (Ao (I.ok.bs b o e).1) z) (Dk _)
 case loc=>
  have hc:∃j,cap[i]?=some (some j)/\U[j]?=some (some v):=by
   unfold l7 at e2;rw[As]at e2
   cases fT:cap[i]? with
   |none=>rw[fT]at e2;cases e2
   |some o=>
    rw[fT]at e2
    cases o with
    |none=>cases e2
    |some j=>
     refine⟨j,rfl,?_⟩;have eu:(U[j]?).bind id=some v:=Bb e2
     cases hs:U[j]? with
     |none=>rw[hs]at eu;cases eu
     |some q=>
      rw[hs]at eu
      have:q=some v:=eu
      rw[this]
  obtain⟨j,hj,hv⟩:=hc;obtain⟨y,n1,n2,n3,n4⟩:=bd i j hj
  have exy:y=x:=by
   have:N[i]?=some x:=e1
   rw[n1]at this;exact Bb this
  subst exy;obtain⟨mm,hm,hl⟩:=I.loc;obtain⟨u,r,cr⟩:=hl j y v n2 hv (.inr n4);refine⟨u,r,.inr ⟨NB n3,?_⟩⟩;rcases cr with⟨k,_⟩|⟨k,c,e,z⟩
  .have k':X.env.scope.names.lookup y=some .local:=k;rw[k']at n4;rcases n4 with q|q<;>cases q
  .obtain⟨c',be⟩:=az.has y (.inl (C0 n3))
   have:=fro y c' (C0 n3) be
   rw[e]at this;cases this;obtain⟨o,ho,hd⟩:=z;exact⟨c,be,o,keep _ _ ho,hd⟩
 case cell=>
  rcases az.old x c e with⟨z,_⟩|⟨_,z,_⟩
  .obtain⟨v,o,ho,hd⟩:=I.cell x c z;exact⟨v,o,keep _ _ ho,hd⟩
  .exact⟨_,z⟩
 case len=>unfold l7;rw[A0];exact ab
def Oo{cap:List (Option Nat)}(hc:X.calm=true)(hi:PI X ae af wi)(hg:∀cl C fp s H,PG (Q7 X N scope cl C fp s H) ae g)(ht:∀cl C fp s H,sV (Q7 X N scope cl C fp s H) ba tt)(he:∀cl C fp s H,PE (Q7 X N scope cl C fp s H) aT te)(hk:scope.kind = .function)(aA:∀y∈scope.names,y.2 = .cell->scope.names.lookup y.1=some .cell)(aW:∀x∈scope.names,x.2 = .local->scope.names.lookup x.1=some .local)(bC:∀x∈scope.names,x.2 = .free->scope.names.lookup x.1=some .free)(cp:∀x∈scope.names,x.2 = .free->X.env.scope.names.lookup x.1=some .cell\/X.env.scope.names.lookup x.1=some .free)(bd:∀(i j:Nat),cap[i]?=some (some j)->∃x,N[i]?=some x/\X.N[j]?=some x/\scope.names.lookup x=some .free)(ab:cap.length=N.length)(hs:∀x,C3 af X.env x=Cj x)(I:d4 X aa U H s)(h:yV cap wi g tt te U H Q)(post:∀{s3 s6:Am} {H3 H5:Hp} {U5:St} {cs:List (Bg×Aw)} {fp:List Aw} {l:Aw} {r:Flow},d4 X aa U H3 s3->d4 (Q7 X N scope cs s3.heap.objs.size fp s3 H3) [] U5 H5 s6->(∀b∈fp,qK X aa H3 b)->Q (.ref l) H5->compPost (B2 X.prog X.w) X.A X.xe use Qf (.ref l) s3.heap.objs.size (.ok r) s6):
  Ar (B2 X.prog X.w) X.A (comprehension (.ListComp aT [⟨ae,af,ba,0⟩] scope pos) scope X.env pc (Mj []) false (Bz af X.env) use) Qf X.xe s:=by
 obtain⟨cl,hU,az,eU⟩:=LG (env:=X.env) (scope:=scope) λx hx hf=>I.ok.has x.1 (cp x hx hf);refine wpAny_comprehension_free (use:=use) rfl hs hU hk aW ?_;show Ar _ _ (Bz af X.env) _ _ s;refine lC (hi aa s U H _ I h) λv s1 h1=>lC h1 λitv s2 h2=>?_;obtain⟨it,fp,tn,J,H2,rfl,I2,T,dw,f2,hW⟩:=h2;obtain⟨W,⟨m0,w0⟩,turn⟩:=hW s2.heap.objs.size I2.fresh
 refine C4 (VF (X:=X) (E:=X.xe) az eU (λx c e=>by
  obtain⟨v,o,ho,_⟩:=I2.cell x c e;show c<(Cl.push _ _).objs.size;rw[Dy]
  exact Ca (Ao ho)) (λcs h4 m4 br dD cS=>?_))
 dsimp only at br dD ⊢;have I3:d4 X aa U (upd H2 s2.heap.objs.size (.lst [])) { s2 with heap:=s2.heap.push { cls:=.type "list",dict:=none,data:=.seq ([]:List Ac).toArray } }:=I2.lnew (its:=[]) (t':=s2.toks) .nil (Bh _);generalize hs3:({ s2 with heap:=s2.heap.push { cls:=.type "list",dict:=none,data:=.seq ([]:List Ac).toArray } }:Am)=s3 at I3
 have gp:s2.heap.push { cls:=.type "list",dict:=none,data:=.seq ([]:List Ac).toArray }=s3.heap:=by rw[<-hs3]
 have hsz3:s3.heap.objs.size=s2.heap.objs.size+1:=by rw[<-gp,Dy]
 rw[gp]at br dD;have eW:∀b o,s3.heap.get? b=some o->h4.get? b=some o:=dD;have jg:oE X scope s3 h4 cs:=⟨λx c e=>by rw[<-gp];exact cS.old x c e,cS.has,λx y c e1 e2 hc=>cS.inj x y c e1 e2 (by rw[<-gp]at hc;exact hc)⟩
 have fpn:∀b∈fp,(upd H2 s2.heap.objs.size (.lst [])) b=none/\qK X aa (upd H2 s2.heap.objs.size (.lst [])) b:=λb hb=>by
  obtain⟨o,e,_⟩:=T.obj 0 _ dw b hb;have ne:b≠s2.heap.objs.size:=At (Ao e)
  have z:(upd H2 s2.heap.objs.size (.lst [])) b=none:=by rw[v9 ne];exact(f2 b hb).1
  exact⟨z,z,(f2 b hb).2⟩
 have dE:∀b∈fp,∃o,s3.heap.get? b=some o:=λb hb=>by obtain⟨o,e,_⟩:=T.obj 0 _ dw b hb;exact⟨o,by rw[<-gp];exact A8 _ e⟩
 have I4:∀tk,d4 (Q7 X N scope cs s3.heap.objs.size fp s3 (upd H2 s2.heap.objs.size (.lst []))) [] (l7 cap U) (upd H2 s2.heap.objs.size (.lst [])) { s3 with heap:=h4,toks:=tk }:=λtk=>
  Ñ I3 hk aA jg bC (λi j e=>by
   obtain⟨x,n1,n2,n3⟩:=bd i j e
   exact⟨x,n1,n2,n3,cp _ (C0 n3) rfl⟩) ab (λb hb=>(fpn b hb).2) dE br eW
 have st4:tn 0 h4:=T.keep _ _ _ dw λb _ o e=>eW b o (by rw[<-gp];exact A8 _ e)
 have cF:∀{H':Hp},(∀b∈fp,H' b=none)->∀b∈fp,qK (Q7 X N scope cs s3.heap.objs.size fp s3 (upd H2 s2.heap.objs.size (.lst []))) [] H' b:=λ{H'} hn b hb=>by
  obtain⟨o,e⟩:=dE b hb;obtain⟨_,f1,f3,_,f5,_⟩:=f2 b hb;refine⟨hn b hb,At (Ao e),λz=>?_,.inl hb,λx c e=>(jg.old x c e).elim (λz=>f5 x c z.1) (λz q=>absurd (Ao (q▸‹s3.heap.get? b=some o›)) (Nat.not_lt.mpr (De z.1))),λp hp=>absurd (show p∈([]:jA) from hp) (by simp)⟩;rcases Ad.mp (I3.stkSub b z) with e'|e'
  .exact f1 e'
  .exact f3 e'
 have loop:∀s4:Am,s4={ s3 with heap:=h4,toks:=s2.toks+([]:List (Bg×Ac)).length } ->
   E8 (B2 X.prog X.w) X.A (.compLoop (.ListComp aT [⟨ae,af,ba,0⟩] scope pos) 0 (.ref it) (.ref s2.heap.objs.size) (compEnvC scope cs s3.heap.objs.size X.env))
    (compPost (B2 X.prog X.w) X.A X.xe use Qf (.ref s2.heap.objs.size) s3.heap.objs.size) s4:=by
  rintro s4 rfl;refine U9 (λn s'=>∃i U' H' ag,d4 (Q7 X N scope cs s3.heap.objs.size fp s3 (upd H2 s2.heap.objs.size (.lst []))) [] U' H' s'/\tn i s'.heap/\(∀b∈fp,H' b=none)/\W i n U' H' ag) ?_ m0 ⟨0,_,_,[],I4 _,st4,λb hb=>(fpn b hb).1,w0⟩;rintro n s5 ⟨i,U5,H5,ag,I5,gq,fr5,w5⟩;rcases turn i n U5 H5 ag w5 with⟨stop,q⟩|⟨go,hz,step⟩
  .refine lC (T.done (Q7 X N scope cs s3.heap.objs.size fp s3 (upd H2 s2.heap.objs.size (.lst []))) rfl rfl rfl hc i [] s5 U5 H5 _ I5 (cF fr5) gq stop) λr s6 ⟨hr,I6⟩=>?_;subst hr;exact post I3 I6 (λb hb=>(fpn b hb).2) q
  .refine lC (T.item (Q7 X N scope cs s3.heap.objs.size fp s3 (upd H2 s2.heap.objs.size (.lst []))) rfl rfl rfl hc i [] s5 U5 H5 _ I5 (cF fr5) gq go) λr s6 ⟨u,hr,h6⟩=>?_;subst hr;refine lC h6 λ_ s7 ⟨x,H7,I7,r7,y7,st7,fr7⟩=>?_;have I7':=I7.pinned (cF fr7) (T.obj _ _ st7);refine lC (hg _ _ _ _ _ _ s7 U5 H7 x u _ I7' r7 (step x H7 y7)) λ_ s8 ⟨U8,H8,I8,q8⟩=>?_;refine lC (ht _ _ _ _ _ _ s8 U8 H8 _ I8 q8) λok s9 ⟨H9,I9,q9⟩=>?_
   have Mq:∀{s':Am} {U':St} {H':Hp} {aV:List V} {m':Nat},d4 (Q7 X N scope cs s3.heap.objs.size fp s3 (upd H2 s2.heap.objs.size (.lst []))) ([]++AQ fp s7.heap) U' H' s'->m'<n->W (i+1) m' U' H' aV ->
     ∃m,m<n/\∃i U'' iz ag,d4 (Q7 X N scope cs s3.heap.objs.size fp s3 (upd H2 s2.heap.objs.size (.lst []))) [] U'' iz s'/\tn i s'.heap/\(∀b∈fp,iz b=none)/\W i m U'' iz ag:=λ{s' U' H' aV m'} I' hm w'=>by
    refine⟨m',hm,i+1,U',H',aV,I'.unpinned,T.keep _ _ _ st7 λb hb o e=>(I'.pin (b,o) (Ab _ (Ab _ (CZ hb e)))).1,λb hb=>?_,w'⟩;obtain⟨o,e,d⟩:=T.obj _ _ st7 b hb;exact(I'.pin (b,o) (Ab _ (Ab _ (CZ hb e)))).2.1
   cases ok with
   |false=>rw[if_neg B0]at q9;obtain⟨m',hm,w'⟩:=q9;exact Mq I9 hm w'
   |true=>
    rw[if_pos rfl]at q9;show Ar _ _ (Bz aT _) _ _ s9;refine jG (he _ _ _ _ _ _ s9 U8 H9 _ I9 q9) λxv s10 y H10 I10 r10 ⟨hl10,m',hm,w'⟩=>?_;refine jG (KS _ s10 U8 H10 (.ref s2.heap.objs.size) [y] (.ref s2.heap.objs.size) [xv] (λ(_:V) (H':Hp)=>H'=upd H10 s2.heap.objs.size (.lst (ag++[y]))) I10 rfl (.cons r10 .nil) ⟨_,ag,y,rfl,rfl,hl10,hz,rfl⟩) λ_ s11 _ H11 I11 _ e11=>?_;have e11':H11=upd H10 s2.heap.objs.size (.lst (ag++[y])):=e11
    subst e11';exact Mq I11 hm w'
 have hx:∀s4:Am,s4={ s3 with heap:=h4,toks:=s2.toks+([]:List (Bg×Ac)).length }->tn 0 s4.heap:=by rintro s4 rfl;exact st4
 subst hs3;exact codeAny_compStart_list (loop _ rfl) (T.self X.A 0 _ _ _ (hx _ rfl) (loop _ rfl))
def JC{cap:List (Option Nat)}(hc:X.calm=true)(hi:PI X ae af wi)(hg:∀cl C fp s H,PG (Q7 X N scope cl C fp s H) ae g)(ht:∀cl C fp s H,sV (Q7 X N scope cl C fp s H) ba tt)(he:∀cl C fp s H,PE (Q7 X N scope cl C fp s H) aT te)(hk:scope.kind = .function)(aA:∀y∈scope.names,y.2 = .cell->scope.names.lookup y.1=some .cell)(aW:∀x∈scope.names,x.2 = .local->scope.names.lookup x.1=some .local)(bC:∀x∈scope.names,x.2 = .free->scope.names.lookup x.1=some .free)(cp:∀x∈scope.names,x.2 = .free->X.env.scope.names.lookup x.1=some .cell\/X.env.scope.names.lookup x.1=some .free)(bd:∀(i j:Nat),cap[i]?=some (some j)->∃x,N[i]?=some x/\X.N[j]?=some x/\scope.names.lookup x=some .free)(ab:cap.length=N.length)(hs:∀x,C3 af X.env x=Cj x:=by intro _;rfl):
  PE X (.ListComp aT [⟨ae,af,ba,0⟩] scope pos) (yV cap wi g tt te):=by
 intro aa s U H Q I h;rw[eval_ListComp];refine Oo (use:=none) hc hi hg ht he hk aA aW bC cp bd ab hs I h λ{s3 s6 H3 H5 U5 cs fp l r} I3 I6 fO q=>?_;obtain⟨m6,hn6,_⟩:=I6.loc;refine⟨m6,hn6,λh' sb=>?_⟩
 have dX:∀b u,H5 b=some u->b≠s3.heap.objs.size:=λb u e z=>by
  subst z
  have:=I6.free
  rw[show H5 s3.heap.objs.size=none from this]at e;cases e
 refine⟨.ref l,H5,?_,rfl,q⟩;refine I3.call' (s':={ s6 with heap:=h' }) (ch:=fp) I6.os ?_ (λb u e=>?_) I6.bare (λb hb=>?_)
 .have u6:Un (oO X.stack) fp H3 H5 s3.heap s6.heap:=I6.base;have ex:∀b o,s3.heap.get? b=some o->∀o',s6.heap.get? b=some o'->h'.get? b=some o':=λb o e o' e'=>(sb.2 b (At (Ao e))).trans e';exact⟨λb o e n hb hx=>ex b o e _ (u6.keep b o e n hb hx),λb o e n hb hx=>let ⟨sl,z⟩:=u6.slot b o e n hb hx;⟨sl,ex b o e _ z⟩,u6.free,λb o e hx=>let ⟨o',z⟩:=u6.there b o e hx;⟨o',ex b o e _ z⟩,u6.tups,u6.frzs,u6.tbls⟩
 .refine(I6.hok b u e).stay (λc v be q'=>(sb.2 c ?_).trans q') (λ_ q'=>q') (λ_ _ q'=>q') λ_ _ _ q'=>q';rcases be with rfl|be
  .exact dX _ _ e
  .exact dX _ _ be
 .obtain⟨_,f1,_,f3,f5,f6⟩:=fO b hb;exact⟨f3,f1,f5,f6⟩
end
def i7{a1 a2 a3 a4 a5 a6:Sort _}{p q r:a1->a2->a3->a4->a5->a6->Prop}{C:Prop}(h:∃a b c d e f,p a b c d e f/\q a b c d e f/\r a b c d e f)(k:∀a b c d e f,p a b c d e f->q a b c d e f->r a b c d e f->C):C:=by obtain⟨a,b,c,d,e,f,x,y,z⟩:=h;exact k a b c d e f x y z
inductive D where
 |non
 |bl (b:Bool)
 |int (i:Int)
 |str (x:Bg)
 |tup (xs:List D)
 |lst (xs:List D)
 |dct (ks:List f7) (vs:List D)
mutual
def i5(K:A5)(H:Hp):D->V->Prop
 | .non,v=>v=V.non
 | .bl b,v=>v=V.bl b
 | .int i,v=>v=V.int i
 | .str x,v=>v=V.str x
 | .tup ds,v=>∃a xs,v=V.ref a/\jF K H a xs/\J3 K H ds xs
 | .lst ds,v=>∃a xs,v=V.ref a/\jE K H a xs/\J3 K H ds xs
 | .dct ks ds,v=>∃a kvs,v=V.ref a/\H a=some (HO.dK kvs)/\kvs.map (·.1)=ks/\J3 K H ds (kvs.map (·.2))
def J3(K:A5)(H:Hp):List D->List V->Prop
 | [],xs=>xs=[]
 |d::ds,xs=>∃v vs,xs=v::vs/\i5 K H d v/\J3 K H ds vs
end
section
variable{K:A5}{H H':Hp}
def j3:i5 K H (.tup ds) v↔∃a xs,v=V.ref a/\jF K H a xs/\J3 K H ds xs:=by rw[i5]
def K3:i5 K H (.lst ds) v↔∃a xs,v=V.ref a/\jE K H a xs/\J3 K H ds xs:=by rw[i5]
def l0:i5 K H (.dct ks ds) v↔∃a kvs,v=V.ref a/\H a=some (HO.dK kvs)/\kvs.map (·.1)=ks/\J3 K H ds (kvs.map (·.2)):=by rw[i5]
def v8:i5 K H (.int i) v↔v=V.int i:=by rw[i5]
def Q3:i5 K H (.bl i) v↔v=V.bl i:=by rw[i5]
def l5:i5 K H (.str i) v↔v=V.str i:=by rw[i5]
def mD:i5 K H .non v↔v=V.non:=by rw[i5]
def K7:J3 K H [] xs↔xs=[]:=by rw[J3]
def j9{d:D}{ds:List D}:J3 K H (d::ds) xs↔∃v vs,xs=v::vs/\i5 K H d v/\J3 K H ds vs:=by rw[J3]
def j6(e:J0 H H')(h:jF K H a xs):jF K H' a xs:=by
 rcases h with (h|⟨o,h⟩)|h
 .exact .inl (.inl (e _ _ h))
 .exact .inl (.inr ⟨o,e _ _ h⟩)
 .exact .inr h
mutual
theorem i5.mono(e:J0 H H'):∀{d:D} {v:V},i5 K H d v->i5 K H' d v
 | .non,_,h=>by rw[mD]at h ⊢;exact h
 | .bl _,_,h=>by rw[Q3]at h ⊢;exact h
 | .int _,_,h=>by rw[v8]at h ⊢;exact h
 | .str _,_,h=>by rw[l5]at h ⊢;exact h
 | .tup ds,_,h=>by rw[j3]at h ⊢;obtain⟨a,xs,h1,h2,h3⟩:=h;exact⟨a,xs,h1,j6 e h2,J3.mono e h3⟩
 | .lst ds,_,h=>by rw[K3]at h ⊢;obtain⟨a,xs,h1,h2,h3⟩:=h;exact⟨a,xs,h1,e.seq h2,J3.mono e h3⟩
 | .dct ks ds,_,h=>by rw[l0]at h ⊢;obtain⟨a,kvs,h1,h2,h3,h4⟩:=h;exact⟨a,kvs,h1,e _ _ h2,h3,J3.mono e h4⟩
theorem J3.mono(e:J0 H H'):∀{ds:List D} {xs:List V},J3 K H ds xs->J3 K H' ds xs
 | [],_,h=>by rw[K7]at h ⊢;exact h
 |d::ds,_,h=>by rw[j9]at h ⊢;obtain⟨v,vs,h1,h2,h3⟩:=h;exact⟨v,vs,h1,i5.mono e h2,J3.mono e h3⟩
end
theorem J3.length:∀{ds:List D} {xs:List V},J3 K H ds xs->ds.length=xs.length
 | [],_,h=>by rw[K7]at h;subst h;rfl
 |d::ds,_,h=>by rw[j9]at h;obtain⟨v,vs,rfl,_,h3⟩:=h;rw[Av,Av,J3.length h3]
theorem J3.get:∀{ds:List D} {xs:List V} {i:Nat} {d:D},J3 K H ds xs->ds[i]?=some d->∃v,xs[i]?=some v/\i5 K H d v
 | [],_,_,_,_,e=>by simp at e
 |d::ds,_,i,d',h,e=>by
  rw[j9]at h;obtain⟨v,vs,rfl,h2,h3⟩:=h
  cases i with
  |zero=>simp at e;subst e;exact⟨v,rfl,h2⟩
  |succ i=>simpa using J3.get (i:=i) h3 (by simpa using e)
theorem J3.at:∀{ds:List D} {xs:List V} {i:Nat} {v:V},J3 K H ds xs->xs[i]?=some v->∃d,ds[i]?=some d/\i5 K H d v
 | [],_,_,_,h,e=>by rw[K7]at h;subst h;simp at e
 |d::ds,_,i,v',h,e=>by
  rw[j9]at h;obtain⟨v,vs,rfl,h2,h3⟩:=h
  cases i with
  |zero=>simp at e;subst e;exact⟨d,rfl,h2⟩
  |succ i=>simpa using J3.at (i:=i) h3 (by simpa using e)
theorem J3.append:∀{ds es:List D} {xs ys:List V},J3 K H ds xs->J3 K H es ys->J3 K H (ds++es) (xs++ys)
 | [],_,_,_,h,h'=>by rw[K7]at h;subst h;exact h'
 |d::ds,_,_,_,h,h'=>by rw[j9]at h;obtain⟨v,vs,rfl,h2,h3⟩:=h;exact j9.mpr ⟨v,_,rfl,h2,J3.append h3 h'⟩
def J3.one(h:i5 K H d v):J3 K H [d] [v]:=j9.mpr ⟨v,[],rfl,h,K7.mpr rfl⟩
def J3.cons(h:i5 K H d v)(t:J3 K H ds xs):J3 K H (d::ds) (v::xs):=j9.mpr ⟨v,xs,rfl,h,t⟩
def J3.nil:J3 K H [] []:=K7.mpr rfl
theorem J3.take:∀{ds:List D} {xs:List V} (n:Nat),J3 K H ds xs->J3 K H (ds.take n) (xs.take n)
 |_,_,0,_=>K7.mpr rfl
 | [],_,n+1,h=>by rw[K7]at h;subst h;exact K7.mpr rfl
 |d::ds,_,n+1,h=>by rw[j9]at h;obtain⟨v,vs,rfl,h2,h3⟩:=h;exact J3.cons h2 (J3.take n h3)
theorem J3.drop:∀{ds:List D} {xs:List V} (n:Nat),J3 K H ds xs->J3 K H (ds.drop n) (xs.drop n)
 |_,_,0,h=>h
 | [],_,n+1,h=>by rw[K7]at h;subst h;exact K7.mpr rfl
 |d::ds,_,n+1,h=>by rw[j9]at h;obtain⟨v,vs,rfl,h2,h3⟩:=h;exact J3.drop n h3
theorem J3.eraseIdx:∀{ds:List D} {xs:List V} (n:Nat),J3 K H ds xs->J3 K H (ds.eraseIdx n) (xs.eraseIdx n)
 | [],_,n,h=>by rw[K7]at h;subst h;exact K7.mpr rfl
 |d::ds,_,0,h=>by rw[j9]at h;obtain⟨v,vs,rfl,h2,h3⟩:=h;exact h3
 |d::ds,_,n+1,h=>by rw[j9]at h;obtain⟨v,vs,rfl,h2,h3⟩:=h;exact J3.cons h2 (J3.eraseIdx n h3)
theorem J3.rep(h:J3 K H ds xs):∀k:Nat,J3 K H (Bf k ds).flatten (Bf k xs).flatten
 | 0=>K7.mpr rfl
 |k+1=>by rw[E2,E2,Fa,Fa];exact J3.append h (J3.rep h k)
theorem Y6:∀{ns:List Int} {xs:List V},J3 K H (ns.map D.int) xs↔xs=ns.map V.int
 | [],xs=>by rw[G6,K7,G6]
 |n::ns,xs=>by
  rw[Aj,j9,Aj];constructor
  .rintro ⟨v,vs,rfl,h2,h3⟩;rw[v8]at h2;rw[Y6]at h3;rw[h2,h3]
  .rintro rfl;exact⟨_,_,rfl,v8.mpr rfl,Y6.mpr rfl⟩
end
def K5(Z:List Aw)(H:Hp):Hp:=λb=>if b∈Z then none else H b
section
variable{Z B:List Aw}{H H':Hp}{a:Aw}{o:HO}
def ň(h:a∈Z):K5 Z H a=none:=if_pos h
def Q6(h:a∉Z):K5 Z H a=H a:=if_neg h
def Y7(h:K5 Z H a=some o):a∉Z/\H a=some o:=by
 by_cases hz:a∈Z
 .rw[ň hz]at h;cases h
 .rw[Q6 hz]at h;exact⟨hz,h⟩
def w9:J0 (K5 Z H) H:=λb o h=>(Y7 h).2
def w6(e:J0 H H'):J0 (K5 Z H) (K5 Z H'):=λb o h=>by obtain⟨h1,h2⟩:=Y7 h;rw[Q6 h1];exact e b o h2
def rG(h:∀b∈B,b∈Z):J0 (K5 Z H) (K5 B H):=λb o q=>by obtain⟨h1,h2⟩:=Y7 q;rw[Q6 λz=>h1 (h b z)];exact h2
def rH(hn:H a=none)(e:J0 H H'):J0 (K5 Z H) (K5 (a::Z) H'):=λb u q=>by
 obtain⟨h1,h2⟩:=Y7 q
 have ne:b≠a:=λz=>by rw[z,hn]at h2;cases h2
 rw[Q6 (by rw[Ad];exact λz=>z.elim ne h1)]
 exact e b u h2
def rD(h:a∈Z):J0 (K5 Z H) (K5 Z (upd H a o)):=λb u q=>by
 obtain⟨h1,h2⟩:=Y7 q;have ne:b≠a:=λz=>h1 (by rw[z];exact h)
 rw[Q6 h1,v9 ne];exact h2
def j8(hn:H a=none):J0 H (upd H a o):=λb u q=>by rw[v9 (Z3 q hn)];exact q
def uJ{H0:Hp}(hn:H0 a=none)(e:J0 H0 H):J0 H0 (upd H a o):=λb u q=>by
 have ne:b≠a:=λz=>by rw[z,hn]at q;cases q
 rw[v9 ne];exact e b u q
end
inductive OC where
 |l (ds:List D)
 |d (ks:List f7) (vs:List D)
inductive Cell where
 |sh (d:D)
 |ow (ds:List D)
 |od (ks:List f7) (vs:List D)
def Cell.oc:Cell->Option OC
 | .sh _=>none
 | .ow ds=>some (.l ds)
 | .od ks vs=>some (.d ks vs)
def OC.cell:OC->Cell
 | .l ds=>.ow ds
 | .d ks vs=>.od ks vs
def OC.dat:OC->D
 | .l ds=>.lst ds
 | .d ks vs=>.dct ks vs
def OC.cell_oc(c:OC):c.cell.oc=some c:=by cases c<;>rfl
def pU(K:A5)(H:Hp):OC->HO->Prop
 | .l ds,o=>∃xs,o=HO.lst xs/\J3 K H ds xs
 | .d ks ds,o=>∃kvs,o=HO.dK kvs/\kvs.map (·.1)=ks/\J3 K H ds (kvs.map (·.2))
theorem pU.mono{K:A5}{H H':Hp}(e:J0 H H'):∀{c:OC} {o:HO},pU K H c o->pU K H' c o
 | .l ds,o,⟨xs,h1,h2⟩=>⟨xs,h1,h2.mono e⟩
 | .d ks ds,o,⟨kvs,h1,h2,h3⟩=>⟨kvs,h1,h2,h3.mono e⟩
theorem pU.rep{K:A5}{H:Hp}{a:Aw}:∀{c:OC} {o:HO},pU K H c o->H a=some o->i5 K H c.dat (.ref a)
 | .l ds,o,⟨xs,h1,h2⟩,e=>K3.mpr ⟨a,xs,rfl,jE.of (by rw[e,h1]),h2⟩
 | .d ks ds,o,⟨kvs,h1,h2,h3⟩,e=>l0.mpr ⟨a,kvs,rfl,by rw[e,h1],h2,h3⟩
abbrev J5:=List (Option Cell)
abbrev EL:=J5->Option (List D)
abbrev ED:=J5->Option D
abbrev EB:=J5->Option Bool
abbrev LD:=List D->Option D
abbrev sC(d:D):Option Cell:=some (.sh d)
def Ra:List Bg:=["ties_over","queue_pages","hardest_tie","as_laid_on"]
def BB(vs:Array Ac):Bool:=match (vs[1]?:Option Ac) with|some (.str q _)=>Ra.contains q|_=>false
def TB(K:A5)(H:Hp):Prop:=∀c o vs P,K.lookup c=some o->o.cls = .type "code"->o.data = .fields vs->vs[11]?=some (.ref P)->K.lookup P=none->BB vs=true ->
 ∃q t,vs[1]?=some (.str q t)/\H P=some (.tbl #[.str q 0])
def TB.mono{K:A5}{H H':Hp}(h:TB K H)(e:J0 H H'):TB K H':=λc o vs P h1 h2 h3 h4 h5 h6=>let ⟨q,t,e1,e2⟩:=h c o vs P h1 h2 h3 h4 h5 h6;⟨q,t,e1,e _ _ e2⟩
def TB.upd{K:A5}{H:Hp}{a:Aw}{o u:HO}(h:TB K H)(ha:H a=some u)(hu:∀ps,u≠.tbl ps):TB K (upd H a o):=λc ob vs P h1 h2 h3 h4 h5 h6=>by
 obtain⟨q,t,e1,e2⟩:=h c ob vs P h1 h2 h3 h4 h5 h6;refine⟨q,t,e1,?_⟩;rw[v9]
 .exact e2
 .rintro rfl;rw[e2]at ha;exact hu _ (Bb ha).symm
theorem pU.notbl{K:A5}{H:Hp}:∀{c:OC} {o:HO},pU K H c o->∀ps,o≠.tbl ps
 | .l ds,o,⟨xs,h1,_⟩,ps=>by rw[h1];intro z;cases z
 | .d ks ds,o,⟨kvs,h1,_⟩,ps=>by rw[h1];intro z;cases z
structure SR(K:A5)(B:List Aw)(H0 V0 H:Hp)(Z:List Aw)(U:St)(Y:J5):Prop where
 same:J0 H0 H
 tb:TB K H
 vis:J0 V0 (K5 Z H)
 sub:∀b∈B,b∈Z
 zs:∀z∈Z,∃o,H z=some o
 sh:∀(i:Nat) d,Y[i]?=some (some (.sh d))->∃v,U[i]?=some (some v)/\i5 K (K5 Z H) d v
 own:∀(i:Nat) (c:OC),Y[i]?=some (some c.cell)->∃a o,U[i]?=some (some (.ref a))/\a∈Z/\a∉B/\H0 a=none/\H a=some o/\pU K (K5 Z H) c o
 inj:∀(i j:Nat) (c e:OC) a,Y[i]?=some (some c.cell)->Y[j]?=some (some e.cell)->U[i]?=some (some (.ref a))->U[j]?=some (some (.ref a))->i=j
 len:U.length=Y.length
section
variable{K:A5}{B Z:List Aw}{H0 V0 H H':Hp}{U:St}{Y:J5}
def SR.ow(r:SR K B H0 V0 H Z U Y)(i:Nat)(ds:List D)(h:Y[i]?=some (some (.ow ds))):∃a xs,U[i]?=some (some (.ref a))/\a∈Z/\a∉B/\H0 a=none/\H a=some (.lst xs)/\J3 K (K5 Z H) ds xs:=by obtain⟨a,o,h1,h2,h3,h4,h5,xs,rfl,h7⟩:=r.own i (.l ds) h;exact⟨a,xs,h1,h2,h3,h4,h5,h7⟩
def SR.od(r:SR K B H0 V0 H Z U Y)(i:Nat)(ks:List f7)(ds:List D)(h:Y[i]?=some (some (.od ks ds))):∃a kvs,U[i]?=some (some (.ref a))/\a∈Z/\a∉B/\H0 a=none/\H a=some (.dK kvs)/\kvs.map (·.1)=ks/\J3 K (K5 Z H) ds (kvs.map (·.2)):=by obtain⟨a,o,h1,h2,h3,h4,h5,kvs,rfl,h7,h8⟩:=r.own i (.d ks ds) h;exact⟨a,kvs,h1,h2,h3,h4,h5,h7,h8⟩
def SR.mono(r:SR K B H0 V0 H Z U Y)(e:J0 H H'):SR K B H0 V0 H' Z U Y:=
 ⟨r.same.trans e,r.tb.mono e,r.vis.trans (w6 e),r.sub,λz hz=>let ⟨o,h⟩:=r.zs z hz;⟨o,e _ _ h⟩,
  λi d h=>let ⟨v,h1,h2⟩:=r.sh i d h;⟨v,h1,h2.mono (w6 e)⟩,
  λi c h=>let ⟨a,o,h1,h2,hb,h3,h4,h5⟩:=r.own i c h;⟨a,o,h1,h2,hb,h3,e _ _ h4,h5.mono (w6 e)⟩,r.inj,r.len⟩
def SR.vis'(r:SR K B H0 V0 H Z U Y)(e:J0 V1 (K5 Z H)):SR K B H0 V1 H Z U Y:=
 ⟨r.same,r.tb,e,r.sub,r.zs,r.sh,r.own,r.inj,r.len⟩
def SR.newer(r:SR K B H0 V0 H Z U Y)(h:H a=none):a∉Z:=λz=>by obtain⟨o,e⟩:=r.zs a z;rw[h]at e;cases e
def SR.more(r:SR K B H0 V0 H Z U Y){o:HO}(hn:H a=none)(e:J0 H H')(ha:H' a=some o):SR K B H0 V0 H' (a::Z) U Y:=
 ⟨r.same.trans e,r.tb.mono e,r.vis.trans (rH hn e),λb hb=>A7 _ (r.sub b hb),λz hz=>(Ad.mp hz).elim (λq=>⟨o,q▸ha⟩) λq=>let ⟨u,h⟩:=r.zs z q;⟨u,e _ _ h⟩,
  λi d h=>let ⟨v,h1,h2⟩:=r.sh i d h;⟨v,h1,h2.mono (rH hn e)⟩,
  λi c h=>let ⟨b,o,h1,h2,hb,h3,h4,h5⟩:=r.own i c h;⟨b,o,h1,A7 _ h2,hb,h3,e _ _ h4,h5.mono (rH hn e)⟩,r.inj,r.len⟩
def mM{α:Type}{Y:List (Option α)}{i j:Nat}{x y:α}(q:(Y.set i (some x))[j]?=some (some y)):(i=j/\x=y/\i<Y.length)\/(i≠j/\Y[j]?=some (some y)):=by
 by_cases hj:i=j
 .subst hj
  have hl:i<Y.length:=by
   have:=(Ax.mp q).1
   rw[Cm]at this;exact this
  rw[C7 hl]at q;cases q;exact .inl ⟨rfl,rfl,hl⟩
 .rw[Bc hj]at q;exact .inr ⟨hj,q⟩
def oU{c:OC}:Cell.sh d=c.cell->False:=λe=>by cases c<;>cases e
def QO{c e:OC}(h:c.cell=e.cell):c=e:=by
 have:=congrArg Cell.oc h
 rw[c.cell_oc,e.cell_oc]at this;exact Bb this
def SR.set(r:SR K B H0 V0 H Z U Y)(h:i5 K (K5 Z H) d v):SR K B H0 V0 H Z (U.set i (some v)) (Y.set i (some (.sh d))):=by
 refine⟨r.same,r.tb,r.vis,r.sub,r.zs,λj e q=>?_,λj c q=>?_,λj k c e a q1 q2 s1 s2=>?_,by rw[Cm,Cm];exact r.len⟩
 .rcases mM q with⟨rfl,z,hl⟩|⟨hj,q⟩
  .cases z;exact⟨v,C7 (by rw[r.len];exact hl),h⟩
  .obtain⟨u,h1,h2⟩:=r.sh j e q;exact⟨u,by rw[Bc hj];exact h1,h2⟩
 .rcases mM q with⟨_,z,_⟩|⟨hj,q⟩
  .exact(oU z).elim
  .obtain⟨a,o,h1,h2⟩:=r.own j c q;exact⟨a,o,by rw[Bc hj];exact h1,h2⟩
 .rcases mM q1 with⟨_,z,_⟩|⟨n1,q1⟩
  .exact(oU z).elim
  rcases mM q2 with⟨_,z,_⟩|⟨n2,q2⟩
  .exact(oU z).elim
  rw[Bc n1]at s1;rw[Bc n2]at s2;exact r.inj j k c e a q1 q2 s1 s2
def SR.setO(r:SR K B H0 V0 H Z U Y){a:Aw}{o:HO}(hz:a∈Z)(hb:a∉B)(h0:H0 a=none)(hH:H a=some o)(h:pU K (K5 Z H) c o)(hn:∀(j:Nat) (e:OC),Y[j]?=some (some e.cell)->U[j]?≠some (some (.ref a))):SR K B H0 V0 H Z (U.set i (some (.ref a))) (Y.set i (some c.cell)):=by
 refine⟨r.same,r.tb,r.vis,r.sub,r.zs,λj e q=>?_,λj e q=>?_,λj k fs gs b q1 q2 s1 s2=>?_,by rw[Cm,Cm];exact r.len⟩
 .rcases mM q with⟨_,z,_⟩|⟨hj,q⟩
  .exact(oU z.symm).elim
  .obtain⟨u,h1,h2⟩:=r.sh j e q;exact⟨u,by rw[Bc hj];exact h1,h2⟩
 .rcases mM q with⟨rfl,z,hl⟩|⟨hj,q⟩
  .have:=QO z
   subst this;exact⟨a,o,C7 (by rw[r.len];exact hl),hz,hb,h0,hH,h⟩
  .obtain⟨a',o',h1,h2⟩:=r.own j e q;exact⟨a',o',by rw[Bc hj];exact h1,h2⟩
 .rcases mM q1 with⟨e1,_,hl⟩|⟨n1,q1⟩
  .rcases mM q2 with⟨e2,_,_⟩|⟨n2,q2⟩
   .rw[<-e1,<-e2]
   .subst e1;rw[C7 (by rw[r.len];exact hl)]at s1
    cases s1;rw[Bc n2]at s2;exact absurd s2 (hn k gs q2)
  .rw[Bc n1]at s1;rcases mM q2 with⟨e2,_,hl⟩|⟨n2,q2⟩
   .subst e2;rw[C7 (by rw[r.len];exact hl)]at s2
    cases s2;exact absurd s1 (hn j fs q1)
   .rw[Bc n2]at s2;exact r.inj j k fs gs b q1 q2 s1 s2
def SR.updC(r:SR K B H0 V0 H Z U Y){i:Nat}{c e:OC}(hi:Y[i]?=some (some c.cell))(hs:U[i]?=some (some (.ref a)))(h:pU K (K5 Z H) e o):
  SR K B H0 V0 (upd H a o) Z U (Y.set i (some e.cell)):=by
 obtain⟨a',o',s1,hz,hb,h0,hH,hld⟩:=r.own i c hi;rw[hs]at s1;cases s1;have vs:J0 (K5 Z H) (K5 Z (upd H a o)):=rD hz;refine⟨uJ h0 r.same,r.tb.upd hH hld.notbl,r.vis.trans vs,r.sub,λz q=>?_,λj d q=>?_,λj f q=>?_,λj k fs gs b q1 q2 s1 s2=>?_,by rw[Cm];exact r.len⟩
 .by_cases e:z=a
  .subst e;exact⟨_,v4⟩
  .obtain⟨o,ho⟩:=r.zs z q;exact⟨o,by rw[v9 e];exact ho⟩
 .rcases mM q with⟨_,z,_⟩|⟨n,q⟩
  .exact(oU z.symm).elim
  .obtain⟨u,h1,h2⟩:=r.sh j d q;exact⟨u,h1,h2.mono vs⟩
 .rcases mM q with⟨rfl,z,_⟩|⟨n,q⟩
  .have:=QO z
   subst this;exact⟨a,o,hs,hz,hb,h0,v4,h.mono vs⟩
  .obtain⟨b,zs,t1,t2,tb,t3,t4,t5⟩:=r.own j f q
   have ne:b≠a:=λz=>by subst z;exact n (r.inj i j _ _ b hi q hs t1)
   exact⟨b,zs,t1,t2,tb,t3,by rw[v9 ne];exact t4,t5.mono vs⟩
 .have g:∀{m:Nat} {fs:OC},(Y.set i (some e.cell))[m]?=some (some fs.cell)->∃fs':OC,Y[m]?=some (some fs'.cell):=λ{m fs} q=>by
   rcases mM q with⟨rfl,_,_⟩|⟨_,q⟩
   .exact⟨c,hi⟩
   .exact⟨fs,q⟩
  obtain⟨f1,p1⟩:=g q1;obtain⟨f2,p2⟩:=g q2;exact r.inj j k f1 f2 b p1 p2 s1 s2
def SR.updO(r:SR K B H0 V0 H Z U Y){i:Nat}(hi:Y[i]?=some (some (.ow ds)))(hs:U[i]?=some (some (.ref a)))(h:J3 K (K5 Z H) es ys):
  SR K B H0 V0 (upd H a (.lst ys)) Z U (Y.set i (some (.ow es))):=r.updC (c:=.l ds) (e:=.l es) hi hs ⟨ys,rfl,h⟩
end
def tD(K:A5)(f:ED):TE:=λU H Q=>∃Y d B H0 V0 Z,f Y=some d/\SR K B H0 V0 H Z U Y/\∀v H',J0 H H'->i5 K (K5 Z H') d v->Q v H'
def tQ(K:A5)(f:EL):TE:=λU H Q=>∃Y ds B H0 V0 Z,f Y=some ds/\SR K B H0 V0 H Z U Y/\∀a xs H',J0 H H'->(jE K H' a xs\/jF K (K5 Z H') a xs)->J3 K (K5 Z H') ds xs->Q (.ref a) H'
def tF(K:A5)(f:EL):TE:=λU H Q=>∃Y ds B H0 V0 Z,f Y=some ds/\SR K B H0 V0 H Z U Y/\∀a xs H',J0 H H'->H a=none->H' a=some (.lst xs)->J3 K (K5 (a::Z) H') ds xs->Q (.ref a) H'
def tT(K:A5)(f:EB):TT:=λU H Q=>∃Y b B H0 V0 Z,f Y=some b/\SR K B H0 V0 H Z U Y/\∀H',J0 H H'->Q b H'
def tL(K:A5)(f:EL):TA:=λU H Q=>∃Y ds B H0 V0 Z,f Y=some ds/\SR K B H0 V0 H Z U Y/\∀xs H',J0 H H'->J3 K (K5 Z H') ds xs->Q xs H'
structure qR(K:A5)(V:Hp)(J:It)(ds:List D):Prop where
 go:∀H',J0 V H'->∀i,i<ds.length->J.go i H'
 yld:∀H',J0 V H'->∀(i:Nat) x H3,J.yld i H' x H3->J0 H' H3/\∀d,ds[i]?=some d->∀Z:List Aw,(∀z∈Z,∃o,H' z=some o)->J0 V (K5 Z H')->i5 K (K5 Z H3) d x
 stop:∀H',J0 V H'->J.stop ds.length H'
def tI(K:A5)(f:EL):TI:=λU H R=>∃Y ds B H0 V0 Z,f Y=some ds/\SR K B H0 V0 H Z U Y/\∀J H',J0 H H'->qR K (K5 Z H') J ds->R J H'
inductive Out where
 |nx (Y:J5)
 |bk (Y:J5)
 |ct (Y:J5)
 |rt (d:D)
abbrev EO:=J5->Option Out
def ZR(K:A5)(B:List Aw)(H0 V0:Hp)(E:qU):Out->Prop
 | .nx Y=>∀U H Z,SR K B H0 V0 H Z U Y->E.nx U H
 | .bk Y=>∀U H Z,SR K B H0 V0 H Z U Y->E.bk U H
 | .ct Y=>∀U H Z,SR K B H0 V0 H Z U Y->E.ct U H
 | .rt d=>∀v H,J0 H0 H->i5 K (K5 B H) d v->E.rt v H
def tS(K:A5)(g:EO):TS:=λE U H=>∃Y o B H0 V0 Z,g Y=some o/\SR K B H0 V0 H Z U Y/\ZR K B H0 V0 E o
def tG(K:A5)(h:D->J5->Option J5):TG:=λv U H Q=>∃Y d Y' B H0 V0 Z,h d Y=some Y'/\SR K B H0 V0 H Z U Y/\i5 K (K5 Z H) d v/\∀U',SR K B H0 V0 H Z U' Y'->Q U' H
def ϫ(K:A5)(h:List D->J5->Option J5):xE:=λvs U H Q=>∃Y ds Y' B H0 V0 Z,h ds Y=some Y'/\SR K B H0 V0 H Z U Y/\J3 K (K5 Z H) ds vs/\∀U',SR K B H0 V0 H Z U' Y'->Q U' H
abbrev SE(X:Cx)(e:Expr)(f:ED):Prop:=PE X e (tD X.K f)
structure ZE(X:Cx)(e:Expr)(f:ED):Prop where
 h:SE X e f
abbrev SQ(X:Cx)(e:Expr)(f:EL):Prop:=PE X e (tQ X.K f)
structure ZQ(X:Cx)(e:Expr)(f:EL):Prop where
 h:SQ X e f
abbrev SF(X:Cx)(e:Expr)(f:EL):Prop:=PE X e (tF X.K f)
structure ZF(X:Cx)(e:Expr)(f:EL):Prop where
 h:SF X e f
abbrev xF(X:Cx)(e:Expr)(f:EB):Prop:=PT X e (tT X.K f)
structure ZT(X:Cx)(e:Expr)(f:EB):Prop where
 h:xF X e f
abbrev ϴ(X:Cx)(e:Expr)(f:EB):Prop:=PW X e (tT X.K f)
structure ZW(X:Cx)(e:Expr)(f:EB):Prop where
 h:ϴ X e f
abbrev SA(X:Cx)(es:List Expr)(f:EL):Prop:=PA X es (tL X.K f)
structure ZA(X:Cx)(e:List Expr)(f:EL):Prop where
 h:SA X e f
abbrev SI(X:Cx)(tg e:Expr)(f:EL):Prop:=PI X tg e (tI X.K f)
structure ZI(X:Cx)(tg e:Expr)(f:EL):Prop where
 h:SI X tg e f
abbrev SS(X:Cx)(st:Db)(g:EO):Prop:=PS X st (tS X.K g)
structure ZS(X:Cx)(e:Db)(f:EO):Prop where
 h:SS X e f
abbrev GT(X:Cx)(st:List Db)(g:EO):Prop:=nV X st (tS X.K g)
structure ZB(X:Cx)(e:List Db)(f:EO):Prop where
 h:GT X e f
abbrev SG(X:Cx)(e:Expr)(h:D->J5->Option J5):Prop:=PG X e (tG X.K h)
structure ZG(X:Cx)(e:Expr)(f:D->J5->Option J5):Prop where
 h:SG X e f
abbrev ϶(X:Cx)(es:List Expr)(h:List D->J5->Option J5):Prop:=xG X es (ϫ X.K h)
structure GR(X:Cx)(e:List Expr)(f:List D->J5->Option J5):Prop where
 h:϶ X e f
structure ZP(X:Cx)(ba:List Expr)(f:EB):Prop where
 h:sV X ba (tT X.K f)
section
variable{X:Cx}{e:Expr}
def u9{t t':TE}(h:PE X e t)(w:∀U H Q,t' U H Q->t U H Q):PE X e t':=λaa s U H Q I q=>h aa s U H Q I (w U H Q q)
def p8{t t':TT}(h:PT X e t)(w:∀U H Q,t' U H Q->t U H Q):PT X e t':=λaa s U H Q I q=>h aa s U H Q I (w U H Q q)
def Qy{t t':TT}(h:PW X e t)(w:∀U H Q,t' U H Q->t U H Q):PW X e t':=λwh aa s U H Q I q=>h wh aa s U H Q I (w U H Q q)
def Qq{t t':TA}(h:PA X es t)(w:∀U H Q,t' U H Q->t U H Q):PA X es t':=λpos aa s U H Q I q=>h pos aa s U H Q I (w U H Q q)
def uB{t t':TI}(h:PI X tg e t)(w:∀U H Q,t' U H Q->t U H Q):PI X tg e t':=λaa s U H Q I q=>h aa s U H Q I (w U H Q q)
def nJ{st:Db}{t t':TS}(h:PS X st t)(w:∀E U H,t' E U H->t E U H):PS X st t':=λaa s U H E I q=>h aa s U H E I (w E U H q)
def KD{st:List Db}{t t':TS}(h:nV X st t)(w:∀E U H,t' E U H->t E U H):nV X st t':=λaa s U H E I q=>h aa s U H E I (w E U H q)
def Qt{t t':TG}(h:PG X e t)(w:∀v U H Q,t' v U H Q->t v U H Q):PG X e t':=λaa s U H v u Q I r q=>h aa s U H v u Q I r (w v U H Q q)
def Rs{t t':xE}(h:xG X es t)(w:∀v U H Q,t' v U H Q->t v U H Q):xG X es t':=λaa s U H v u Q I r q=>h aa s U H v u Q I r (w v U H Q q)
end
def f9:Nat:=100000
def wR{n:Nat}(h:n<=f9):n<=sizeLine:=by rw[C1];unfold f9 at h;omega
def yG{n:Nat}(h:n<=f9):n<sizeLine:=by rw[C1];unfold f9 at h;omega
def z7(i:Nat):ED:=λY=>match Y[i]? with|some (some (.sh d))=>some d|_=>none
def kU(i:Nat):EL:=λY=>match Y[i]? with|some (some (.ow ds))=>some ds|_=>none
def dC(d:D):ED:=λ_=>some d
def Op{d:D}(e:z7 i Y=some d):Y[i]?=some (some (.sh d)):=by
 unfold z7 at e;split at e
 .rename_i h;cases e;exact h
 .cases e
def uH{d:List D}(e:kU i Y=some d):Y[i]?=some (some (.ow d)):=by
 unfold kU at e;split at e
 .rename_i h;cases e;exact h
 .cases e
section
variable{X:Cx}
def d3(i:Nat){x:Bg}(hN:X.N[i]?=some x:=by rfl)(hv:mX X.env.scope x:=by first|exact Dg rfl|exact Cp (Dg rfl)|exact Cp (Cp rfl))(hd:(x==("__debug__":Bg))=false:=by decide)(aO:(x==("__classdict__":Bg))=false:=by decide):ZE X (.Name x pos) (z7 i):=
 ⟨u9 (nX hN hv hd aO) λU H Q h_=>by
  refine i7 h_ λY d B H0 V0 Z e r q=>?_;obtain⟨v,h1,h2⟩:=r.sh i d (Op e)
  exact⟨v,h1,q v H (J0.refl H) h2⟩⟩
def qv(i:Nat){x:Bg}(hN:X.N[i]?=some x:=by rfl)(hv:mX X.env.scope x:=by first|exact Dg rfl|exact Cp (Dg rfl)|exact Cp (Cp rfl))(hd:(x==("__debug__":Bg))=false:=by decide)(aO:(x==("__classdict__":Bg))=false:=by decide):SQ X (.Name x pos) (kU i):=u9 (nX hN hv hd aO) λU H Q h_=>by refine i7 h_ λY ds B H0 V0 Z e r q=>?_;obtain⟨a,xs,h1,h2,hb,h3,h4,h5⟩:=r.ow i ds (uH e);exact⟨.ref a,h1,q a xs H (J0.refl H) (.inl (jE.of h4)) h5⟩
def GA(h:PE X e (tC v))(hr:∀H,i5 X.K H d v):SE X e (dC d):=u9 h λU H Q h_=>by refine i7 h_ λY d' B H0 V0 Z e r q=>?_;cases e;exact q v H (J0.refl H) (hr _)
def y6{i j pos}:ZE X (.Constant (.int i) j pos) (dC (.int i)):=
 ⟨GA ė λ_=>v8.mpr rfl⟩
def mB{b j pos}:ZE X (.Constant (.bool b) j pos) (dC (.bl b)):=
 ⟨GA Zp λ_=>Q3.mpr rfl⟩
def sL{j pos}:ZE X (.Constant .none j pos) (dC .non):=
 ⟨GA Ę λ_=>mD.mpr rfl⟩
def W5{x j pos}:ZE X (.Constant (.str x) j pos) (dC (.str x)):=
 ⟨GA Ĝ λ_=>l5.mpr rfl⟩
end
def d8(f:ED):EL:=λY=>match f Y with|some (.lst ds)=>some ds|some (.tup ds)=>some ds|_=>none
def kX(f:EL):ED:=λY=>(f Y).map D.lst
section
variable{X:Cx}{e:Expr}
def FZ(h:SE X e f):SQ X e (d8 f):=
 u9 h λU H Q h_=>by
  refine i7 h_ λY ds B H0 V0 Z e r q=>?_;unfold d8 at e;split at e
  .rename_i es he;cases e
   exact⟨Y,_,B,H0,V0,Z,he,r,λv H' s hr=>by
    obtain⟨a,xs,rfl,h2,h3⟩:=K3.mp hr
    exact q a xs H' s (.inl (w9.seq h2)) h3⟩
  .rename_i es he;cases e
   exact⟨Y,_,B,H0,V0,Z,he,r,λv H' s hr=>by
    obtain⟨a,xs,rfl,h2,h3⟩:=j3.mp hr
    exact q a xs H' s (.inr h2) h3⟩
  .cases e
def pL(h:ZF X e f):ZE X e (kX f):=
 ⟨have h:=h.h;
 u9 h λU H Q h_=>by
  refine i7 h_ λY d B H0 V0 Z e r q=>?_;unfold kX at e;obtain⟨ds,he,rfl⟩:=Bj.mp e;refine⟨Y,ds,B,H0,V0,Z,he,r,λa xs H' s hn ha hr=>q _ H' s (K3.mpr ⟨a,xs,rfl,jE.of ?_,hr.mono (rG λb hb=>A7 _ hb)⟩)⟩;rw[Q6 (r.newer hn)]
  exact ha⟩
def vE(h:ZF X e f):ZQ X e f:=
 ⟨have h:=h.h;
 u9 h λU H Q ⟨Y,ds,B,H0,V0,Z,e,r,q⟩=>
  ⟨Y,ds,B,H0,V0,Z,e,r,λa xs H' s hn ha hr=>q a xs H' s (.inl (jE.of ha)) (hr.mono (rG λb hb=>A7 _ hb))⟩⟩
end
def lI(K:A5)(r:R2)(g:D->D->Option D):Prop:=∀x y d,g x y=some d->∀(Z:List Aw) (H:Hp) (u v:V) (Q:VK),(∀z∈Z,∃o,H z=some o)->i5 K (K5 Z H) x u->i5 K (K5 Z H) y v->(∀w' H',J0 H H'->i5 K (K5 Z H') d w'->Q w' H')->r u v H Q
def d2(g:D->D->Option D)(fa fb:ED):ED:=λY=>match fa Y with|some x=>(match fb Y with|some y=>g x y|none=>none)|none=>none
def y9(f:ED):EB:=λY=>match f Y with|some (.bl b)=>some b|_=>none
def PX{d:D}(e:d2 g fa fb Y=some d):∃x y,fa Y=some x/\fb Y=some y/\g x y=some d:=by
 unfold d2 at e;split at e
 .rename_i x hx;split at e
  .rename_i y hy;exact⟨x,y,hx,hy,e⟩
  .cases e
 .cases e
section
variable{X:Cx}{a b c:Expr}{fa fb fc:ED}{pos:Gm}
def IS{K:A5}{r:R2}{g:D->D->Option D}(hr:lI K r g):∀U H Q,tD K (d2 g fa fb) U H Q->zF r (tD K fa) (tD K fb) U H Q:=
 λU H Q h_=>by
  refine i7 h_ λY d B H0 V0 Z e r q=>?_;obtain⟨x,y,ex,ey,e⟩:=PX e
  exact⟨Y,x,B,H0,V0,Z,ex,r,λu H1 s1 r1=>⟨Y,y,B,H0,V0,Z,ey,r.mono s1,λv H2 s2 r2=>
   hr x y d e Z H2 u v Q ((r.mono s1).mono s2).zs (r1.mono (w6 s2)) r2 λw' H' s rr=>q w' H' (s1.trans (s2.trans s)) rr⟩⟩
def uE{K:A5}{f:ED}:∀U H Q,tT K (y9 f) U H Q->tD K f U H (λx H'=>∃k,x = .bl k/\Q k H'):=
 λU H Q h_=>by
  refine i7 h_ λY b B H0 V0 Z e r q=>?_;unfold y9 at e;split at e
  .rename_i b' hb;cases e;exact⟨Y,_,B,H0,V0,Z,hb,r,λv H' s rr=>⟨b,Q3.mp rr,q H' s⟩⟩
  .cases e
def AS(ho:kG X (Gn op) r)(hr:lI X.K r g)(ha:SE X a fa)(hb:SE X b fb):SE X (.BinOp a op b pos) (d2 g fa fb):=u9 (RY ho ha hb) (IS hr)
def LX(ho:kG X (Ce op) r)(hr:lI X.K r g)(ha:SE X a fa)(hb:SE X b fb)(hm:Cs op b=false):SE X (.Compare a [op] [b] pos) (d2 g fa fb):=u9 (Qr ho ha hb hm) (IS hr)
def wS(ho:kG X (Ce op) r)(hr:lI X.K r g)(ha:SE X a fa)(hb:SE X b fb)(hm:Cs op b=false):xF X (.Compare a [op] [b] pos) (y9 (d2 g fa fb)):=p8 (JE ho ha hb hm) λU H Q h=>IS hr _ _ _ (uE U H Q h)
def nQ(h:ZE X a f)(he:∀aL,isTrue a X.env aL=(do let v <-aL;Jx a.pos;Gx [v] (Mm v)):=by intro _;rfl):ZT X a (y9 f):=
 ⟨have h:=h.h;
 p8 (ģ h he) λU H Q h=>uE U H Q h⟩
def nP(g g':D->D->Option D)(fa fb fc:ED):ED:=λY=>match fa Y with
 |some x=>(match fb Y with
  |some y=>(match g x y with
   |some (.bl true)=>(match fc Y with|some z=>g' y z|none=>none)
   |some (.bl false)=>some (.bl false)
   |_=>none)
  |none=>none)
 |none=>none
def Ol{K:A5}{r r':R2}{g g':D->D->Option D}(hr:lI K r g)(je:lI K r' g'):∀U H Q,tD K (nP g g' fa fb fc) U H Q->LY r r' (tD K fa) (tD K fb) (tD K fc) U H Q:=
 λU H Q h_=>by
  refine i7 h_ λY d B H0 V0 Z e r q=>?_;unfold nP at e;split at e
  .rename_i x ex;split at e
   .rename_i y ey;refine⟨Y,x,B,H0,V0,Z,ex,r,λu H1 s1 r1=>⟨Y,y,B,H0,V0,Z,ey,r.mono s1,λv H2 s2 r2=>?_⟩⟩;have R2:=(r.mono s1).mono s2;split at e
    .rename_i eg;split at e
     .rename_i z ez;refine hr x y _ eg Z H2 u v _ R2.zs (r1.mono (w6 s2)) r2 λk H3 s3 r3=>⟨true,Q3.mp r3,sZ ?_⟩
      exact⟨Y,z,B,H0,V0,Z,ez,R2.mono s3,λw' H4 s4 r4=>je y z d e Z H4 v w' Q ((R2.mono s3).mono s4).zs (r2.mono (w6 (s3.trans s4))) r4 λk' H5 s5 r5=>
       q k' H5 (s1.trans (s2.trans (s3.trans (s4.trans s5)))) r5⟩
     .cases e
    .rename_i eg;cases e;exact hr x y _ eg Z H2 u v _ R2.zs (r1.mono (w6 s2)) r2 λk H3 s3 r3=>⟨false,Q3.mp r3,vA (q _ H3 (s1.trans (s2.trans s3)) (Q3.mpr rfl))⟩
    .cases e
   .cases e
  .cases e
def OW(ho:kG X (Ce op) r)(hr:lI X.K r g)(bh:kG X (Ce op') r')(je:lI X.K r' g')(ha:ZE X a fa)(hb:ZE X b fb)(hc:ZE X c fc)(hm:Mf [op,op'] [b,c]=false:=by with_unfolding_all rfl):ZE X (.Compare a [op,op'] [b,c] pos) (nP g g' fa fb fc):=
 ⟨have ha:=ha.h;
 have hb:=hb.h;
 have hc:=hc.h;
 u9 (å ho bh ha hb hc hm) (Ol hr je)⟩
def KY(ho:kG X (Ce op) r)(hr:lI X.K r g)(bh:kG X (Ce op') r')(je:lI X.K r' g')(ha:ZE X a fa)(hb:ZE X b fb)(hc:ZE X c fc)(hm:Mf [op,op'] [b,c]=false:=by with_unfolding_all rfl):ZT X (.Compare a [op,op'] [b,c] pos) (y9 (nP g g' fa fb fc)):=
 ⟨have ha:=ha.h;
 have hb:=hb.h;
 have hc:=hc.h;
 p8 (î ho bh ha hb hc hm) λU H Q h=>Ol hr je _ _ _ (uE U H Q h)⟩
def o4(fa fb:ED):ED:=λY=>match fa Y with|some (.bl true)=>fb Y|some (.bl false)=>some (.bl false)|_=>none
def yZ(fa:ED):ED:=λY=>match fa Y with|some (.bl b)=>some (.bl (!b))|_=>none
def oQ(fa fb:EB):EB:=λY=>match fa Y with|some true=>fb Y|some false=>some false|none=>none
def lM(fa fb:EB):EB:=λY=>match fa Y with|some true=>some true|some false=>fb Y|none=>none
def kN(fa:EB):EB:=λY=>(fa Y).map (!·)
variable{rest:List Expr}
def xQ{op}(h:ZE X a f):ZE X (.BoolOp op [a] pos) f:=
 ⟨have h:=h.h;
 Ě h⟩
def uC(ha:ZE X a fa)(hb:ZE X (.BoolOp .And (b::rest) pos) fb):ZE X (.BoolOp .And (a::b::rest) pos) (o4 fa fb):=
 ⟨have ha:=ha.h;
 have hb:=hb.h;
 u9 (Ĕ ha hb) λU H Q h_=>by
  refine i7 h_ λY d B H0 V0 Z e r q=>?_;unfold o4 at e;split at e
  .rename_i ea;exact⟨Y,_,B,H0,V0,Z,ea,r,λu H1 s1 r1=>⟨true,Q3.mp r1,sZ ⟨Y,d,B,H0,V0,Z,e,r.mono s1,λv H' s rr=>q v H' (s1.trans s) rr⟩⟩⟩
  .rename_i ea;cases e;exact⟨Y,_,B,H0,V0,Z,ea,r,λu H1 s1 r1=>⟨false,Q3.mp r1,vA (q _ H1 s1 (Q3.mpr rfl))⟩⟩
  .cases e⟩
def QJ(ha:ZE X a fa):ZE X (.UnaryOp .Not a pos) (yZ fa):=
 ⟨have ha:=ha.h;
 u9 (ę ha) λU H Q h_=>by
  refine i7 h_ λY d B H0 V0 Z e r q=>?_;unfold yZ at e;split at e
  .rename_i b' ea;cases e;exact⟨Y,_,B,H0,V0,Z,ea,r,λu H1 s1 r1=>⟨b',Q3.mp r1,q _ H1 s1 (Q3.mpr rfl)⟩⟩
  .cases e⟩
variable{ga gb:EB}
def KI(ha:ZT X a ga):ZW X (.BoolOp .And [a] pos) ga:=
 ⟨have ha:=ha.h;
 ť ha⟩
def qA(ha:ZT X a ga):ZW X (.BoolOp .Or [a] pos) ga:=
 ⟨have ha:=ha.h;
 ħ ha⟩
def JQ(ha:ZT X a ga)(hb:ZW X (.BoolOp .And (b::rest) pos) gb):ZW X (.BoolOp .And (a::b::rest) pos) (oQ ga gb):=
 ⟨have ha:=ha.h;
 have hb:=hb.h;
 Qy (Ħ ha hb) λU H Q h_=>by
  refine i7 h_ λY d B H0 V0 Z e r q=>?_;unfold oQ at e;split at e
  .rename_i ea;exact⟨Y,_,B,H0,V0,Z,ea,r,λH1 s1=>sZ ⟨Y,d,B,H0,V0,Z,e,r.mono s1,λH' s=>q H' (s1.trans s)⟩⟩
  .rename_i ea;cases e;exact⟨Y,_,B,H0,V0,Z,ea,r,λH1 s1=>vA (q H1 s1)⟩
  .cases e⟩
def oH(ha:ZT X a ga)(hb:ZW X (.BoolOp .Or (b::rest) pos) gb):ZW X (.BoolOp .Or (a::b::rest) pos) (lM ga gb):=
 ⟨have ha:=ha.h;
 have hb:=hb.h;
 Qy (Zt ha hb) λU H Q h_=>by
  refine i7 h_ λY d B H0 V0 Z e r q=>?_;unfold lM at e;split at e
  .rename_i ea;cases e;exact⟨Y,_,B,H0,V0,Z,ea,r,λH1 s1=>sZ (q H1 s1)⟩
  .rename_i ea;exact⟨Y,_,B,H0,V0,Z,ea,r,λH1 s1=>vA ⟨Y,d,B,H0,V0,Z,e,r.mono s1,λH' s=>q H' (s1.trans s)⟩⟩
  .cases e⟩
def oF(h:ZW X a ga):ZT X a ga:=
 ⟨have h:=h.h;
 PW.pt h⟩
def oJ(ha:ZT X a ga):ZT X (.UnaryOp .Not a pos) (kN ga):=
 ⟨have ha:=ha.h;
 p8 (Ģ ha) λU H Q h_=>by
  refine i7 h_ λY d B H0 V0 Z e r q=>?_;unfold kN at e;obtain⟨b',eb,rfl⟩:=Bj.mp e
  exact⟨Y,b',B,H0,V0,Z,eb,r,λH1 s1=>q H1 s1⟩⟩
def CB(fc:EB)(fa fb:ED):ED:=λY=>match fc Y with|some true=>fa Y|some false=>fb Y|none=>none
def Ŀ(hc:ZT X c ga)(ha:ZE X a fa)(hb:ZE X b fb):ZE X (.IfExp c a b pos) (CB ga fa fb):=
 ⟨have hc:=hc.h;
 have ha:=ha.h;
 have hb:=hb.h;
 u9 (è hc ha hb) λU H Q h_=>by
  refine i7 h_ λY d B H0 V0 Z e r q=>?_;unfold CB at e;split at e
  .rename_i ea;exact⟨Y,_,B,H0,V0,Z,ea,r,λH1 s1=>sZ ⟨Y,d,B,H0,V0,Z,e,r.mono s1,λv H' s rr=>q v H' (s1.trans s) rr⟩⟩
  .rename_i ea;exact⟨Y,_,B,H0,V0,Z,ea,r,λH1 s1=>vA ⟨Y,d,B,H0,V0,Z,e,r.mono s1,λv H' s rr=>q v H' (s1.trans s) rr⟩⟩
  .cases e⟩
end
def Tg:Expr->Bool
 | .Starred _ _=>false
 |_=>true
def u7{es:List Expr}(h:Tg e=true):A9 (e::es) env=(false,Bz e env)::A9 es env:=by cases e<;>first|(cases h;done)|(rw[A9];intro _ _ z;cases z)|rw[A9]
theorem J9:∀{es:List Expr},es.all Tg=true->(Bu pos (A9 es env)).any (·.1)=false
 | [],_=>rfl
 |e::es,h=>by rw[List.all_cons,Be]at h;rw[u7 h.1];have ih:=@J9 pos env es h.2;unfold Bu at ih ⊢;rw[Aj,Ek,ih];rfl
def i3:EL:=λ_=>some []
def z9(f:ED)(g:EL):EL:=λY=>match f Y with|some d=>(match g Y with|some ds=>some (d::ds)|none=>none)|none=>none
section
variable{X:Cx}{e:Expr}{es:List Expr}{f:ED}{g:EL}{pos:Gm}
def yK:SA X [] i3:=Qq W6 λU H Q h_=>by refine i7 h_ λY ds B H0 V0 Z e r q=>?_;cases e;exact q [] H (J0.refl H) J3.nil
def rA(ha:SE X e f)(hr:SA X es g)(hs:A9 (e::es) X.env=(false,Bz e X.env)::A9 es X.env:=by exact u7 rfl):SA X (e::es) (z9 f g):=
 Qq (J7 ha hr hs) λU H Q h_=>by
  refine i7 h_ λY ds B H0 V0 Z e r q=>?_;unfold z9 at e;split at e
  .rename_i d ed;split at e
   .rename_i ds' aH;cases e;exact⟨Y,d,B,H0,V0,Z,ed,r,λv H1 s1 r1=>⟨Y,ds',B,H0,V0,Z,aH,r.mono s1,λvs H2 s2 r2=>q (v::vs) H2 (s1.trans s2) (J3.cons (r1.mono (w6 s2)) r2)⟩⟩
   .cases e
  .cases e
def jW(g:EL):ED:=λY=>match g Y with|some ds=>if ds.length<=f9 then some (.tup ds) else none|none=>none
def nC(g:EL):EL:=λY=>match g Y with|some ds=>if ds.length<=f9 then some ds else none|none=>none
def Z4{x1}(h:ZA X es g):ZE X (.Tuple es x1 pos) (jW g):=
 ⟨have h:=h.h;
 u9 (ĝ h) λU H Q h_=>by
  refine i7 h_ λY d B H0 V0 Z e r q=>?_;unfold jW at e;split at e
  .rename_i ds aH;split at e
   .rename_i hl;cases e;refine⟨Y,ds,B,H0,V0,Z,aH,r,λxs H1 s1 r1=>⟨wR (by rw[<-r1.length];exact hl),λp hp=>?_⟩⟩
    have sn:=j8 (o:=HO.tup xs) hp;refine q _ _ (s1.trans sn) (j3.mpr ⟨p,xs,rfl,jF.of ?_,r1.mono (w6 sn)⟩);rw[Q6 ((r.mono s1).newer hp)];exact v4
   .cases e
  .cases e⟩
def p9(h:ZA X es g):ZF X (.List es pos) (nC g):=
 ⟨have h:=h.h;
 u9 (Td h) λU H Q h_=>by
  refine i7 h_ λY d B H0 V0 Z e r q=>?_;unfold nC at e;split at e
  .rename_i ds aH;split at e
   .rename_i hl;cases e;refine⟨Y,_,B,H0,V0,Z,aH,r,λxs H1 s1 r1=>⟨wR (by rw[<-r1.length];exact hl),λp hp=>?_⟩⟩
    exact q p xs _ (s1.trans (j8 hp)) (s1.free hp) v4 (r1.mono (rH hp (j8 hp)))
   .cases e
  .cases e⟩
def s0(K:A5)(F:LD):Sp:=λvs H Q _=>∃Z ds d,(TB K H/\∀z∈Z,∃o,H z=some o)/\J3 K (K5 Z H) ds vs/\F ds=some d/\∀v H',J0 H H'->i5 K (K5 Z H') d v->Q v H'
def x8(F:LD)(g:EL):ED:=λY=>match g Y with|some ds=>F ds|none=>none
def Ű(G:kY X.prog X.w X.K X.mg X.base m7 k f' fd ps (s0 X.K F))(hr:h9 k X.A)(hm:X.mg x=some (.ref f'))(hk:Fm X.K (.ref f')=true)(hb:wW X.K fd ps [])(ha:SA X (e::es) g)(hg:Gl X x:=by rfl)(bG:(x==("__debug__":Bg))=false:=by decide)(he:A9 (e::es) X.env=(false,Bz e X.env)::A9 es X.env:=by exact u7 rfl)(ao:(Bu pos (A9 es X.env)).any (·.1)=false:=by exact J9 rfl):
  SE X (.Call (.Name x p) (e::es) [] pos) (x8 F g):=
 u9 (ŝ G hr hg hm hk hb .nil Zo ha bG he ao) λU H Q h_=>by
  refine i7 h_ λY d B H0 V0 Z e r q=>?_;unfold x8 at e;split at e
  .rename_i ds aH;refine⟨Y,ds,B,H0,V0,Z,aH,r,λvs H1 s1 r1=>?_⟩;show s0 X.K F (vs++[]) H1 Q E0;rw[Ci];exact⟨Z,ds,d,⟨(r.mono s1).tb,(r.mono s1).zs⟩,r1,e,λv H' s rr=>q v H' (s1.trans s) rr⟩
  .cases e
end
def J8(g k:EO):EO:=λY=>match g Y with|some (.nx Y')=>k Y'|o=>o
def Y1:EO:=λY=>some (.nx Y)
def jB(f:ED):EO:=λY=>match f Y with|some d=>some (.rt d)|none=>none
def jL(c:EB)(g k:EO):EO:=λY=>match c Y with|some true=>g Y|some false=>k Y|none=>none
def i8(i:Nat)(f:ED):EO:=λY=>match f Y with|some d=>some (.nx (Y.set i (some (.sh d))))|none=>none
def qG(i:Nat)(f:EL):EO:=λY=>match f Y with|some d=>some (.nx (Y.set i (some (.ow d))))|none=>none
def ϳ(f:ED)(h:D->J5->Option J5):EO:=λY=>match f Y with|some d=>(match h d Y with|some Y'=>some (.nx Y')|none=>none)|none=>none
def u5(i:Nat):D->J5->Option J5:=λd Y=>some (Y.set i (some (.sh d)))
def qD:List D->J5->Option J5:=λds Y=>match ds with|[]=>some Y|_=>none
def mH(h:D->J5->Option J5)(k:List D->J5->Option J5):List D->J5->Option J5:=λds Y=>match ds with|d::r=>(match h d Y with|some Y'=>k r Y'|none=>none)|[]=>none
def qE(n:Nat)(k:List D->J5->Option J5):D->J5->Option J5:=λd Y=>match d with|.tup ds=>if ds.length=n then k ds Y else none|_=>none
def rM(i:Nat)(f:J5->Option (List f7×List D)):EO:=λY=>match f Y with|some d=>some (.nx (Y.set i (some (.od d.1 d.2))))|none=>none
def frz(i:Nat)(Y:J5):J5:=match Y[i]? with|some (some c)=>(match c.oc with|some o=>Y.set i (some (.sh o.dat))|none=>Y)|_=>Y
def ŕ{c:Cell}{o:OC}(h:c.oc=some o):c=o.cell:=by cases c<;>cases h<;>rfl
def Ϭ(K:A5)(f:J5->Option (List f7×List D)):TE:=λU H Q=>∃Y ds B H0 V0 Z,f Y=some ds/\SR K B H0 V0 H Z U Y/\∀a kvs H',J0 H H'->H a=none->H' a=some (.dK kvs)->kvs.map (·.1)=ds.1->J3 K (K5 (a::Z) H') ds.2 (kvs.map (·.2))->Q (.ref a) H'
abbrev Ϸ(X:Cx)(e:Expr)(f:J5->Option (List f7×List D)):Prop:=PE X e (Ϭ X.K f)
structure GS(X:Cx)(e:Expr)(f:J5->Option (List f7×List D)):Prop where
 h:Ϸ X e f
section
variable{X:Cx}{st:Db}{rest:List Db}{e c:Expr}{pos:Gm}{f:ED}{g k:EO}
def K6:ZB X [] Y1:=
 ⟨KD Ť λE U H h_=>by
 refine i7 h_ λY o B H0 V0 Z e r q=>?_;cases e
 exact q U H Z r⟩
def y3(h1:ZS X st g)(h2:ZB X rest k):ZB X (st::rest) (J8 g k):=
 ⟨have h1:=h1.h;
 have h2:=h2.h;
 KD (EV h1 h2) λE U H h_=>by
  refine i7 h_ λY o B H0 V0 Z e r q=>?_;unfold J8 at e;split at e
  .rename_i Y' eg;exact⟨Y,_,B,H0,V0,Z,eg,r,λU' H' Z' r'=>⟨Y',o,B,H0,V0,Z',e,r',q⟩⟩
  .rename_i ak;refine⟨Y,o,B,H0,V0,Z,e,r,?_⟩
   cases o with
   |nx Y'=>exact absurd e (ak Y')
   |bk Y'=>exact q
   |ct Y'=>exact q
   |rt d=>exact q⟩
def y8(h1:ZS X st g):ZB X [st] g:=
 ⟨have h1:=h1.h;
 JD h1⟩
def v6(h:ZE X e f):ZS X (.Return (some e) pos) (jB f):=
 ⟨have h:=h.h;
 nJ (LU h) λE U H h_=>by
 refine i7 h_ λY o B H0 V0 Z e r q=>?_;unfold jB at e;split at e
 .rename_i d ed;cases e;exact⟨Y,d,B,H0,V0,Z,ed,r,λv H' s rr=>q v H' (r.same.trans s) (rr.mono (rG r.sub))⟩
 .cases e⟩
def Y5(hc:ZT X c fc)(ha:ZB X a g)(hb:ZB X b k):ZS X (.If c a b pos) (jL fc g k):=
 ⟨have hc:=hc.h;
 have ha:=ha.h;
 have hb:=hb.h;
 nJ (Zr hc ha hb) λE U H h_=>by
  refine i7 h_ λY o B H0 V0 Z e r q=>?_;unfold jL at e;split at e
  .rename_i ec;exact⟨Y,true,B,H0,V0,Z,ec,r,λH' s=>sZ ⟨Y,o,B,H0,V0,Z,e,r.mono s,q⟩⟩
  .rename_i ec;exact⟨Y,false,B,H0,V0,Z,ec,r,λH' s=>vA ⟨Y,o,B,H0,V0,Z,e,r.mono s,q⟩⟩
  .cases e⟩
def g9{i:Nat}{x:Bg}(he:ZE X e f)(hN:X.N.Nodup)(hi:X.N[i]?=some x:=by rfl)(hx:nG X.env.scope x:=by first|exact Dg rfl|exact Cp rfl)(hs:Dz e (some (.Name x aU)) pos.line X.env=Cj false:=by rfl)(hf:X.fn x=true\/X.env.scope.names.lookup x=some .local:=by first|exact .inl rfl|exact .inr rfl):ZS X (.Assign [.Name x aU] e pos) (i8 i f):=
 ⟨have he:=he.h;
 nJ (LV hN hi hx he hs hf) λE U H h_=>by
  refine i7 h_ λY o B H0 V0 Z e r q=>?_;unfold i8 at e;split at e
  .rename_i d ed;cases e;exact⟨Y,d,B,H0,V0,Z,ed,r,λv H' s rr=>q _ H' Z ((r.mono s).set rr)⟩
  .cases e⟩
def vU{i:Nat}{x:Bg}(he:ZF X e fl)(hN:X.N.Nodup)(hi:X.N[i]?=some x:=by rfl)(hx:nG X.env.scope x:=by first|exact Dg rfl|exact Cp rfl)(hs:Dz e (some (.Name x aU)) pos.line X.env=Cj false:=by rfl)(hf:X.fn x=true\/X.env.scope.names.lookup x=some .local:=by first|exact .inl rfl|exact .inr rfl):ZS X (.Assign [.Name x aU] e pos) (qG i fl):=
 ⟨have he:=he.h;
 nJ (LV hN hi hx he hs hf) λE U H h_=>by
  refine i7 h_ λY o B H0 V0 Z e r q=>?_;unfold qG at e;split at e
  .rename_i ds ed;cases e;refine⟨Y,ds,B,H0,V0,Z,ed,r,λa xs H' s hn ha rr=>q _ H' (a::Z) ?_⟩;refine(r.more hn s ha).setO (c:=.l ds) A6 (λz=>r.newer hn (r.sub _ z)) ?_ ha ⟨_,rfl,rr⟩ λj es hj cQ=>?_
   .exact r.same.free hn
   .obtain⟨b,ys,t1,t2,_⟩:=r.own j es hj;rw[cQ]at t1;cases t1;exact r.newer hn t2
  .cases e⟩
def vT{i:Nat}{x:Bg}(he:GS X e fl)(hN:X.N.Nodup)(hi:X.N[i]?=some x:=by rfl)(hx:nG X.env.scope x:=by first|exact Dg rfl|exact Cp rfl)(hs:Dz e (some (.Name x aU)) pos.line X.env=Cj false:=by rfl)(hf:X.fn x=true\/X.env.scope.names.lookup x=some .local:=by first|exact .inl rfl|exact .inr rfl):ZS X (.Assign [.Name x aU] e pos) (rM i fl):=
 ⟨have he:=he.h;
 nJ (LV hN hi hx he hs hf) λE U H h_=>by
  refine i7 h_ λY o B H0 V0 Z e r q=>?_;unfold rM at e;split at e
  .rename_i ds ed;cases e;refine⟨Y,ds,B,H0,V0,Z,ed,r,λa xs H' s hn ha rk rr=>q _ H' (a::Z) ?_⟩;refine(r.more hn s ha).setO (c:=.d ds.1 ds.2) A6 (λz=>r.newer hn (r.sub _ z)) ?_ ha ⟨_,rfl,rk,rr⟩ λj es hj cQ=>?_
   .exact r.same.free hn
   .obtain⟨b,ys,t1,t2,_⟩:=r.own j es hj;rw[cQ]at t1;cases t1;exact r.newer hn t2
  .cases e⟩
def u4{i:Nat}{x:Bg}(hN:X.N.Nodup)(hi:X.N[i]?=some x:=by rfl)(hx:nG X.env.scope x:=by first|exact Dg rfl|exact Cp rfl)(hf:X.fn x=true\/X.env.scope.names.lookup x=some .local:=by first|exact .inl rfl|exact .inr rfl):ZG X (.Name x pos) (u5 i):=
 ⟨Qt (BD hN hi hx hf) λv U H Q h_=>by
  obtain⟨Y,d,Y',B,H0,V0,Z,e,r,rr,q⟩:=h_;cases e
  exact q _ (r.set rr)⟩
def FC:GR X [] qD:=
 ⟨Rs Qu λv U H Q h_=>by
 obtain⟨Y,ds,Y',B,H0,V0,Z,e,r,rr,q⟩:=h_;unfold qD at e;split at e
 .cases e;exact⟨K7.mp rr,q U r⟩
 .cases e⟩
def uL(h1:ZG X e h)(h2:GR X es kk)(hs:(Dx (e::es) X.env).map (·.2)=Li e X.env::(Dx es X.env).map (·.2):=by rfl):GR X (e::es) (mH h kk):=
 ⟨have h1:=h1.h;
 have h2:=h2.h;
 Rs (JZ h1 h2 hs) λv U H Q h_=>by
  obtain⟨Y,ds,Y',B,H0,V0,Z,e,r,rr,q⟩:=h_;unfold mH at e;split at e
  .rename_i d rs;split at e
   .rename_i Y1 e1;obtain⟨v',jf,rfl,t1,t2⟩:=j9.mp rr;exact⟨v',jf,rfl,Y,d,Y1,B,H0,V0,Z,e1,r,t1,λU' r'=>⟨Y1,rs,Y',B,H0,V0,Z,e,r',t2,q⟩⟩
   .cases e
  .cases e⟩
def EN{n:Nat}(hc:X.calm=true)(h:GR X es kk)(hn:(Dx es X.env).length=n:=by rfl)(bO:(Dx es X.env).findIdx? (·.1)=none:=by rfl):ZG X (.Tuple es kt pos) (qE n kk):=
 ⟨have h:=h.h;
 Qt (Tf hc h hn bO) λv U H Q h_=>by
  obtain⟨Y,d,Y',B,H0,V0,Z,e,r,rr,q⟩:=h_;unfold qE at e;split at e
  .rename_i ds;split at e
   .rename_i hl;obtain⟨a,xs,rfl,t1,t2⟩:=j3.mp rr;exact⟨a,xs,rfl,j6 w9 t1,t2.length.symm.trans hl,Y,ds,Y',B,H0,V0,Z,e,r,t2,q⟩
   .cases e
  .cases e⟩
def SR.frz{K:A5}{B Z:List Aw}{H0 V0 H:Hp}{U:St}{Y:J5}(i:Nat)(r:SR K B H0 V0 H Z U Y):∃Z',SR K B H0 V0 H Z' U (frz i Y)/\(∀b∈Z',b∈Z)/\(∀b∈Z,b∉Z'->∃(c:OC) (o:HO),Y[i]?=some (some c.cell)/\H b=some o/\pU K (K5 Z H) c o):=by
 unfold L3.frz;split
 .rename_i cc hi;split
  .rename_i c hc;have hcc:=ŕ hc;subst hcc;obtain⟨a,o,h1,h2,hnb,h3,h4,h5⟩:=r.own i c hi;have ck:∀b∈Z.filter (λb=>decide (b≠a)),b∈Z:=λb hb=>(Az.mp hb).1;have hm:J0 (K5 Z H) (K5 (Z.filter (λb=>decide (b≠a))) H):=rG ck;have hl:i<Y.length:=(Ax.mp hi).1;refine⟨Z.filter (λb=>decide (b≠a)),⟨r.same,r.tb,r.vis.trans hm,λb hb=>?_,λz hz=>r.zs z (ck z hz),λj d q=>?_,λj es q=>?_,λj k fs gs b q1 q2 s1 s2=>?_,by rw[Cm];exact r.len⟩,ck,λb hb nb=>?_⟩
   .exact Az.mpr ⟨r.sub b hb,decide_eq_true λz=>hnb (z▸hb)⟩
   .rcases mM q with⟨rfl,z,_⟩|⟨n,q⟩
    .cases z;refine⟨_,h1,(h5.mono hm).rep ?_⟩;rw[Q6 (λz=>absurd rfl (of_decide_eq_true (Az.mp z).2))];exact h4
    .obtain⟨v,t1,t2⟩:=r.sh j d q;exact⟨v,t1,t2.mono hm⟩
   .rcases mM q with⟨_,z,_⟩|⟨n,q⟩
    .exact(oU z).elim
    .obtain⟨b,ys,t1,t2,tb,t3,t4,t5⟩:=r.own j es q;refine⟨b,ys,t1,Az.mpr ⟨t2,decide_eq_true λz=>?_⟩,tb,t3,t4,t5.mono hm⟩;subst z;exact n (r.inj i j _ _ b hi q h1 t1)
   .rcases mM q1 with⟨_,z,_⟩|⟨n1,q1⟩
    .exact(oU z).elim
    rcases mM q2 with⟨_,z,_⟩|⟨n2,q2⟩
    .exact(oU z).elim
    exact r.inj j k fs gs b q1 q2 s1 s2
   .have eb:b=a:=Hd λz=>nb (Az.mpr ⟨hb,decide_eq_true z⟩);subst eb;exact⟨c,o,hi,h4,h5⟩
  .exact⟨Z,r,λ_ h=>h,λb hb nb=>absurd hb nb⟩
 .exact⟨Z,r,λ_ h=>h,λb hb nb=>absurd hb nb⟩
def vN(i:Nat)(h:ZS X st g):ZS X st (λY=>g (frz i Y)):=
 ⟨have h:=h.h;
 nJ h λE U H h_=>by
 refine i7 h_ λY o B H0 V0 Z e r q=>?_;obtain⟨Z',r',_⟩:=r.frz i
 exact⟨frz i Y,o,B,H0,V0,Z',e,r',q⟩⟩
def kH(h:D->J5->Option J5)(g:EO):List D->EO
 | [],Y=>some (.nx Y)
 |d::ds,Y=>match h d Y with
  |none=>none
  |some Y1=>match g Y1 with
   |some (.nx Y2)=>kH h g ds Y2
   |some (.ct Y2)=>kH h g ds Y2
   |some (.bk Y2)=>some (.nx Y2)
   |some (.rt v)=>some (.rt v)
   |none=>none
def lG(fi:EL)(h:D->J5->Option J5)(g:EO):EO:=λY=>match fi Y with|some ds=>kH h g ds Y|none=>none
def nB(hp:Lq (B2 X.prog X.w) X.A X.env X.xe)(hc:X.calm=true)(hi:ZI X tg af fi)(hg:ZG X tg h)(hb:ZB X body g)(hs:∀x,C3 af X.env x=Cj x:=by intro _;rfl):ZS X (.For tg af body [] pos) (lG fi h g):=
 ⟨have hi:=hi.h;
 have hg:=hg.h;
 have hb:=hb.h;
 nJ (Th hp hc hi hg hb hs) λE U H h_=>by
  refine i7 h_ λY o B H0 V0 Z e r q=>?_;unfold lG at e;split at e
  .rename_i ds aH;refine⟨Y,ds,B,H0,V0,Z,aH,r,λJ H1 s1 wk=>?_⟩;have R1:=r.mono s1;have RV:SR X.K B H0 (K5 Z H1) H1 Z U Y:=R1.vis' (λ_ _ h=>h);have ib:∀{U' H' Z' Y'},SR X.K B H0 (K5 Z H1) H' Z' U' Y'->SR X.K B H0 V0 H' Z' U' Y':=λr'=>r'.vis' (R1.vis.trans r'.vis);refine⟨λi m U' H'=>m=ds.length-i/\i<=ds.length/\∃Y' Z',SR X.K B H0 (K5 Z H1) H' Z' U' Y'/\kH h g (ds.drop i) Y'=some o,⟨_,rfl,Bh _,Y,Z,RV,e⟩,?_⟩
   rintro i m U' H' ⟨rfl,bo,Y',Z',r',e'⟩;have vis:J0 (K5 Z H1) H':=r'.vis.trans w9;by_cases ah:i<ds.length
   .refine .inr ⟨wk.go H' vis i ah,λU2 H2=>∃Y2 Z2,SR X.K B H0 (K5 Z H1) H2 Z2 U2 Y2/\kH h g (ds.drop (i+1)) Y2=some o,λU2 H2 ⟨Y2,Z2,r2,e2⟩=>⟨ds.length-(i+1),by omega,rfl,ah,Y2,Z2,r2,e2⟩,λx H3 hy=>?_⟩;obtain⟨sH,hx⟩:=wk.yld H' vis i x H3 hy;have hd:=hx ds[i] (A3 ah) Z' r'.zs r'.vis;rw[Ex ah]at e';unfold kH at e';split at e'
    .cases e'
    .rename_i Y1 e1;refine⟨Y',ds[i],Y1,B,H0,K5 Z H1,Z',e1,r'.mono sH,hd,λU4 r4=>?_⟩;split at e'
     .rename_i Y2 e2;exact⟨Y1,_,B,H0,K5 Z H1,Z',e2,r4,λU5 H5 Z5 r5=>⟨Y2,Z5,r5,e'⟩⟩
     .rename_i Y2 e2;exact⟨Y1,_,B,H0,K5 Z H1,Z',e2,r4,λU5 H5 Z5 r5=>⟨Y2,Z5,r5,e'⟩⟩
     .rename_i Y2 e2;cases e';exact⟨Y1,_,B,H0,K5 Z H1,Z',e2,r4,λU5 H5 Z5 r5=>q U5 H5 Z5 (ib r5)⟩
     .rename_i v e2;cases e';exact⟨Y1,_,B,H0,K5 Z H1,Z',e2,r4,q⟩
     .cases e'
   .have ei:i=ds.length:=by omega
    subst ei;rw[Kt]at e';unfold kH at e';cases e';exact .inl ⟨wk.stop H' vis,q U' H' Z' (ib r')⟩
  .cases e⟩
def XW{K:A5}{W0:Hp}{a:Aw}{xs:List V}{ds:List D}(h1:jE K W0 a xs)(h2:J3 K W0 ds xs):qR K W0 (Nt K a) ds where
 go:=λH' s i hi=>by obtain⟨v,hv,_⟩:=h2.get (A3 hi);exact⟨xs,v,s.seq h1,hv⟩
 yld:=λH' s i x H3 hy=>by
  obtain⟨rfl,hx⟩:=hy;refine⟨J0.refl _,λd hd Z hz hs=>?_⟩;obtain⟨v,hv,rv⟩:=h2.get hd
  have:=hx xs (s.seq h1)
  rw[hv]at this;cases this;exact rv.mono hs
 stop:=λH' s=>⟨xs,s.seq h1,by rw[h2.length];exact Ak _⟩
def Wo{K:A5}{W0:Hp}{a:Aw}{xs:List V}{ds:List D}(h1:jF K W0 a xs)(h2:J3 K W0 ds xs):qR K W0 (Nr K a) ds where
 go:=λH' s i hi=>by obtain⟨v,hv,_⟩:=h2.get (A3 hi);exact⟨xs,v,j6 s h1,hv⟩
 yld:=λH' s i x H3 hy=>by
  obtain⟨rfl,hx⟩:=hy;refine⟨J0.refl _,λd hd Z hz hs=>?_⟩;obtain⟨v,hv,rv⟩:=h2.get hd
  have:=hx xs (j6 s h1)
  rw[hv]at this;cases this;exact rv.mono hs
 stop:=λH' s=>⟨xs,j6 s h1,by rw[h2.length];exact Ak _⟩
def Q5(lo:Int)(n:Nat):List D:=(Aa n).map λ(k:Nat)=>D.int (lo+(k:Int))
def RH{K:A5}{W0:Hp}(lo:Int)(n:Nat):qR K W0 (CF lo n) (Q5 lo n) where
 go:=λH' s i hi=>by show i<n;simpa [Q5] using hi
 yld:=λH' s i x H3 hy=>by
  obtain⟨rfl,rfl⟩:=hy;refine⟨J0.refl _,λd hd Z hz hs=>?_⟩;unfold Q5 at hd;rw[As]at hd
  cases hr:(Aa n)[i]? with
  |none=>rw[hr]at hd;cases hd
  |some k=>
   rw[hr]at hd
   have ek:k=i:=by
    have:=Ax.mp hr
    obtain⟨h1,h2⟩:=this;simpa using h2.symm
   subst ek;cases hd;exact v8.mpr rfl
 stop:=λH' s=>by show n<=(Q5 lo n).length;simp[Q5]
variable{tg:Expr}
def mI(f:ED):EL:=λY=>match f Y with|some (.lst ds)=>some ds|_=>none
def LH(f:ED):EL:=λY=>match f Y with|some (.tup ds)=>some ds|_=>none
def Ĳ(h:SE X e f):SI X tg e (mI f):=uB (Qv h) λU H R h_=>by
 refine i7 h_ λY ds B H0 V0 Z e r q=>?_;unfold mI at e;split at e
 .rename_i es he;cases e;refine⟨Y,_,B,H0,V0,Z,he,r,λv H' s rr=>?_⟩;obtain⟨a,xs,rfl,h1,h2⟩:=K3.mp rr;exact⟨a,rfl,⟨xs,w9.seq h1⟩,q _ H' s (XW h1 h2)⟩
 .cases e
def ĳ(h:SE X e f):SI X tg e (LH f):=uB (Ġ h) λU H R h_=>by
 refine i7 h_ λY ds B H0 V0 Z e r q=>?_;unfold LH at e;split at e
 .rename_i es he;cases e;refine⟨Y,_,B,H0,V0,Z,he,r,λv H' s rr=>?_⟩;obtain⟨a,xs,rfl,h1,h2⟩:=j3.mp rr;exact⟨a,rfl,⟨xs,j6 w9 h1⟩,q _ H' s (Wo h1 h2)⟩
 .cases e
def mW(i:Int):Bool:=decide (-(2 ^ 62)<=i)&&decide (i<2 ^ 62)
def yJ(h:mW i=true) : -(2 ^ 62)<=i/\i<2 ^ 62:=by unfold mW at h;rw[Be]at h;exact⟨of_decide_eq_true h.1,of_decide_eq_true h.2⟩
def lO(f:ED):EL:=λY=>match f Y with|some (.int j)=>if mW j=true then some (Q5 0 j.toNat) else none|_=>none
def uQ(f f':ED):EL:=λY=>match f Y with
 |some (.int i)=>(match f' Y with|some (.int j)=>if mW i=true/\mW j=true then some (Q5 i (j-i).toNat) else none|_=>none)
 |_=>none
def rF{p:Gm}(hm:X.mg "range" = none)(h:ZE X e f)(hg:Gl X "range":=by rfl)(hs:A9 [e] X.env=[(false,Bz e X.env)]:=by rfl):ZI X tg (.Call (.Name "range" p) [e] [] pos) (lO f):=
 ⟨have h:=h.h;
 uB (Xu hg hm (J7 h W6 (by rw[hs];rfl)) hs) λU H R h_=>by
  refine i7 h_ λY ds B H0 V0 Z e r q=>?_;unfold lO at e;split at e
  .rename_i j he;split at e
   .rename_i hok;cases e;refine⟨Y,_,B,H0,V0,Z,he,r,λv H' s rr=>?_⟩
    obtain rfl:=v8.mp rr
    exact⟨j,rfl,(yJ hok).1,(yJ hok).2,q _ H' s (RH 0 j.toNat)⟩
   .cases e
  .cases e⟩
def Wt{p:Gm}(hm:X.mg "range" = none)(h:ZE X e f)(h':ZE X e' f')(hg:Gl X "range":=by rfl)(hs:A9 [e,e'] X.env=[(false,Bz e X.env),(false,Bz e' X.env)]:=by rfl)(bD:A9 [e'] X.env=[(false,Bz e' X.env)]:=by rfl):ZI X tg (.Call (.Name "range" p) [e,e'] [] pos) (uQ f f'):=
 ⟨have h:=h.h;
 have h':=h'.h;
 uB (Xv hg hm (J7 h (J7 h' W6 (by rw[bD];rfl)) (by rw[hs,bD])) hs bD) λU H R h_=>by
  refine i7 h_ λY ds B H0 V0 Z e r q=>?_;unfold uQ at e;split at e
  .rename_i i he;split at e
   .rename_i j hj;split at e
    .rename_i hok;cases e;refine⟨Y,_,B,H0,V0,Z,he,r,λv H1 s1 r1=>⟨Y,_,B,H0,V0,Z,hj,r.mono s1,λw' H' s rr=>?_⟩⟩
     obtain rfl:=v8.mp r1
     obtain rfl:=v8.mp rr
     exact⟨i,j,rfl,⟨(yJ hok.1).1,(yJ hok.1).2,(yJ hok.2).1,(yJ hok.2).2⟩,q _ H' (s1.trans s) (RH i (j-i).toNat)⟩
    .cases e
   .cases e
  .cases e⟩
def mE(cap:List (Option Nat))(Y:J5):J5:=cap.map λo=>o.bind λj=>(Y[j]?).bind id
def pY(h:D->J5->Option J5)(ft:EB)(fe:ED):J5->List D->Option (List D)
 |_,[]=>some []
 | Y,d::ds=>match h d Y with
  |none=>none
  |some Y1=>match ft Y1 with
   |some true=>(match fe Y1 with
    |some y=>(match pY h ft fe Y1 ds with|some ys=>some (y::ys)|none=>none)
    |none=>none)
   |some false=>pY h ft fe Y1 ds
   |none=>none
def Y2(cap:List (Option Nat))(fi:EL)(h:D->J5->Option J5)(ft:EB)(fe:ED):EL:=λY=>match fi Y with
 |some ds=>if ds.length<=f9 then pY h ft fe (mE cap Y) ds else none
 |none=>none
def mQ:EB:=λ_=>some true
def BF{K:A5}{B Z:List Aw}{H0 V0 H:Hp}{U:St}{Y:J5}{cap:List (Option Nat)}(ce:∀(i j k:Nat),cap[i]?=some (some k)->cap[j]?=some (some k)->i=j)(r:SR K B H0 V0 H Z U Y):
  SR K B H0 V0 H Z (l7 cap U) (mE cap Y):=by
 have get:∀{c:Cell} {i:Nat},(mE cap Y)[i]?=some (some c)->∃j,cap[i]?=some (some j)/\Y[j]?=some (some c):=λ{c i} q=>by
  unfold mE at q;rw[As]at q
  cases hc:cap[i]? with
  |none=>rw[hc]at q;cases q
  |some o=>
   rw[hc]at q
   cases o with
   |none=>cases q
   |some j=>
    refine⟨j,rfl,?_⟩;have q':(Y[j]?).bind id=some c:=Bb q
    cases hs:Y[j]? with
    |none=>rw[hs]at q';cases q'
    |some z=>
     rw[hs]at q'
     have:z=some c:=q'
     rw[this]
 have put:∀{v:V} {i j:Nat},cap[i]?=some (some j)->U[j]?=some (some v)->(l7 cap U)[i]?=some (some v):=λ{v i j} h1 h2=>by unfold l7;rw[As,h1];show some ((U[j]?).bind id)=_;rw[h2];rfl
 have get':∀{v:V} {i j:Nat},cap[i]?=some (some j)->(l7 cap U)[i]?=some (some v)->U[j]?=some (some v):=λ{v i j} h1 h2=>by
  unfold l7 at h2;rw[As,h1]at h2;have cP:(U[j]?).bind id=some v:=Bb h2
  cases hs:U[j]? with
  |none=>rw[hs]at cP;cases cP
  |some z=>
   rw[hs]at cP
   have:z=some v:=cP
   rw[this]
 refine⟨r.same,r.tb,r.vis,r.sub,r.zs,λi d q=>?_,λi ds q=>?_,λi j ds es a q1 q2 s1 s2=>?_,by unfold l7 mE;rw[A0,A0]⟩
 .obtain⟨j,h1,h2⟩:=get q;obtain⟨v,t1,t2⟩:=r.sh j d h2;exact⟨v,put h1 t1,t2⟩
 .obtain⟨j,h1,h2⟩:=get q;obtain⟨a,xs,t1,t2⟩:=r.own j ds h2;exact⟨a,xs,put h1 t1,t2⟩
 .obtain⟨i',h1,h2⟩:=get q1;obtain⟨j',h3,h4⟩:=get q2
  have:i'=j':=r.inj i' j' ds es a h2 h4 (get' h1 s1) (get' h3 s2)
  subst this;exact ce i j i' h1 h3
structure CC(K:A5)(Z:List Aw)(H:Hp)(J:It)(ds:List D):Prop where
 go:∀H',J0 H H'->∀i,i<ds.length->J.go i H'
 yld:∀H',J0 H H'->∀(i:Nat) x H3,J.yld i H' x H3->J0 H' H3/\∀d,ds[i]?=some d->∀Z':List Aw,(∀z∈Z',∃o,H' z=some o)->J0 (K5 Z H) (K5 Z' H')->i5 K (K5 Z' H3) d x
 stop:∀H',J0 H H'->J.stop ds.length H'
def Nh(K:A5)(f:EL):TI:=λU H R=>∃Y ds B H0 V0 Z,f Y=some ds/\SR K B H0 V0 H Z U Y/\∀J H',J0 H H'->CC K Z H' J ds->R J H'
abbrev Np(X:Cx)(tg e:Expr)(f:EL):Prop:=PI X tg e (Nh X.K f)
structure GQ(X:Cx)(tg e:Expr)(f:EL):Prop where
 h:Np X tg e f
def mU{tg e:Expr}{f:EL}(h:ZI X tg e f):GQ X tg e f:=
 ⟨have h:=h.h;
 uB h λU H R ⟨Y,ds,B,H0,V0,Z,e,r,q⟩=>
 ⟨Y,ds,B,H0,V0,Z,e,r,λJ H' s wk=>q J H' s ⟨λH2 s2=>wk.go H2 (w9.trans s2),λH2 s2=>wk.yld H2 (w9.trans s2),λH2 s2=>wk.stop H2 (w9.trans s2)⟩⟩⟩
def Wu(i:Nat){x:Bg}(hN:X.N[i]?=some x:=by rfl)(hv:mX X.env.scope x:=by first|exact Dg rfl|exact Cp (Dg rfl)|exact Cp (Cp rfl))(hd:(x==("__debug__":Bg))=false:=by decide)(aO:(x==("__classdict__":Bg))=false:=by decide):GQ X tg (.Name x pos) (kU i):=
 ⟨uB (Qv (nX hN hv hd aO)) λU H R h_=>by
  refine i7 h_ λY ds B H0 V0 Z e r q=>?_;obtain⟨a,xs,h1,h2,hb,h3,h4,h5⟩:=r.ow i ds (uH e);refine⟨.ref a,h1,a,rfl,⟨xs,jE.of h4⟩,q _ H (J0.refl H) ⟨λH' s j hj=>?_,λH' s j y H3 hy=>?_,λH' s=>⟨xs,jE.of (s _ _ h4),by rw[h5.length];exact Ak _⟩⟩⟩
  .obtain⟨v,cx,_⟩:=h5.get (A3 hj);exact⟨xs,v,jE.of (s _ _ h4),cx⟩
  .obtain⟨rfl,hx⟩:=hy;refine⟨J0.refl _,λd bn Z' hz hs=>?_⟩;obtain⟨v,cx,rv⟩:=h5.get bn
   have:=hx xs (jE.of (s _ _ h4))
   rw[cx]at this;cases this
   exact rv.mono hs⟩
def QR{cap:List (Option Nat)}(ce:∀(i j k:Nat),cap[i]?=some (some k)->cap[j]?=some (some k)->i=j):
  ∀U H Q,tF X.K (Y2 cap fi h ft fe) U H Q->yV cap (Nh X.K fi) (tG X.K h) (tT X.K ft) (tD X.K fe) U H Q:=λU H Q h_=>by
  refine i7 h_ λY zs B H0 V0 Z e r q=>?_;unfold Y2 at e;split at e
  .rename_i ds aH;split at e
   .rename_i hl;refine⟨Y,ds,B,H0,V0,Z,aH,r,λJ H1 s1 wk l aZ=>?_⟩;have R1:=r.mono s1;have sl:J0 H1 (upd H1 l (.lst [])):=j8 aZ;have RV:SR X.K B H0 (K5 Z H1) H1 Z U Y:=R1.vis' (λ_ _ h=>h);have eM:=RV.more aZ sl v4
    have R2:SR X.K (l::B) H0 (K5 Z H1) (upd H1 l (.lst [])) (l::Z) (l7 cap U) (mE cap Y):=BF ce ⟨eM.same,eM.tb,eM.vis,λb hb=>(Ad.mp hb).elim (λz=>z▸A6) λz=>eM.sub b z,eM.zs,eM.sh,λj es hj=>by
     obtain⟨a,xs,t1,t2,tb,t3,t4,t5⟩:=RV.own j es hj;obtain⟨a',xs',t1',t2',tb',t3',t4',t5'⟩:=eM.own j es hj;rw[t1]at t1';cases t1';refine⟨a,xs',t1,t2',λz=>?_,t3',t4',t5'⟩;rcases Ad.mp z with z|z
     .rw[z,aZ]at t4;cases t4
     .exact tb z,eM.inj,eM.len⟩
    refine⟨λi m U' H' ag=>m=ds.length-i/\i<=ds.length/\H' l=some (.lst ag)/\J0 H1 H'/\ag.length<=i/\∃Y' ys ws,SR X.K (l::B) H0 (K5 Z H1) H' (l::Z) U' Y'/\J3 X.K (K5 (l::Z) H') ys ag/\pY h ft fe Y' (ds.drop i)=some ws/\zs=ys++ws,
     ⟨_,rfl,Bh _,v4,sl,Ak _,mE cap Y,[],zs,R2,J3.nil,e,rfl⟩,?_⟩
    rintro i m U' H' ag ⟨rfl,bo,aN,hS,dZ,Y',ys,ws,r',ry,e',ez⟩;have vis:J0 (K5 Z H1) H':=r'.vis.trans w9;by_cases ah:i<ds.length
    .refine .inr ⟨wk.go H' hS i ah,yG (B3 dZ (B3 bo hl)),λx H3 hy=>?_⟩;obtain⟨sH,hx⟩:=wk.yld H' hS i x H3 hy;have hd:=hx ds[i] (A3 ah) (l::Z) r'.zs r'.vis;have aN:=sH _ _ aN;have hS:=hS.trans sH;have ry:=ry.mono (w6 sH);rw[Ex ah]at e';unfold pY at e';split at e'
     .cases e'
     .rename_i Y1 e1;refine⟨Y',ds[i],Y1,l::B,H0,K5 Z H1,l::Z,e1,r'.mono sH,hd,λU4 r4=>?_⟩;split at e'
      .rename_i et;refine⟨Y1,true,l::B,H0,K5 Z H1,l::Z,et,r4,λH5 s5=>sZ ?_⟩;split at e'
       .rename_i y ey;split at e'
        .rename_i yy eyy;cases e';refine⟨Y1,y,l::B,H0,K5 Z H1,l::Z,ey,r4.mono s5,λv H6 s6 r6=>⟨s6 _ _ (s5 _ _ aN),ds.length-(i+1),by omega,rfl,ah,v4,uJ aZ (hS.trans (s5.trans s6)),?_,Y1,ys++[y],yy,?_,?_,eyy,by rw[ez];simp⟩⟩
         .rw[Af];simpa using dZ
         .have R6:=(r4.mono s5).mono s6;have vs:J0 (K5 (l::Z) H6) (K5 (l::Z) (upd H6 l (.lst (ag++[v])))):=rD A6;have nl:H0 l=none:=(r.same.trans s1).free aZ;refine⟨uJ nl R6.same,R6.tb.upd (s6 _ _ (s5 _ _ aN)) (λ_ z=>by cases z),R6.vis.trans vs,R6.sub,λz hz=>?_,λj d hj=>let ⟨u,t1,t2⟩:=R6.sh j d hj;⟨u,t1,t2.mono vs⟩,λj es hj=>?_,R6.inj,R6.len⟩
          .by_cases iE:z=l
           .subst iE;exact⟨_,v4⟩
           .obtain⟨o',bh⟩:=R6.zs z hz;exact⟨o',by rw[v9 iE];exact bh⟩
          .obtain⟨a,xs,t1,t2,tb,t3,t4,t5⟩:=R6.own j es hj;have na:a≠l:=λz=>tb (z▸A6);exact⟨a,xs,t1,t2,tb,t3,by rw[v9 na];exact t4,t5.mono vs⟩
         .exact J3.append (ry.mono ((w6 (s5.trans s6)).trans (rD A6))) (J3.one (r6.mono (rD A6)))
        .cases e'
       .cases e'
      .rename_i et;exact⟨Y1,false,l::B,H0,K5 Z H1,l::Z,et,r4,λH5 s5=>vA ⟨ds.length-(i+1),by omega,rfl,ah,s5 _ _ aN,hS.trans s5,by omega,Y1,ys,ws,r4.mono s5,ry.mono (w6 s5),e',ez⟩⟩
      .cases e'
    .have ei:i=ds.length:=by omega
     subst ei;rw[Kt]at e';unfold pY at e';cases e';rw[Ci]at ez;subst ez;exact .inl ⟨wk.stop H' hS,q l ag H' (s1.trans hS) (s1.free aZ) aN ry⟩
   .cases e
  .cases e
def Ŵ{cap:List (Option Nat)}(hc:X.calm=true)(hi:Np X ae af fi)(hg:∀cl C fp s H,SG (Q7 X N scope cl C fp s H) ae h)(ht:∀cl C fp s H,sV (Q7 X N scope cl C fp s H) ba (tT X.K ft))(he:∀cl C fp s H,SE (Q7 X N scope cl C fp s H) aT fe)(hk:scope.kind = .function)(aA:∀y∈scope.names,y.2 = .cell->scope.names.lookup y.1=some .cell)(aW:∀x∈scope.names,x.2 = .local->scope.names.lookup x.1=some .local)(bC:∀x∈scope.names,x.2 = .free->scope.names.lookup x.1=some .free)(cp:∀x∈scope.names,x.2 = .free->X.env.scope.names.lookup x.1=some .cell\/X.env.scope.names.lookup x.1=some .free)(bd:∀(i j:Nat),cap[i]?=some (some j)->∃x,N[i]?=some x/\X.N[j]?=some x/\scope.names.lookup x=some .free)(ab:cap.length=N.length)(ce:∀(i j k:Nat),cap[i]?=some (some k)->cap[j]?=some (some k)->i=j)(hs:∀x,C3 af X.env x=Cj x:=by intro _;rfl):
  SF X (.ListComp aT [⟨ae,af,ba,0⟩] scope pos) (Y2 cap fi h ft fe):=
 u9 (JC (g:=tG X.K h) (te:=tD X.K fe) hc hi hg ht he hk aA aW bC cp bd ab hs) (QR ce)
end
def gI(g:Int->Int->Int):D->D->Option D:=λx y=>match x,y with|.int i,.int j=>some (.int (g i j))|_,_=>none
def gB(g:Int->Int->Bool):D->D->Option D:=λx y=>match x,y with|.int i,.int j=>some (.bl (g i j))|_,_=>none
def rX(C:Int->Int->Bool)(g:Int->Int->Int):D->D->Option D:=λx y=>match x,y with|.int i,.int j=>if C i j=true then some (.int (g i j)) else none|_,_=>none
section
variable{K:A5}
def Qz{g:Int->Int->Int}:lI K (rW λi j=>.int (g i j)) (gI g):=by
 intro x y d e Z H u v Q zs hx hy q;unfold gI at e;split at e
 .rename_i i j;cases e
  obtain rfl:=v8.mp hx
  obtain rfl:=v8.mp hy
  exact⟨i,j,rfl,rfl,q _ H (J0.refl H) (v8.mpr rfl)⟩
 .cases e
def oG{g:Int->Int->Bool}:lI K (rW λi j=>.bl (g i j)) (gB g):=by
 intro x y d e Z H u v Q zs hx hy q;unfold gB at e;split at e
 .rename_i i j;cases e
  obtain rfl:=v8.mp hx
  obtain rfl:=v8.mp hy
  exact⟨i,j,rfl,rfl,q _ H (J0.refl H) (Q3.mpr rfl)⟩
 .cases e
def JF{C':Int->Int->Prop}{C:Int->Int->Bool}{g:Int->Int->Int}(hC:∀i j,C i j=true->C' i j):lI K (rI C' λi j=>.int (g i j)) (rX C g):=by
 intro x y d e Z H u v Q zs hx hy q;unfold rX at e;split at e
 .rename_i i j;split at e
  .rename_i hc;cases e
   obtain rfl:=v8.mp hx
   obtain rfl:=v8.mp hy
   exact⟨i,j,rfl,rfl,hC i j hc,q _ H (J0.refl H) (v8.mpr rfl)⟩
  .cases e
 .cases e
def lI.or(h:lI K r g)(h':lI K r' g'):lI K (λx y H Q=>r x y H Q\/r' x y H Q) (λx y=>match g x y with|some d=>some d|none=>g' x y):=by
 intro x y d e Z H u v Q zs hx hy q;dsimp only at e;split at e
 .rename_i d' hd;cases e;exact .inl (h x y d hd Z H u v Q zs hx hy q)
 .exact .inr (h' x y d e Z H u v Q zs hx hy q)
end
def ϛ:=gI (λi j=>i+j)
def wG:=gI (λi j=>i-j)
def vL(i:Int):Bool:=decide (-(2 ^ 64)<i)&&decide (i<2 ^ 64)
def GE:=rX (λi j=>vL i||vL j) (λi j=>i*j)
def oR:=rX (λ_ j=>decide (0<j)) (λi j=>i % j)
def uP:=rX (λ_ j=>decide (0<j)&&decide (j<1073741824)) (λi j=>i / j)
def nS:=gB (λi j=>decide (i<j))
def uX:=gB (λi j=>decide (i<=j))
def yY:=gB (λi j=>decide (j<i))
def yX:=gB (λi j=>decide (j<=i))
section
variable{X:Cx}{a b c:Expr}{fa fb fc:ED}{pos:Gm}
def JM(ha:ZE X a fa)(hb:ZE X b fb):ZE X (.BinOp a .Sub b pos) (d2 wG fa fb):=
 ⟨have ha:=ha.h;
 have hb:=hb.h;
 AS ē Qz ha hb⟩
def ĭ{K:A5}:lI K (rI BS λi j=>.int (i*j)) GE:=JF (C':=BS) λi j h=>by
  rw[Hq]at h;rcases h with h|h
  .unfold vL at h;rw[Be]at h;exact .inl ⟨of_decide_eq_true h.1,of_decide_eq_true h.2⟩
  .unfold vL at h;rw[Be]at h;exact .inr ⟨of_decide_eq_true h.1,of_decide_eq_true h.2⟩
def xP(ha:ZE X a fa)(hb:ZE X b fb):ZE X (.BinOp a .Mod b pos) (d2 oR fa fb):=
 ⟨have ha:=ha.h;
 have hb:=hb.h;
 AS Đ (JF λi j h=>of_decide_eq_true h) ha hb⟩
def JL(ha:ZE X a fa)(hb:ZE X b fb):ZE X (.BinOp a .FloorDiv b pos) (d2 uP fa fb):=
 ⟨have ha:=ha.h;
 have hb:=hb.h;
 AS Ś (JF (C':=TK) λi j h=>by
  rw[Be]at h
  exact⟨of_decide_eq_true h.1,of_decide_eq_true h.2⟩) ha hb⟩
def QG(ha:ZE X a fa)(hb:ZE X b fb):ZE X (.Compare a [.GtE] [b] pos) (d2 yX fa fb):=
 ⟨have ha:=ha.h;
 have hb:=hb.h;
 LX Zm oG ha hb (qW _)⟩
def Á(ha:ZE X a fa)(hb:ZE X b fb):ZT X (.Compare a [.LtE] [b] pos) (y9 (d2 uX fa fb)):=
 ⟨have ha:=ha.h;
 have hb:=hb.h;
 wS GG oG ha hb (qW _)⟩
def QK(ha:ZE X a fa)(hb:ZE X b fb):ZT X (.Compare a [.Gt] [b] pos) (y9 (d2 yY fa fb)):=
 ⟨have ha:=ha.h;
 have hb:=hb.h;
 wS Zn oG ha hb (qW _)⟩
end
def Nb:D->D->Option D:=λx y=>match x,y with
 | .tup xs,.tup ys=>if xs.length+ys.length<=f9 then some (.tup (xs++ys)) else none
 | .lst xs,.lst ys=>if xs.length+ys.length<=f9 then some (.lst (xs++ys)) else none
 |_,_=>none
def R8(K:A5):R2:=λx y H Q=>∃a b xs ys,x = .ref a/\y = .ref b/\jF K H a xs/\jF K H b ys/\xs.length+ys.length<=sizeLine /\
 (xs=[]->Q (.ref b) H)/\(xs≠[]->ys=[]->Q (.ref a) H)/\(xs≠[]->ys≠[]->∀p,H p=none->Q (.ref p) (upd H p (.tup (xs++ys))))
def R5(K:A5):R2:=λx y H Q=>∃a b xs ys,x = .ref a/\y = .ref b/\jE K H a xs/\jE K H b ys/\xs.length+ys.length<=sizeLine/\∀p,H p=none->Q (.ref p) (upd H p (.lst (xs++ys)))
section
variable{X:Cx}
def Ř:kG X (Gn .Add) (R8 X.K):=by
 intro aa s U H x y v u Q I rx ry h;obtain⟨a,b,xs,ys,rfl,rfl,ha,hb,hz,q0,q1,q2⟩:=h;by_cases hx:xs=[]
 .cases rx;cases ry;obtain⟨its,r1,p1,_⟩:=I.tuple ha;obtain⟨aq,r2,p2,_⟩:=I.tuple hb;obtain⟨⟨cls,dd,data,sl⟩,ho,hc,n,hd⟩:=id p1;obtain⟨⟨eI,cv,data2,cJ⟩,bX,bf,n2,bA⟩:=id p2;simp only at hc hd bf bA;subst hc hd bf bA;have hv:its=[]:=r1.nil_iff.mpr hx
  exact L1 ⟨_,ho,rfl⟩ ⟨_,bX,rfl⟩ Ks Lz Ie Hz (Hl _ _)
   (tuple_addW0 a b its.toArray aq.toArray n n2 dd cv sl cJ (by simp[hv])) ⟨ho,bX,⟨.ref b,H,I,rfl,q0 hx⟩⟩
 .exact ř aa s U H _ _ v u Q I rx ry ⟨a,b,xs,ys,rfl,rfl,ha,hb,hx,hz,q1 hx,q2 hx⟩
def Qp:kG X (Gn .Add) (R5 X.K):=by
 intro aa s U H x y v u Q I rx ry h;obtain⟨l,b,xs,zs,rfl,rfl,hH,hB,hz,q⟩:=h;cases rx;cases ry;obtain⟨its,r,pl,z⟩:=I.list hH;obtain⟨aq,r2,pl2,z2⟩:=I.list hB;have hl:=r.length;have hl2:=r2.length
 have ea:its.toArray++aq.toArray=(its++aq).toArray:=by simp
 obtain⟨⟨cls,dd,data,sl⟩,n,ho,hc,dY,hd⟩:=id pl;obtain⟨⟨eI,cv,data2,cJ⟩,n2,bX,bf,iY,bA⟩:=id pl2;simp only at hc hd bf bA dY iY;subst hc hd bf bA dY iY;refine L1 ⟨_,ho,rfl⟩ ⟨_,bX,rfl⟩ noFill_list_add seq_list_add PySem.F.slot_list_add PySem.F.entry_list_add (PySem.F.args_list_add_2 _ _) (list_addW l b its.toArray aq.toArray n n2 none none sl cJ (by rw[Ag,Ag];omega)) ⟨ho,bX,?_⟩
 rw[ea];exact⟨.ref _,_,I.lnew (t':=s.toks) (r.append r2) (by rw[Af];omega),rfl,q _ I.fresh⟩
def ĩ{K:A5}:lI K (λx y H Q=>R8 K x y H Q\/R5 K x y H Q) Nb:=by
 intro x y d e Z H u v Q zs hx hy q
 have newer:∀{p:Aw},H p=none->p∉Z:=λhp z=>by obtain⟨o,ho⟩:=zs _ z;rw[hp]at ho;cases ho
 unfold Nb at e;split at e
 .rename_i xs ys;split at e
  .rename_i hl;cases e;obtain⟨a,us,rfl,h1,h2⟩:=j3.mp hx;obtain⟨b,ws,rfl,h3,h4⟩:=j3.mp hy;refine .inl ⟨a,b,us,ws,rfl,rfl,j6 w9 h1,j6 w9 h3,by rw[<-h2.length,<-h4.length];exact wR hl,λz=>?_,λz1 z2=>?_,λz1 z2 p hp=>?_⟩
   .have:xs=[]:=Ea (by rw[h2.length,z];rfl)
    subst this;exact q _ H (J0.refl H) hy
   .have:ys=[]:=Ea (by rw[h4.length,z2];rfl)
    subst this;rw[Ci]at q;exact q _ H (J0.refl H) hx
   .have sn:=j8 (o:=HO.tup (us++ws)) hp;refine q _ _ sn (j3.mpr ⟨p,_,rfl,jF.of ?_,(J3.append h2 h4).mono (w6 sn)⟩);rw[Q6 (newer hp)];exact v4
  .cases e
 .rename_i xs ys;split at e
  .rename_i hl;cases e;obtain⟨a,us,rfl,h1,h2⟩:=K3.mp hx;obtain⟨b,ws,rfl,h3,h4⟩:=K3.mp hy;refine .inr ⟨a,b,us,ws,rfl,rfl,w9.seq h1,w9.seq h3,by rw[<-h2.length,<-h4.length];exact wR hl,λp hp=>?_⟩
   have sn:=j8 (o:=HO.lst (us++ws)) hp;refine q _ _ sn (K3.mpr ⟨p,_,rfl,jE.of ?_,(J3.append h2 h4).mono (w6 sn)⟩);rw[Q6 (newer hp)];exact v4
  .cases e
 .cases e
variable{a b c:Expr}{fa fb fc:ED}{pos:Gm}
def jN:D->D->Option D:=λx y=>match ϛ x y with|some d=>some d|none=>Nb x y
def l6(ha:ZE X a fa)(hb:ZE X b fb):ZE X (.BinOp a .Add b pos) (d2 jN fa fb):=
 ⟨have ha:=ha.h;
 have hb:=hb.h;
 AS (Ď.or (Ř.or Qp)) (lI.or Qz ĩ) ha hb⟩
def GD(fa fb:EL):EL:=λY=>match fa Y with|some xs=>(match fb Y with|some ys=>if xs.length+ys.length<=f9 then some (xs++ys) else none|none=>none)|none=>none
def lE:List D->Option (List Int)
 | []=>some []
 | .int i::r=>(lE r).map (i::·)
 |_::_=>none
theorem Z7:∀{ds:List D} {ns:List Int},lE ds=some ns->ds=ns.map D.int
 | [],ns,e=>by cases e;rfl
 | .int i::r,ns,e=>by unfold lE at e;obtain⟨ms,h1,rfl⟩:=Bj.mp e;rw[Z7 h1];rfl
 | .non::r,ns,e=>by unfold lE at e;cases e
 | .bl _::r,ns,e=>by unfold lE at e;cases e
 | .str _::r,ns,e=>by unfold lE at e;cases e
 | .tup _::r,ns,e=>by unfold lE at e;cases e
 | .lst _::r,ns,e=>by unfold lE at e;cases e
 | .dct _ _::r,ns,e=>by unfold lE at e;cases e
theorem Yv(ns:List Int):lE (ns.map D.int)=some ns:=by
 induction ns with
 |nil=>rfl
 |cons n r ih=>rw[Aj,lE,ih];rfl
def Nc:D->D->Option D:=λx y=>match x,y with
 | .tup xs,.tup ys=>(match lE xs,lE ys with|some ns,some ms=>some (.bl (HT.lexLt ns ms))|_,_=>none)
 |_,_=>none
def Ĭ{K:A5}:lI K (T2 K) Nc:=by
 intro x y d e Z H u v Q zs hx hy q;unfold Nc at e;split at e
 .rename_i xs ys;split at e
  .rename_i ns ms h1 h2;cases e;obtain⟨a,us,rfl,h3,h4⟩:=j3.mp hx;obtain⟨b,ws,rfl,h5,h6⟩:=j3.mp hy;rw[Z7 h1,Y6]at h4;rw[Z7 h2,Y6]at h6;subst h4 h6;exact⟨a,b,ns,ms,rfl,rfl,j6 w9 h3,j6 w9 h5,q _ H (J0.refl H) (Q3.mpr rfl)⟩
  .cases e
 .cases e
def pE:D->D->Option D:=λx y=>match nS x y with|some d=>some d|none=>Nc x y
def BM:V->Bool
 | .non=>true
 | .bl _=>true
 |_=>false
def S9:kG X (Ce .Is) (λx y H Q=>BM y=true/\Q (.bl (decide (x=y))) H):=by
 intro aa s U H x y v u Q I rx ry h;obtain⟨hf,q⟩:=h
 have go:plainIs v u=true/\(v==u)=decide (x=y):=by
  cases y with
  |non=>cases ry;cases x<;>first|(cases rx;exact⟨rfl,rfl⟩)|(obtain⟨t,rfl⟩:=rx;exact⟨rfl,rfl⟩)
  |bl k=>
   cases ry
   cases x with
   |bl k'=>cases rx;refine⟨rfl,?_⟩;cases k<;>cases k'<;>rfl
   |non=>cases rx;exact⟨rfl,rfl⟩
   |ref _=>cases rx;exact⟨rfl,rfl⟩
   |ty _=>cases rx;exact⟨rfl,rfl⟩
   |int _=>obtain⟨t,rfl⟩:=rx;exact⟨rfl,rfl⟩
   |str _=>obtain⟨t,rfl⟩:=rx;exact⟨rfl,rfl⟩
   |byt _=>obtain⟨t,rfl⟩:=rx;exact⟨rfl,rfl⟩
   |flt _=>obtain⟨t,rfl⟩:=rx;exact⟨rfl,rfl⟩
  |_=>cases hf
 exact wpAny_is_plain go.1 ⟨.bl _,H,I,by rw[go.2];rfl,q⟩
def Xr:kG X (Ce .IsNot) (λx y H Q=>BM y=true/\Q (.bl (!decide (x=y))) H):=by
 intro aa s U H x y v u Q I rx ry h;obtain⟨hf,q⟩:=h
 have go:plainIs v u=true/\(v==u)=decide (x=y):=by
  cases y with
  |non=>cases ry;cases x<;>first|(cases rx;exact⟨rfl,rfl⟩)|(obtain⟨t,rfl⟩:=rx;exact⟨rfl,rfl⟩)
  |bl k=>
   cases ry
   cases x with
   |bl k'=>cases rx;refine⟨rfl,?_⟩;cases k<;>cases k'<;>rfl
   |non=>cases rx;exact⟨rfl,rfl⟩
   |ref _=>cases rx;exact⟨rfl,rfl⟩
   |ty _=>cases rx;exact⟨rfl,rfl⟩
   |int _=>obtain⟨t,rfl⟩:=rx;exact⟨rfl,rfl⟩
   |str _=>obtain⟨t,rfl⟩:=rx;exact⟨rfl,rfl⟩
   |byt _=>obtain⟨t,rfl⟩:=rx;exact⟨rfl,rfl⟩
   |flt _=>obtain⟨t,rfl⟩:=rx;exact⟨rfl,rfl⟩
  |_=>cases hf
 exact wpAny_isNot_plain go.1 ⟨.bl _,H,I,by rw[go.2];rfl,q⟩
def GN:D->D->Option Bool:=λx y=>match y with
 | .non=>(match x with|.non=>some true|_=>some false)
 | .bl b=>(match x with|.bl b'=>some (b'==b)|_=>some false)
 |_=>none
def qQ:D->D->Option D:=λx y=>(GN x y).map D.bl
def rR:D->D->Option D:=λx y=>(GN x y).map λb=>D.bl (!b)
theorem SB{K:A5}{H:Hp}{x y:D}{u v:V}{b:Bool}(e:GN x y=some b)(hx:i5 K H x u)(hy:i5 K H y v):BM v=true/\decide (u=v)=b:=by
 have ref:∀{x:D} {u:V},i5 K H x u->(match x with|.tup _=>∃a,u = .ref a|.lst _=>∃a,u = .ref a|.dct _ _=>∃a,u = .ref a|_=>True):=λ{x u} h=>by
  cases x with
  |tup _=>obtain⟨a,_,e,_⟩:=j3.mp h;exact⟨a,e⟩
  |lst _=>obtain⟨a,_,e,_⟩:=K3.mp h;exact⟨a,e⟩
  |dct _ _=>obtain⟨a,_,e,_⟩:=l0.mp h;exact⟨a,e⟩
  |_=>trivial
 unfold GN at e
 cases y with
 |non=>
  obtain rfl:=mD.mp hy
  refine⟨rfl,?_⟩
  cases x with
  |non=>obtain rfl:=mD.mp hx;cases e;rfl
  |bl _=>obtain rfl:=Q3.mp hx;cases e;rfl
  |int _=>obtain rfl:=v8.mp hx;cases e;rfl
  |str _=>obtain rfl:=l5.mp hx;cases e;rfl
  |tup _=>obtain⟨a,rfl⟩:=ref hx;cases e;rfl
  |lst _=>obtain⟨a,rfl⟩:=ref hx;cases e;rfl
  |dct _ _=>obtain⟨a,rfl⟩:=ref hx;cases e;rfl
 |bl k=>
  obtain rfl:=Q3.mp hy
  refine⟨rfl,?_⟩
  cases x with
  |non=>obtain rfl:=mD.mp hx;cases e;rfl
  |bl k'=>obtain rfl:=Q3.mp hx;cases e;cases k<;>cases k'<;>rfl
  |int _=>obtain rfl:=v8.mp hx;cases e;rfl
  |str _=>obtain rfl:=l5.mp hx;cases e;rfl
  |tup _=>obtain⟨a,rfl⟩:=ref hx;cases e;rfl
  |lst _=>obtain⟨a,rfl⟩:=ref hx;cases e;rfl
  |dct _ _=>obtain⟨a,rfl⟩:=ref hx;cases e;rfl
 |_=>cases e
def Sc{K:A5}:lI K (λx y H Q=>BM y=true/\Q (.bl (decide (x=y))) H) qQ:=by intro x y d e Z H u v Q zs hx hy q;unfold qQ at e;obtain⟨b,hb,rfl⟩:=Bj.mp e;obtain⟨h1,h2⟩:=SB hb hx hy;refine⟨h1,?_⟩;rw[h2];exact q _ H (J0.refl H) (Q3.mpr rfl)
def ī{K:A5}:lI K (λx y H Q=>BM y=true/\Q (.bl (!decide (x=y))) H) rR:=by intro x y d e Z H u v Q zs hx hy q;unfold rR at e;obtain⟨b,hb,rfl⟩:=Bj.mp e;obtain⟨h1,h2⟩:=SB hb hx hy;refine⟨h1,?_⟩;rw[h2];exact q _ H (J0.refl H) (Q3.mpr rfl)
def ŀ(ha:ZE X a fa)(hb:ZE X b fb):ZE X (.Compare a [.Is] [b] pos) (d2 qQ fa fb):=
 ⟨have ha:=ha.h;
 have hb:=hb.h;
 LX S9 Sc ha hb (qW _)⟩
def TH(ha:ZE X a fa)(hb:ZE X b fb):ZT X (.Compare a [.Is] [b] pos) (y9 (d2 qQ fa fb)):=
 ⟨have ha:=ha.h;
 have hb:=hb.h;
 wS S9 Sc ha hb (qW _)⟩
def JP(ha:ZE X a fa)(hb:ZE X b fb):ZT X (.Compare a [.IsNot] [b] pos) (y9 (d2 rR fa fb)):=
 ⟨have ha:=ha.h;
 have hb:=hb.h;
 wS Xr ī ha hb (qW _)⟩
end
end L3
namespace L3
open PySem PySem.Spec PyProof.Rows L2 PySem.SeqAt
mutual
def kC:D->D->Bool
 | .non,e=>(match e with|.non=>true|_=>false)
 | .bl a,e=>(match e with|.bl b=>a==b|.int j=>(if a then (1:Int) else 0)==j|_=>false)
 | .int i,e=>(match e with|.int j=>i==j|.bl b=>i==(if b then (1:Int) else 0)|_=>false)
 | .str x,e=>(match e with|.str y=>x==y|_=>false)
 | .tup xs,e=>(match e with|.tup ys=>pW xs ys|_=>false)
 | .lst xs,e=>(match e with|.lst ys=>pW xs ys|_=>false)
 | .dct ks xs,e=>(match e with|.dct js ys=>decide (ks=js)&&pW xs ys|_=>false)
def pW:List D->List D->Bool
 | [],e=>(match e with|[]=>true|_=>false)
 |x::xs,e=>(match e with|y::ys=>kC x y&&pW xs ys|[]=>false)
end
mutual
def depth:D->Nat
 | .tup xs=>Z8 xs+1
 | .lst xs=>Z8 xs+1
 | .dct _ xs=>Z8 xs+1000
 |_=>0
def Z8:List D->Nat
 | []=>0
 |x::xs=>Lh (depth x) (Z8 xs)
end
theorem uI:∀{ds:List D} {i:Nat} {d:D},ds[i]?=some d->depth d<=Z8 ds
 | [],_,_,e=>by simp at e
 |x::xs,0,d,e=>by simp at e;subst e;rw[Z8];omega
 |x::xs,i+1,d,e=>by
  have:=uI (ds:=xs) (i:=i) (d:=d) (by simpa using e)
  rw[Z8];omega
mutual
theorem JT:∀d:D,kC d d=true
 | .non=>by rw[kC]
 | .bl b=>by rw[kC];exact beq_self_eq_true b
 | .int i=>by rw[kC];exact beq_self_eq_true i
 | .str x=>by rw[kC];exact beq_self_eq_true x
 | .tup xs=>by rw[kC];exact CN xs
 | .lst xs=>by rw[kC];exact CN xs
 | .dct ks xs=>by rw[kC,CN xs];simp
theorem CN:∀ds:List D,pW ds ds=true
 | []=>by rw[pW]
 |d::ds=>by rw[pW,JT d,CN ds];rfl
end
theorem CV:∀(xs ys:List D),pW xs ys=((Aa (Ew xs.length ys.length)).all (λj=>kC (xs.getD j .non) (ys.getD j .non))&&xs.length==ys.length)
 | [],[]=>by rw[pW];rfl
 | [],y::ys=>by simp[pW]
 |x::xs,[]=>by simp[pW]
 |x::xs,y::ys=>by
  rw[pW,CV xs ys]
  have e:Ew (x::xs).length (y::ys).length=Ew xs.length ys.length+1:=by simp only[Av];omega
  rw[e,G7,List.all_cons,List.all_map]
  have e2:((x::xs).length==(y::ys).length)=(xs.length==ys.length):=by simp
  rw[e2,Bool.and_assoc];rfl
section
variable{X:Cx}{aa:jA}{U:St}{H:Hp}{s:Am}
theorem JG{K:A5}{d:D}{a:Aw}(h:i5 K H d (.ref a)):(∃ds,d = .tup ds)\/(∃ds,d = .lst ds)\/∃ks ds,d = .dct ks ds:=by
 cases d with
 |non=>cases mD.mp h
 |bl _=>cases Q3.mp h
 |int _=>cases v8.mp h
 |str _=>cases l5.mp h
 |tup ds=>exact .inl ⟨ds,rfl⟩
 |lst ds=>exact .inr (.inl ⟨ds,rfl⟩)
 |dct ks ds=>exact .inr (.inr ⟨ks,ds,rfl⟩)
def IU(I:d4 X aa U H s)(h:H a=some (.dK kvs)):∃o,s.heap.get? a=some o/\o.cls = .type "dict":=by obtain⟨_,_,vs,_,p⟩:=(show lH X.prog X.w H s.heap a (.dK kvs) from I.hok a _ h);obtain⟨o,es,ep,h1,h2,_⟩:=p;exact⟨o,h1,h2.1⟩
def RU(I:d4 X aa U H s)(h:H a=some (.dK kvs))(h':jF X.K H a xs):False:=by obtain⟨o,e,c⟩:=IU I h;obtain⟨its,_,p,_⟩:=I.tuple h';obtain⟨o',h1,h2,_⟩:=p;rw[e]at h1;cases h1;rw[c]at h2;revert h2;simp
def RT(I:d4 X aa U H s)(h:H a=some (.dK kvs))(h':jE X.K H a xs):False:=by obtain⟨o,e,c⟩:=IU I h;obtain⟨its,_,p,_⟩:=I.list h';obtain⟨o',n,h1,h2,_⟩:=p;rw[e]at h1;cases h1;rw[c]at h2;revert h2;simp
def Qo(I:d4 X aa U H s)(h:jF X.K H a xs)(h':jE X.K H a ys):False:=by obtain⟨its,_,p,_⟩:=I.tuple h;obtain⟨aq,_,q,_⟩:=I.list h';exact ne_of_list_tuple q.isList p rfl
mutual
theorem EH(I:d4 X aa U H s):∀{d e:D} {v:V},i5 X.K H d v->i5 X.K H e v->d=e
 | .non,e,v,h,h'=>by
  obtain rfl:=mD.mp h
  cases e with
  |non=>rfl
  |bl _=>cases Q3.mp h'
  |int _=>cases v8.mp h'
  |str _=>cases l5.mp h'
  |tup _=>obtain⟨_,_,z,_⟩:=j3.mp h';cases z
  |lst _=>obtain⟨_,_,z,_⟩:=K3.mp h';cases z
  |dct _ _=>obtain⟨_,_,z,_⟩:=l0.mp h';cases z
 | .bl b,e,v,h,h'=>by
  obtain rfl:=Q3.mp h
  cases e with
  |non=>cases mD.mp h'
  |bl _=>cases Q3.mp h';rfl
  |int _=>cases v8.mp h'
  |str _=>cases l5.mp h'
  |tup _=>obtain⟨_,_,z,_⟩:=j3.mp h';cases z
  |lst _=>obtain⟨_,_,z,_⟩:=K3.mp h';cases z
  |dct _ _=>obtain⟨_,_,z,_⟩:=l0.mp h';cases z
 | .int b,e,v,h,h'=>by
  obtain rfl:=v8.mp h
  cases e with
  |non=>cases mD.mp h'
  |bl _=>cases Q3.mp h'
  |int _=>cases v8.mp h';rfl
  |str _=>cases l5.mp h'
  |tup _=>obtain⟨_,_,z,_⟩:=j3.mp h';cases z
  |lst _=>obtain⟨_,_,z,_⟩:=K3.mp h';cases z
  |dct _ _=>obtain⟨_,_,z,_⟩:=l0.mp h';cases z
 | .str b,e,v,h,h'=>by
  obtain rfl:=l5.mp h
  cases e with
  |non=>cases mD.mp h'
  |bl _=>cases Q3.mp h'
  |int _=>cases v8.mp h'
  |str _=>cases l5.mp h';rfl
  |tup _=>obtain⟨_,_,z,_⟩:=j3.mp h';cases z
  |lst _=>obtain⟨_,_,z,_⟩:=K3.mp h';cases z
  |dct _ _=>obtain⟨_,_,z,_⟩:=l0.mp h';cases z
 | .tup ds,e,v,h,h'=>by
  obtain⟨a,xs,rfl,h1,h2⟩:=j3.mp h;rcases JG h' with⟨es,rfl⟩|⟨es,rfl⟩|⟨ks,es,rfl⟩
  .obtain⟨b,ys,z,h3,h4⟩:=j3.mp h';cases z
   have:=I.tuple_inj h1 h3
   subst this;rw[EX I h2 h4]
  .obtain⟨b,ys,z,h3,h4⟩:=K3.mp h';cases z;exact(Qo I h1 h3).elim
  .obtain⟨b,ys,z,h3,h4⟩:=l0.mp h';cases z;exact(RU I h3 h1).elim
 | .lst ds,e,v,h,h'=>by
  obtain⟨a,xs,rfl,h1,h2⟩:=K3.mp h;rcases JG h' with⟨es,rfl⟩|⟨es,rfl⟩|⟨ks,es,rfl⟩
  .obtain⟨b,ys,z,h3,h4⟩:=j3.mp h';cases z;exact(Qo I h3 h1).elim
  .obtain⟨b,ys,z,h3,h4⟩:=K3.mp h';cases z
   have:=I.list_inj h1 h3
   subst this;rw[EX I h2 h4]
  .obtain⟨b,ys,z,h3,h4⟩:=l0.mp h';cases z;exact(RT I h3 h1).elim
 | .dct ks ds,e,v,h,h'=>by
  obtain⟨a,kvs,rfl,h1,h2,cP⟩:=l0.mp h;rcases JG h' with⟨es,rfl⟩|⟨es,rfl⟩|⟨js,es,rfl⟩
  .obtain⟨b,ys,z,h3,h4⟩:=j3.mp h';cases z;exact(RU I h1 h3).elim
  .obtain⟨b,ys,z,h3,h4⟩:=K3.mp h';cases z;exact(RT I h1 h3).elim
  .obtain⟨b,ys,z,h3,h4,h5⟩:=l0.mp h';cases z;rw[h1]at h3;cases h3;rw[<-h2,<-h4,EX I cP h5]
theorem EX(I:d4 X aa U H s):∀{ds es:List D} {xs:List V},J3 X.K H ds xs->J3 X.K H es xs->ds=es
 | [],es,xs,h,h'=>by
  obtain rfl:=K7.mp h
  cases es with
  |nil=>rfl
  |cons e es=>obtain⟨_,_,z,_⟩:=j9.mp h';cases z
 |d::ds,es,xs,h,h'=>by
  obtain⟨v,vs,rfl,h1,h2⟩:=j9.mp h
  cases es with
  |nil=>cases K7.mp h'
  |cons e es=>obtain⟨v',jf,z,h3,h4⟩:=j9.mp h';cases z;rw[EH I h1 h3,EX I h2 h4]
end
def Q4{α:Type}{xs:List α}{j:Nat}{d x:α}(h:xs[j]?=some x):xs.getD j d=x:=by rw[C9,h];rfl
theorem PZ(I:d4 X aa U H s){A:C6}(h0:A.units<Cz)(hd:depth d=0)(he:depth e<1000)(hx:i5 X.K H d x)(hy:i5 X.K H e y)(rx:i6 x u)(ry:i6 y v):
  Fo A s u v (kC d e)/\Fx A s u v (kC d e)/\D1 A s u v (!kC d e):=by
 cases d with
 |tup xs=>rw[depth]at hd;omega
 |lst xs=>rw[depth]at hd;omega
 |dct _ xs=>rw[depth]at hd;omega
 |non=>
  obtain rfl:=mD.mp hx
  cases rx
  cases e with
  |non=>obtain rfl:=mD.mp hy;cases ry;exact⟨N0 _,Fx.none_none,D1.none_none⟩
  |bl b=>obtain rfl:=Q3.mp hy;cases ry;exact⟨Fo.none_bool b,Fx.none_bool b,D1.none_bool b⟩
  |int j=>obtain rfl:=v8.mp hy;obtain⟨t,rfl⟩:=ry;exact⟨Fo.none_int j t,Fx.none_int j t,D1.none_int j t⟩
  |str z=>obtain rfl:=l5.mp hy;obtain⟨t,rfl⟩:=ry;exact⟨Fo.none_str z t,Fx.none_str z t,D1.none_str z t⟩
  |tup ys=>obtain⟨b,zs,rfl,h1,_⟩:=j3.mp hy;cases ry;obtain⟨its,_,p,_⟩:=I.tuple h1;exact⟨Fo.none_tuple p h0,Fx.none_tuple p h0,D1.none_tuple p h0⟩
  |lst ys=>obtain⟨b,zs,rfl,h1,_⟩:=K3.mp hy;cases ry;obtain⟨its,_,p,_⟩:=I.list h1;exact⟨Fo.none_list p.isList h0,Fx.none_list p.isList h0,D1.none_list p.isList h0⟩
  |dct _ ys=>rw[depth]at he;omega
 |bl a=>
  obtain rfl:=Q3.mp hx
  cases rx
  cases e with
  |non=>obtain rfl:=mD.mp hy;cases ry;exact⟨Fo.bool_none a,Fx.bool_none a,D1.bool_none a⟩
  |bl b=>obtain rfl:=Q3.mp hy;cases ry;exact⟨Fo.bool_bool a b,Fx.bool_bool a b,D1.bool_bool a b⟩
  |int j=>obtain rfl:=v8.mp hy;obtain⟨t,rfl⟩:=ry;exact⟨Fo.bool_int a j t,Fx.bool_int a j t,D1.bool_int a j t⟩
  |str z=>obtain rfl:=l5.mp hy;obtain⟨t,rfl⟩:=ry;exact⟨Fo.bool_str a z t,Fx.bool_str a z t,D1.bool_str a z t⟩
  |tup ys=>obtain⟨b,zs,rfl,h1,_⟩:=j3.mp hy;cases ry;obtain⟨its,_,p,_⟩:=I.tuple h1;exact⟨Fo.bool_tuple a p h0,Fx.bool_tuple a p h0,D1.bool_tuple a p h0⟩
  |lst ys=>obtain⟨b,zs,rfl,h1,_⟩:=K3.mp hy;cases ry;obtain⟨its,_,p,_⟩:=I.list h1;exact⟨Fo.bool_list a p.isList h0,Fx.bool_list a p.isList h0,D1.bool_list a p.isList h0⟩
  |dct _ ys=>rw[depth]at he;omega
 |int i=>
  obtain rfl:=v8.mp hx
  obtain⟨t0,rfl⟩:=rx
  cases e with
  |non=>obtain rfl:=mD.mp hy;cases ry;exact⟨Fo.int_none i t0,Fx.int_none i t0,D1.int_none i t0⟩
  |bl b=>obtain rfl:=Q3.mp hy;cases ry;exact⟨Fo.int_bool i t0 b,Fx.int_bool i t0 b,D1.int_bool i t0 b⟩
  |int j=>obtain rfl:=v8.mp hy;obtain⟨t,rfl⟩:=ry;exact⟨Fo.int_int i t0 j t,Fx.int_int i t0 j t,D1.int_int i t0 j t⟩
  |str z=>obtain rfl:=l5.mp hy;obtain⟨t,rfl⟩:=ry;exact⟨Fo.int_str i t0 z t,Fx.int_str i t0 z t,D1.int_str i t0 z t⟩
  |tup ys=>obtain⟨b,zs,rfl,h1,_⟩:=j3.mp hy;cases ry;obtain⟨its,_,p,_⟩:=I.tuple h1;exact⟨Fo.int_tuple i t0 p h0,Fx.int_tuple i t0 p h0,D1.int_tuple i t0 p h0⟩
  |lst ys=>obtain⟨b,zs,rfl,h1,_⟩:=K3.mp hy;cases ry;obtain⟨its,_,p,_⟩:=I.list h1;exact⟨Fo.int_list i t0 p.isList h0,Fx.int_list i t0 p.isList h0,D1.int_list i t0 p.isList h0⟩
  |dct _ ys=>rw[depth]at he;omega
 |str w'=>
  obtain rfl:=l5.mp hx
  obtain⟨t0,rfl⟩:=rx
  cases e with
  |non=>obtain rfl:=mD.mp hy;cases ry;exact⟨Fo.str_none w' t0,Fx.str_none w' t0,D1.str_none w' t0⟩
  |bl b=>obtain rfl:=Q3.mp hy;cases ry;exact⟨Fo.str_bool w' t0 b,Fx.str_bool w' t0 b,D1.str_bool w' t0 b⟩
  |int j=>obtain rfl:=v8.mp hy;obtain⟨t,rfl⟩:=ry;exact⟨Fo.str_int w' t0 j t,Fx.str_int w' t0 j t,D1.str_int w' t0 j t⟩
  |str z=>obtain rfl:=l5.mp hy;obtain⟨t,rfl⟩:=ry;exact⟨Fo.str_str w' t0 z t,Fx.str_str w' t0 z t,D1.str_str w' t0 z t⟩
  |tup ys=>obtain⟨b,zs,rfl,h1,_⟩:=j3.mp hy;cases ry;obtain⟨its,_,p,_⟩:=I.tuple h1;exact⟨Fo.str_tuple w' t0 p h0,Fx.str_tuple w' t0 p h0,D1.str_tuple w' t0 p h0⟩
  |lst ys=>obtain⟨b,zs,rfl,h1,_⟩:=K3.mp hy;cases ry;obtain⟨its,_,p,_⟩:=I.list h1;exact⟨Fo.str_list w' t0 p.isList h0,Fx.str_list w' t0 p.isList h0,D1.str_list w' t0 p.isList h0⟩
  |dct _ ys=>rw[depth]at he;omega
theorem IV(I:d4 X aa U H s):∀(n:Nat) (A:C6),A.units+n<Cz->n<1000->∀{d e:D} {x y:V} {u v:Ac},depth d<=n->depth e<1000->i5 X.K H d x->i5 X.K H e y->i6 x u->i6 y v ->
  Fo A s u v (kC d e)/\Fx A s u v (kC d e)/\D1 A s u v (!kC d e):=by
 intro n
 induction n with
 |zero=>intro A hu hn d e x y u v hd he hx hy rx ry;exact PZ I (by omega) (by omega) he hx hy rx ry
 |succ n ih=>
  intro A hu hn d e x y u v hd he hx hy rx ry
  have h0:A.units<Cz:=by omega
  have hZ:A.in1.units+n<Cz:=by show A.units+1+n<Cz;omega
  by_cases cX:depth d=0
  .exact PZ I h0 cX he hx hy rx ry
  .cases d with
   |non=>exact absurd (by simp[depth]) cX
   |bl _=>exact absurd (by simp[depth]) cX
   |int _=>exact absurd (by simp[depth]) cX
   |str _=>exact absurd (by simp[depth]) cX
   |dct _ xs=>rw[depth]at hd;omega
   |tup xs=>
    obtain⟨a,us,rfl,h1,h2⟩:=j3.mp hx;cases rx;obtain⟨its,rv,p,_⟩:=I.tuple h1;rw[depth]at hd
    cases e with
    |dct _ ys=>rw[depth]at he;omega
    |non=>obtain rfl:=mD.mp hy;cases ry;exact⟨Fo.tuple_none p h0,Fx.tuple_none p h0,D1.tuple_none p h0⟩
    |bl b=>obtain rfl:=Q3.mp hy;cases ry;exact⟨Fo.tuple_bool b p h0,Fx.tuple_bool b p h0,D1.tuple_bool b p h0⟩
    |int j=>obtain rfl:=v8.mp hy;obtain⟨t,rfl⟩:=ry;exact⟨Fo.tuple_int j t p h0,Fx.tuple_int j t p h0,D1.tuple_int j t p h0⟩
    |str z=>obtain rfl:=l5.mp hy;obtain⟨t,rfl⟩:=ry;exact⟨Fo.tuple_str z t p h0,Fx.tuple_str z t p h0,D1.tuple_str z t p h0⟩
    |lst ys=>obtain⟨b,zs,rfl,g1,_⟩:=K3.mp hy;cases ry;obtain⟨aq,_,p2,_⟩:=I.list g1;exact⟨Fo.tuple_list p p2.isList h0,Fx.tuple_list p p2.isList h0,D1.tuple_list p p2.isList h0⟩
    |tup ys=>
     obtain⟨b,zs,rfl,g1,g2⟩:=j3.mp hy;cases ry;obtain⟨aq,iw,p2,_⟩:=I.tuple g1
     have l1:its.toArray.size=xs.length:=by rw[Ag,<-rv.length,<-h2.length]
     have l2:aq.toArray.size=ys.length:=by rw[Ag,<-iw.length,<-g2.length]
     have items:∀j (k1:j<its.toArray.size) (k2:j<aq.toArray.size),Fo A.in1 s its.toArray[j] aq.toArray[j] (kC (xs.getD j .non) (ys.getD j .non)):=λj k1 k2=>by
      have fx:j<xs.length:=by omega
      have fA:j<ys.length:=by omega
      obtain⟨vj,e1,r1⟩:=h2.get (A3 fx);obtain⟨wj,e2,r2⟩:=g2.get (A3 fA);obtain⟨uj,f1,s1⟩:=rv.get e1;obtain⟨tj,f2,s2⟩:=iw.get e2
      have z1:its.toArray[j]=uj:=by
       rw[A3 (by rw[Ag]at k1;exact k1)]at f1
       simpa using f1
      have z2:aq.toArray[j]=tj:=by
       rw[A3 (by rw[Ag]at k2;exact k2)]at f2
       simpa using f2
      rw[z1,z2,Q4 (A3 fx),Q4 (A3 fA)];have dd:=uI (A3 fx);have de:=uI (A3 fA);rw[depth]at he;exact(ih A.in1 hZ (by omega) (by omega) (by omega) r1 r2 s1 s2).1
     have eb:kC (.tup xs) (.tup ys)=((Aa (Ew its.toArray.size aq.toArray.size)).all (λj=>kC (xs.getD j .non) (ys.getD j .non))&&its.toArray.size==aq.toArray.size):=by rw[kC,CV,l1,l2]
     have rc:Fx A s (.ref a) (.ref b) (kC (.tup xs) (.tup ys)):=by rw[eb];exact Fx.tuples p p2 h0 items
     have rn:D1 A s (.ref a) (.ref b) (!kC (.tup xs) (.tup ys)):=by rw[eb];exact D1.tuples p p2 h0 items
     refine⟨?_,rc,rn⟩;by_cases cN:a=b
     .subst cN;rw[EH I hx hy,JT];exact N0 _
     .exact Fo.of_refs cN rc
   |lst xs=>
    obtain⟨a,us,rfl,h1,h2⟩:=K3.mp hx;cases rx;obtain⟨its,rv,p,_⟩:=I.list h1;rw[depth]at hd
    cases e with
    |dct _ ys=>rw[depth]at he;omega
    |non=>obtain rfl:=mD.mp hy;cases ry;exact⟨Fo.list_none p.isList h0,Fx.list_none p.isList h0,D1.list_none p.isList h0⟩
    |bl b=>obtain rfl:=Q3.mp hy;cases ry;exact⟨Fo.list_bool b p.isList h0,Fx.list_bool b p.isList h0,D1.list_bool b p.isList h0⟩
    |int j=>obtain rfl:=v8.mp hy;obtain⟨t,rfl⟩:=ry;exact⟨Fo.list_int j t p.isList h0,Fx.list_int j t p.isList h0,D1.list_int j t p.isList h0⟩
    |str z=>obtain rfl:=l5.mp hy;obtain⟨t,rfl⟩:=ry;exact⟨Fo.list_str z t p.isList h0,Fx.list_str z t p.isList h0,D1.list_str z t p.isList h0⟩
    |tup ys=>obtain⟨b,zs,rfl,g1,_⟩:=j3.mp hy;cases ry;obtain⟨aq,_,p2,_⟩:=I.tuple g1;exact⟨Fo.list_tuple p.isList p2 h0,Fx.list_tuple p.isList p2 h0,D1.list_tuple p.isList p2 h0⟩
    |lst ys=>
     obtain⟨b,zs,rfl,g1,g2⟩:=K3.mp hy;cases ry;obtain⟨aq,iw,p2,_⟩:=I.list g1
     have l1:its.toArray.size=xs.length:=by rw[Ag,<-rv.length,<-h2.length]
     have l2:aq.toArray.size=ys.length:=by rw[Ag,<-iw.length,<-g2.length]
     have items:∀j (k1:j<its.toArray.size) (k2:j<aq.toArray.size),Fo A.in1 s its.toArray[j] aq.toArray[j] (kC (xs.getD j .non) (ys.getD j .non)):=λj k1 k2=>by
      have fx:j<xs.length:=by omega
      have fA:j<ys.length:=by omega
      obtain⟨vj,e1,r1⟩:=h2.get (A3 fx);obtain⟨wj,e2,r2⟩:=g2.get (A3 fA);obtain⟨uj,f1,s1⟩:=rv.get e1;obtain⟨tj,f2,s2⟩:=iw.get e2
      have z1:its.toArray[j]=uj:=by
       rw[A3 (by rw[Ag]at k1;exact k1)]at f1
       simpa using f1
      have z2:aq.toArray[j]=tj:=by
       rw[A3 (by rw[Ag]at k2;exact k2)]at f2
       simpa using f2
      rw[z1,z2,Q4 (A3 fx),Q4 (A3 fA)];have dd:=uI (A3 fx);have de:=uI (A3 fA);rw[depth]at he;exact(ih A.in1 hZ (by omega) (by omega) (by omega) r1 r2 s1 s2).1
     have fz:Fx A s (.ref a) (.ref b) (kC (.lst xs) (.lst ys))/\D1 A s (.ref a) (.ref b) (!kC (.lst xs) (.lst ys)):=by
      by_cases hl:its.toArray.size=aq.toArray.size
      .have eb:kC (.lst xs) (.lst ys)=((Aa its.toArray.size).all (λj=>kC (xs.getD j .non) (ys.getD j .non))):=by
        rw[kC,CV]
        have:xs.length=ys.length:=by omega
        rw[l1,this,Nat.min_self];simp
       rw[eb];exact⟨Fx.lists p.isList p2.isList hl h0 items,D1.lists p.isList p2.isList hl h0 items⟩
      .have eb:kC (.lst xs) (.lst ys)=false:=by
        rw[kC,CV]
        have:(xs.length==ys.length)=false:=by simp;omega
        rw[this,Bool.and_false]
       rw[eb];exact⟨Fx.lists_lengths p.isList p2.isList (by simpa using hl) h0,D1.lists_lengths p.isList p2.isList (by simpa using hl) h0⟩
     refine⟨?_,fz⟩;by_cases cN:a=b
     .subst cN;rw[EH I hx hy,JT];exact N0 _
     .exact Fo.of_refs cN fz.1
end
def jK:Nat:=60
def TY(K:A5):R2:=λx y H Q=>∃d e,depth d<=jK/\depth e<=jK/\i5 K H d x/\i5 K H e y/\Q (.bl (kC d e)) H
def T3(K:A5):R2:=λx y H Q=>∃d e,depth d<=jK/\depth e<=jK/\i5 K H d x/\i5 K H e y/\Q (.bl (!kC d e)) H
def kM:D->D->Option D:=λx y=>if depth x<=jK/\depth y<=jK then some (.bl (kC x y)) else none
def lP:D->D->Option D:=λx y=>if depth x<=jK/\depth y<=jK then some (.bl (!kC x y)) else none
section
variable{X:Cx}{a b c:Expr}{fa fb fc:ED}{pos:Gm}
def S7(hu:X.A.units+64<Cz):kG X (Ce .Eq) (TY X.K):=by
 intro aa s U H x y v u Q I rx ry h;obtain⟨d,e,hd,he,hx,hy,q⟩:=h;have fD:depth e<1000:=Ht he (by unfold jK;decide)
 exact(IV I jK X.A (by unfold jK;omega) (by unfold jK;decide) hd fD hx hy rx ry).2.1 X.prog X.w X.xe _ ⟨.bl _,H,I,rfl,q⟩
def Ē(hu:X.A.units+64<Cz):kG X (Ce .NotEq) (T3 X.K):=by
 intro aa s U H x y v u Q I rx ry h;obtain⟨d,e,hd,he,hx,hy,q⟩:=h;have fD:depth e<1000:=Ht he (by unfold jK;decide)
 exact(IV I jK X.A (by unfold jK;omega) (by unfold jK;decide) hd fD hx hy rx ry).2.2 X.prog X.w X.xe _ ⟨.bl _,H,I,rfl,q⟩
def To{K:A5}:lI K (TY K) kM:=by
 intro x y d e Z H u v Q zs hx hy q;unfold kM at e;split at e
 .rename_i h;cases e;exact⟨x,y,h.1,h.2,hx.mono w9,hy.mono w9,q _ H (J0.refl H) (Q3.mpr rfl)⟩
 .cases e
def Į{K:A5}:lI K (T3 K) lP:=by
 intro x y d e Z H u v Q zs hx hy q;unfold lP at e;split at e
 .rename_i h;cases e;exact⟨x,y,h.1,h.2,hx.mono w9,hy.mono w9,q _ H (J0.refl H) (Q3.mpr rfl)⟩
 .cases e
def AU(hu:X.A.units+64<Cz)(ha:ZE X a fa)(hb:ZE X b fb):ZE X (.Compare a [.Eq] [b] pos) (d2 kM fa fb):=
 ⟨have ha:=ha.h;
 have hb:=hb.h;
 LX (S7 hu) To ha hb (qW _)⟩
def sE(hu:X.A.units+64<Cz)(ha:ZE X a fa)(hb:ZE X b fb):ZT X (.Compare a [.Eq] [b] pos) (y9 (d2 kM fa fb)):=
 ⟨have ha:=ha.h;
 have hb:=hb.h;
 wS (S7 hu) To ha hb (qW _)⟩
def sF(hu:X.A.units+64<Cz)(ha:ZE X a fa)(hb:ZE X b fb):ZT X (.Compare a [.NotEq] [b] pos) (y9 (d2 lP fa fb)):=
 ⟨have ha:=ha.h;
 have hb:=hb.h;
 wS (Ē hu) Į ha hb (qW _)⟩
def nM(x:D)(ds:List D):Bool:=ds.any λy=>kC y x
def MF(K:A5)(neg:Bool):R2:=λx y H Q=>∃d ds p xs,Z8 ds<=jK/\depth d<=jK/\i5 K H d x/\y = .ref p/\(jE K H p xs\/jF K H p xs)/\J3 K H ds xs/\Q (.bl (if neg then !nM d ds else nM d ds)) H
open Classical in
noncomputable def nE (ds:List D) (its:List Ac) (x:D) (u:Ac):Bool:=if ∃(j:Nat) (d:D),its[j]?=some u/\ds[j]?=some d/\kC d x=true then true else false
def FM(I:d4 X aa U H s){x d:D}{u:Ac}{j:Nat}(hr:J3 X.K H ds xs)(rv:W3 xs its)(h1:its[j]?=some u)(h2:ds[j]?=some d):nE ds its x u=kC d x:=by
 unfold nE
 have uniq:∀(i:Nat) (e:D),its[i]?=some u->ds[i]?=some e->e=d:=λi e g1 g2=>by
  obtain⟨v,e1,r1⟩:=hr.get g2;obtain⟨w',e2,r2⟩:=hr.get h2;obtain⟨u1,f1,s1⟩:=rv.get e1;obtain⟨u2,f2,s2⟩:=rv.get e2;rw[g1]at f1;cases f1;rw[h1]at f2;cases f2
  have:v=w':=s1.inj s2
  subst this;exact EH I r1 r2
 by_cases hb:kC d x=true
 .rw[if_pos ⟨j,d,h1,h2,hb⟩,hb]
 .rw[if_neg ?_]
  .exact(Ka.mpr hb).symm
  .rintro ⟨i,e,g1,g2,g3⟩;rw[uniq i e g1 g2]at g3;exact hb g3
def DY(I:d4 X aa U H s)(hr:J3 X.K H ds xs)(rv:W3 xs its):its.any (nE ds its x)=nM x ds:=by
 have aZ:=hr.length;have hl2:=rv.length;rw[Bool.eq_iff_iff];unfold nM;rw[Ku,Ku];constructor
 .rintro ⟨u,hu,e⟩;obtain⟨j,hj,rfl⟩:=Gt.mp hu;have h2:ds[j]?=some ds[j]:=A3 (by omega);rw[FM I hr rv (A3 hj) h2]at e;exact⟨ds[j],Bo _,e⟩
 .rintro ⟨d,hd,e⟩;obtain⟨j,hj,rfl⟩:=Gt.mp hd;have h1:its[j]?=some its[j]:=A3 (by omega);refine⟨its[j],Bo _,?_⟩;rw[FM I hr rv h1 (A3 hj)];exact e
def BC(I:d4 X aa U H s)(hu:X.A.units+64<Cz)(hr:J3 X.K H ds xs)(rv:W3 xs its)(hd:Z8 ds<=jK)(bn:depth x<=jK)(hx:i5 X.K H x xv)(rx:i6 xv v):∀w'∈its.toArray,Fo X.A.in1 s w' v (nE ds its x w'):=λw' hw=>by
 have aZ:=hr.length;have hl2:=rv.length
 have hw':w'∈its:=by simpa using hw
 obtain⟨j,hj,rfl⟩:=Gt.mp hw';have h2:ds[j]?=some ds[j]:=A3 (by omega);have h1:its[j]?=some its[j]:=A3 hj;rw[FM I hr rv h1 h2];obtain⟨z,e1,r1⟩:=hr.get h2;obtain⟨u1,f1,s1⟩:=rv.get e1;rw[h1]at f1;cases f1;have dd:=uI h2;exact(IV I jK X.A.in1 (by show X.A.units+1+jK<Cz;unfold jK;omega) (by unfold jK;decide) (by omega) (Ht bn (by unfold jK;decide)) r1 hx s1 rx).1
def S8(hu:X.A.units+64<Cz):kG X (Ce .In) (MF X.K false):=by
 intro aa s U H x y v u Q I rx ry h;obtain⟨d,ds,p,xs,hd,bn,hx,rfl,hq,hr,q⟩:=h;cases ry;rcases hq with hq|hq
 .obtain⟨its,rv,pl,_⟩:=I.list hq;refine SeqAt.in_listAt (nE ds its d) pl.isList (BC I hu hr rv hd bn hx rx) ⟨.bl _,H,I,rfl,?_⟩;rw[show its.toArray.any (nE ds its d)=its.any (nE ds its d) by simp,DY I hr rv];exact q
 .obtain⟨its,rv,pl,_⟩:=I.tuple hq;refine SeqAt.in_tupleAt (nE ds its d) pl (BC I hu hr rv hd bn hx rx) ⟨.bl _,H,I,rfl,?_⟩;rw[show its.toArray.any (nE ds its d)=its.any (nE ds its d) by simp,DY I hr rv];exact q
def Xs(hu:X.A.units+64<Cz):kG X (Ce .NotIn) (MF X.K true):=by
 intro aa s U H x y v u Q I rx ry h;obtain⟨d,ds,p,xs,hd,bn,hx,rfl,hq,hr,q⟩:=h;cases ry;rcases hq with hq|hq
 .obtain⟨its,rv,pl,_⟩:=I.list hq;refine SeqAt.notIn_listAt (nE ds its d) pl.isList (BC I hu hr rv hd bn hx rx) ⟨.bl _,H,I,rfl,?_⟩;rw[show its.toArray.any (nE ds its d)=its.any (nE ds its d) by simp,DY I hr rv];exact q
 .obtain⟨its,rv,pl,_⟩:=I.tuple hq;refine SeqAt.notIn_tupleAt (nE ds its d) pl (BC I hu hr rv hd bn hx rx) ⟨.bl _,H,I,rfl,?_⟩;rw[show its.toArray.any (nE ds its d)=its.any (nE ds its d) by simp,DY I hr rv];exact q
def jS(neg:Bool)(fa:ED)(fb:EL):ED:=λY=>match fa Y with
 |some x=>(match fb Y with|some ds=>if Z8 ds<=jK/\depth x<=jK then some (.bl (if neg then !nM x ds else nM x ds)) else none|none=>none)
 |none=>none
def LL{K:A5}{neg:Bool}{fb:EL}:∀U H Q,tD K (jS neg fa fb) U H Q->zF (MF K neg) (tD K fa) (tQ K fb) U H Q:=
 λU H Q h_=>by
  refine i7 h_ λY d B H0 V0 Z e r q=>?_;unfold jS at e;split at e
  .rename_i x ex;split at e
   .rename_i ds ey;split at e
    .rename_i hd;cases e
     exact⟨Y,x,B,H0,V0,Z,ex,r,λu H1 s1 r1=>⟨Y,ds,B,H0,V0,Z,ey,r.mono s1,λp xs H2 s2 hq r2=>
      ⟨x,ds,p,xs,hd.1,hd.2,(r1.mono (w6 s2)).mono w9,rfl,hq.imp id (j6 w9),r2.mono w9,q _ H2 (s1.trans s2) (Q3.mpr rfl)⟩⟩⟩
    .cases e
   .cases e
  .cases e
def Zy{fb:EL}(hu:X.A.units+64<Cz)(ha:SE X a fa)(hb:SQ X b fb)(hm:Cs .In b=false:=by with_unfolding_all rfl):SE X (.Compare a [.In] [b] pos) (jS false fa fb):=u9 (Qr (S8 hu) ha hb hm) LL
def Sg{fb:EL}(hu:X.A.units+64<Cz)(ha:SE X a fa)(hb:SQ X b fb)(hm:Cs .In b=false:=by with_unfolding_all rfl):xF X (.Compare a [.In] [b] pos) (y9 (jS false fa fb)):=p8 (JE (S8 hu) ha hb hm) λU H Q h=>LL _ _ _ (uE U H Q h)
def Tw{fb:EL}(hu:X.A.units+64<Cz)(ha:SE X a fa)(hb:SQ X b fb)(hm:Cs .NotIn b=false:=by with_unfolding_all rfl):xF X (.Compare a [.NotIn] [b] pos) (y9 (jS true fa fb)):=p8 (JE (Xs hu) ha hb hm) λU H Q h=>LL _ _ _ (uE U H Q h)
theorem Wf{K:A5}{H:Hp}{ds:List D}{xs:List V}{i:Int}{d:D}(h:J3 K H ds xs)(e:lU ds i=some d):∃v,lU xs i=some v/\i5 K H d v:=by
 unfold lU at e ⊢;rw[<-h.length]
 cases hi:pD ds.length i with
 |none=>rw[hi]at e;cases e
 |some j=>rw[hi]at e;exact h.get e
def jH(fa:EL)(fb:ED):ED:=λY=>match fa Y with|some ds=>(match fb Y with|some (.int i)=>lU ds i|_=>none)|none=>none
def Zz{fa:EL}(ha:SQ X a fa)(hb:SE X b fb)(hs:DX b:=by exact λ_ _=>rfl):SE X (.Subscript a b pos) (jH fa fb):=
 u9 (RX ā ha hb hs) λU H Q h_=>by
  refine i7 h_ λY d B H0 V0 Z e r q=>?_;unfold jH at e;split at e
  .rename_i ds aH;split at e
   .rename_i i ei;refine⟨Y,ds,B,H0,V0,Z,aH,r,λp xs H1 s1 hq r1=>⟨Y,_,B,H0,V0,Z,ei,r.mono s1,λu H2 s2 r2=>?_⟩⟩
    obtain rfl:=v8.mp r2
    obtain⟨v,hv,rv⟩:=Wf (r1.mono (w6 s2)) e;have fin:=q v H2 (s1.trans s2) rv;rcases hq with hq|hq
    .exact .inl ⟨p,xs,i,v,rfl,rfl,s2.seq hq,hv,fin⟩
    .exact .inr (.inl ⟨p,xs,i,v,rfl,rfl,j6 s2 (j6 w9 hq),hv,fin⟩)
   .cases e
  .cases e
def tO(K:A5)(f:J5->Option (Option Int)):TO:=λU H Q=>∃Y o B H0 V0 Z,f Y=some o/\SR K B H0 V0 H Z U Y/\∀H',J0 H H'->Q o H'
abbrev SO(X:Cx)(e:Option Expr)(f:J5->Option (Option Int)):Prop:=PO X e (tO X.K f)
structure ZO(X:Cx)(e:Option Expr)(f:J5->Option (Option Int)):Prop where
 h:SO X e f
def lW:J5->Option (Option Int):=λ_=>some none
def kW(f:ED):J5->Option (Option Int):=λY=>match f Y with|some (.int i)=>some (some i)|_=>none
def vS:ZO X none lW:=
 ⟨λaa s U H Q I h_=>by
 refine i7 h_ λY o B H0 V0 Z e r q=>?_;cases e
 exact š aa s U H Q I (q H (J0.refl H))⟩
def sN(h:ZE X a f):ZO X (some a) (kW f):=
 ⟨have h:=h.h;
 λaa s U H Q I h_=>by
 refine i7 h_ λY o B H0 V0 Z e r q=>?_;refine Ţ h aa s U H Q I ?_;unfold kW at e;split at e
 .rename_i i ei;cases e;exact⟨Y,_,B,H0,V0,Z,ei,r,λv H' s rr=>⟨i,v8.mp rr,q H' s⟩⟩
 .cases e⟩
def nN{α:Type}(xs:List α)(lo hi:Option Int):List α:=(xs.drop (HT.sIx xs.length 0 lo)).take (HT.sIx xs.length xs.length hi-HT.sIx xs.length 0 lo)
def Rv{K:A5}{H:Hp}{ds:List D}{xs:List V}(lo hi:Option Int)(h:J3 K H ds xs):J3 K H (nN ds lo hi) (rP xs lo hi):=by unfold nN rP;rw[h.length];exact(h.drop _).take _
def CA:D->Option Int->Option Int->Option D:=λx lo hi=>match x with
 | .tup ds=>if HT.sIx ds.length 0 lo=0/\HT.sIx ds.length ds.length hi=ds.length then none else some (.tup (nN ds lo hi))
 | .lst ds=>some (.lst (nN ds lo hi))
 |_=>none
def l8(f:ED)(fl fh:J5->Option (Option Int)):ED:=λY=>match f Y with
 |some x=>(match fl Y with|some lo=>(match fh Y with|some hi=>CA x lo hi|none=>none)|none=>none)
 |none=>none
def Sf{lo hi:Option Expr}{p2:Gm}{fl fh:J5->Option (Option Int)}(he:SE X a fa)(hl:SO X lo fl)(hh:SO X hi fh):SE X (.Subscript a (.Slice lo hi none p2) pos) (l8 fa fl fh):=
 u9 (Rq (ĵ.or ŵ) he hl hh) λU H Q h_=>by
  refine i7 h_ λY d B H0 V0 Z e r q=>?_;unfold l8 at e;split at e
  .rename_i x ex;split at e
   .rename_i l el;split at e
    .rename_i h eh;refine⟨Y,x,B,H0,V0,Z,ex,r,λu H1 s1 r1=>⟨Y,l,B,H0,V0,Z,el,r.mono s1,λH2 s2=>⟨Y,h,B,H0,V0,Z,eh,(r.mono s1).mono s2,λH3 s3=>?_⟩⟩⟩;have R3:=((r.mono s1).mono s2).mono s3;have rx:=r1.mono (w6 (s2.trans s3));unfold CA at e;split at e
     .rename_i ds;split at e
      .cases e
      .rename_i hw;cases e;obtain⟨p,xs,rfl,h1,h2⟩:=j3.mp rx;refine .inl ⟨p,xs,rfl,j6 w9 h1,by rw[<-h2.length];exact hw,λn hn=>?_⟩
       have sn:=j8 (o:=HO.tup (rP xs l h)) hn;refine q _ _ (s1.trans (s2.trans (s3.trans sn))) (j3.mpr ⟨n,_,rfl,jF.of ?_,(Rv l h h2).mono (w6 sn)⟩);rw[Q6 (R3.newer hn)];exact v4
     .rename_i ds;cases e;obtain⟨p,xs,rfl,h1,h2⟩:=K3.mp rx;refine .inr ⟨p,xs,rfl,w9.seq h1,λn hn=>?_⟩;have sn:=j8 (o:=HO.lst (rP xs l h)) hn;refine q _ _ (s1.trans (s2.trans (s3.trans sn))) (K3.mpr ⟨n,_,rfl,jE.of ?_,(Rv l h h2).mono (w6 sn)⟩);rw[Q6 (R3.newer hn)];exact v4
     .cases e
    .cases e
   .cases e
  .cases e
def jP(f:EL):ED:=λY=>(f Y).map λds=>D.int ds.length
def Z6{p:Gm}(hm:X.mg "len" = none)(h:ZQ X a f)(hg:Gl X "len":=by rfl)(he:A9 [a] X.env=(false,Bz a X.env)::A9 [] X.env:=by exact u7 rfl)(ao:(Bu pos (A9 [] X.env)).any (·.1)=false:=by exact J9 rfl):ZE X (.Call (.Name "len" p) [a] [] pos) (jP f):=
 ⟨have h:=h.h;
 u9 (uD U8 hg hm PySem.boot_len (J7 h W6 he) (by decide) (by decide) he ao) λU H Q h_=>by
  refine i7 h_ λY d B H0 V0 Z e r q=>?_;unfold jP at e;obtain⟨ds,aH,rfl⟩:=Bj.mp e
  exact⟨Y,ds,B,H0,V0,Z,aH,r,λp xs H' s hq rr=>⟨p,xs,rfl,hq.imp id (j6 w9),q _ H' s (by rw[<-rr.length];exact v8.mpr rfl)⟩⟩⟩
def oS(f:EL):ED:=λY=>(f Y).map D.tup
def zU{p:Gm}(hm:X.mg "tuple" = none)(h:ZQ X a f)(hg:Gl X "tuple":=by rfl)(he:A9 [a] X.env=(false,Bz a X.env)::A9 [] X.env:=by exact u7 rfl)(ao:(Bu pos (A9 [] X.env)).any (·.1)=false:=by exact J9 rfl)(hv:B7 "tuple" = some (.type "tuple"):=by decide +kernel):ZE X (.Call (.Name "tuple" p) [a] [] pos) (oS f):=
 ⟨have h:=h.h;
 u9 (sP ND hg hm hv (J7 h W6 he) (by decide) (by decide) he ao) λU H Q h_=>by
  refine i7 h_ λY d B H0 V0 Z e r q=>?_;unfold oS at e;obtain⟨ds,aH,rfl⟩:=Bj.mp e;refine⟨Y,ds,B,H0,V0,Z,aH,r,λp xs H' s hq rr=>⟨p,xs,rfl,?_⟩⟩;rcases hq with hq|hq
  .refine .inl ⟨hq,λl hl=>?_⟩;have sn:=j8 (o:=HO.tup xs) hl;refine q _ _ (s.trans sn) (j3.mpr ⟨l,xs,rfl,jF.of ?_,rr.mono (w6 sn)⟩);rw[Q6 ((r.mono s).newer hl)];exact v4
  .exact .inr ⟨j6 w9 hq,q _ H' s (j3.mpr ⟨p,xs,rfl,hq,rr⟩)⟩⟩
end
end L3
namespace L3
open PySem PySem.W PyProof.Rows
def jX{α:Type}(lt:Nat->Nat->Bool):N2 α->α
 | .ret a=>a
 | .ask i j k=>jX lt (k (lt i j))
theorem sO{α β:Type}(lt:Nat->Nat->Bool)(f:α->N2 β):∀t:N2 α,jX lt (t.bind f)=jX lt (f (jX lt t))
 | .ret _=>rfl
 | .ask i j k=>sO lt f (k (lt i j))
structure mY(lt:Nat->Nat->Bool):Prop where
 asym:∀i j,lt i j=true->lt j i=false
 tr:∀i j k,lt j i=false->lt k j=false->lt k i=false
def gt(p:Array Nat)(i:Nat):Nat:=p.getD i 0
def yS{p q:Array Nat}{i j:Nat}(h:p[i]?=q[j]?):gt p i=gt q j:=by unfold gt;rw[Gk,Gk,h]
def Up(lt:Nat->Nat->Bool)(p:Array Nat)(b:Nat):Prop:=∀i j,i<=j->j<b->lt (gt p j) (gt p i)=false
def Dn(lt:Nat->Nat->Bool)(p:Array Nat)(b:Nat):Prop:=∀i j,i<=j->j<b->lt (gt p i) (gt p j)=false
def Al(lt:Nat->Nat->Bool)(p:Array Nat)(a b:Nat):Prop:=∀i j,a<=i->i<b->a<=j->j<b->lt (gt p i) (gt p j)=false
section
variable{lt:Nat->Nat->Bool}(O:mY lt)
theorem mY.irr(O:mY lt)(i:Nat):lt i i=false:=by
 cases h:lt i i with
 |false=>rfl
 |true=>rw[O.asym i i h]at h;cases h
def tZ{p:Array Nat}{i j:Nat}(hj:j<=p.size)(bB:i<=j)(k:Nat):gt (Ev p i j) k=if i<=k/\k<j then gt p (i+j-1-k) else gt p k:=by
 unfold Ev;have e:=getElem?_mirror (xs:=p) (i:=i) hj ((j-i) / 2) (by omega) k;by_cases h:i<=k/\k<j
 .rw[if_pos h];by_cases h2:(i<=k/\k<i+(j-i) / 2)\/(j-(j-i) / 2<=k/\k<j)
  .rw[if_pos h2]at e;exact yS e
  .rw[if_neg h2]at e
   have:i+j-1-k=k:=by omega
   rw[this];exact yS e
 .rw[if_neg h];rw[if_neg (by omega)]at e;exact yS e
def vR(p:Array Nat)(i j:Nat):(Ev p i j).size=p.size:=mirror_size _ _ _ _
def sM(p:Array Nat)(i j:Nat):(Ev p i j).Perm p:=mirror_perm _ _ _ _
include O
theorem LB:∀(f n:Nat),1<=n->Up lt p n->n<=jX lt (Ix p f n)/\jX lt (Ix p f n)<=n+f/\Up lt p (jX lt (Ix p f n)) /\
  (jX lt (Ix p f n)<n+f->lt (gt p (jX lt (Ix p f n))) (gt p (jX lt (Ix p f n)-1))=true)
 | 0,n,h1,h=>⟨Ak _,Ak _,h,λz=>absurd z (Dk _)⟩
 |f+1,n,h1,h=>by
  have e:jX lt (Ix p (f+1) n)=jX lt (if lt (gt p n) (gt p (n-1))=true then N2.ret n else Ix p f (n+1)):=rfl;rw[e]
  cases hc:lt (gt p n) (gt p (n-1)) with
  |true=>rw[if_pos rfl];exact⟨Ak _,Kv _ _,h,λ_=>hc⟩
  |false=>
   rw[if_neg B0]
   have h':Up lt p (n+1):=λi j bB hj=>by
    by_cases cW:j<n
    .exact h i j bB cW
    .have:j=n:=by omega
     subst this;by_cases hi:i=j
     .subst hi;exact O.irr _
     .exact O.tr _ _ _ (h i (j-1) (by omega) (by omega)) hc
   obtain⟨a1,a2,a3,a4⟩:=LB f (n+1) (by omega) h';exact⟨by omega,by omega,a3,λz=>a4 (by omega)⟩
theorem Tr{p:Array Nat}{n q:Nat}(hz:n<=p.size)(hq:q+1<=n)(hd:Dn lt p n)(ha:Al lt p (n-(q+1)) n):Dn lt (Ev p (n-(q+1)) n) n:=λi j bB hj=>by
 rw[tZ hz (by omega),tZ hz (by omega)];by_cases h1:n-(q+1)<=i/\i<n
 .have h2:n-(q+1)<=j/\j<n:=by omega
  rw[if_pos h1,if_pos h2];exact ha _ _ (by omega) (by omega) (by omega) (by omega)
 .rw[if_neg h1];by_cases h2:n-(q+1)<=j/\j<n
  .rw[if_pos h2];exact hd _ _ (by omega) (by omega)
  .rw[if_neg h2];exact hd _ _ bB hj
theorem EE:∀(f:Nat) (p:Array Nat) (n q:Nat),n+f<=p.size->q+1<=n->Dn lt p n->Al lt p (n-(q+1)) n ->
  ∃p' m q',jX lt (Fb f p n q)=(p',m,q')/\p'.size=p.size/\p'.Perm p/\n<=m/\m<=n+f/\q'+1<=m/\Dn lt p' m/\Al lt p' (m-(q'+1)) m
 | 0,p,n,q,hz,hq,hd,ha=>⟨p,n,q,rfl,rfl,F1 _,Ak _,Ak _,hq,hd,ha⟩
 |f+1,p,n,q,hz,hq,hd,ha=>by
  have e:jX lt (Fb (f+1) p n q)=jX lt (if lt (gt p n) (gt p (n-1))=true then (if q>0 then Fb f (Ev p (n-(q+1)) n) (n+1) 0 else Fb f p (n+1) 0)
   else .ask (p.getD (n-1) 0) (p.getD n 0) λd=>if d=true then .ret (p,n,q) else Fb f p (n+1) (q+1)):=rfl
  rw[e]
  cases hc:lt (gt p n) (gt p (n-1)) with
  |true=>
   rw[if_pos rfl];have less:∀i,i<n->lt (gt p i) (gt p n)=false:=λi hi=>O.tr _ _ _ (O.asym _ _ hc) (hd i (n-1) (by omega) (by omega));by_cases h0:q>0
   .rw[if_pos h0];have bn:=Tr O (by omega) hq hd ha
    have bA:Dn lt (Ev p (n-(q+1)) n) (n+1):=λi j bB hj=>by
     by_cases cW:j<n
     .exact bn i j bB cW
     .have:j=n:=by omega
      subst this;by_cases hi:i=j
      .subst hi;exact O.irr _
      .rw[tZ (by omega) (by omega),tZ (by omega) (by omega),if_neg (by omega:¬(j-(q+1)<=j/\j<j))];split
       .exact less _ (by omega)
       .exact less _ (by omega)
    obtain⟨p',m,q',e1,e2,e3,e4,e5,e6,e7,e8⟩:=EE f (Ev p (n-(q+1)) n) (n+1) 0 (by rw[vR];omega) (by omega) bA (λi j h1 h2 h3 h4=>by
     have:i=j:=by omega
     subst this;exact O.irr _)
    exact⟨p',m,q',e1,by rw[e2,vR],e3.trans (sM _ _ _),by omega,by omega,e6,e7,e8⟩
   .rw[if_neg h0]
    have bA:Dn lt p (n+1):=λi j bB hj=>by
     by_cases cW:j<n
     .exact hd i j bB cW
     .have:j=n:=by omega
      subst this;by_cases hi:i=j
      .subst hi;exact O.irr _
      .exact less i (by omega)
    obtain⟨p',m,q',e1,e2,e3,e4,e5,e6,e7,e8⟩:=EE f p (n+1) 0 (by omega) (by omega) bA (λi j h1 h2 h3 h4=>by
     have:i=j:=by omega
     subst this;exact O.irr _)
    exact⟨p',m,q',e1,e2,e3,by omega,by omega,e6,e7,e8⟩
  |false=>
   rw[if_neg B0];have e':jX lt (Ma (p.getD (n-1) 0) (p.getD n 0) λd=>if d=true then .ret (p,n,q) else Fb f p (n+1) (q+1))=jX lt (if lt (gt p (n-1)) (gt p n)=true then .ret (p,n,q) else Fb f p (n+1) (q+1)):=rfl;rw[e']
   cases bf:lt (gt p (n-1)) (gt p n) with
   |true=>rw[if_pos rfl];exact⟨p,n,q,rfl,rfl,F1 _,Ak _,by omega,hq,hd,ha⟩
   |false=>
    rw[if_neg B0]
    have bA:Dn lt p (n+1):=λi j bB hj=>by
     by_cases cW:j<n
     .exact hd i j bB cW
     .have:j=n:=by omega
      subst this;by_cases hi:i=j
      .subst hi;exact O.irr _
      .exact O.tr _ _ _ bf (hd i (j-1) (by omega) (by omega))
    have ha2:Al lt p (n+1-(q+1+1)) (n+1):=λi j h1 h2 h3 h4=>by
     have ig:∀i,n-(q+1)<=i->i<n->lt (gt p i) (gt p n)=false:=λi g1 g2=>O.tr _ _ _ bf (ha i (n-1) g1 g2 (by omega) (by omega));have iu:∀i,n-(q+1)<=i->i<n->lt (gt p n) (gt p i)=false:=λi g1 g2=>O.tr _ _ _ (ha (n-1) i (by omega) (by omega) g1 g2) hc;by_cases hi:i<n
     .by_cases hj:j<n
      .exact ha i j (by omega) hi (by omega) hj
      .have:j=n:=by omega
       subst this;exact ig i (by omega) hi
     .have:i=n:=by omega
      subst this;by_cases hj:j<i
      .exact iu j (by omega) hj
      .have:j=i:=by omega
       subst this;exact O.irr _
    obtain⟨p',m,q',e1,e2,e3,e4,e5,e6,e7,e8⟩:=EE f p (n+1) (q+1) (by omega) (by omega) bA ha2;exact⟨p',m,q',e1,e2,e3,by omega,by omega,e6,e7,e8⟩
theorem į{p:Array Nat}{n:Nat}(hz:n<=p.size)(hd:Dn lt p n):Up lt (Ev p 0 n) n:=λi j bB hj=>by rw[tZ hz (by omega),tZ hz (by omega),if_pos (by omega),if_pos (by omega)];exact hd _ _ (by omega) (by omega)
theorem QE{p:Array Nat}{n nrem:Nat}(hn:n<=nrem)(h1:1<=n)(hz:nrem<=p.size)(hd:Dn lt p n):
  ∃m p',jX lt (Lu n nrem p)=(m,p')/\p'.size=p.size/\p'.Perm p/\1<=m/\m<=nrem/\Up lt p' m:=by
 unfold Lu;rw[sO];obtain⟨a1,a2,a3,_⟩:=LB O (nrem-n) n h1 (į O (by omega) hd);exact⟨_,_,rfl,vR _ _ _,sM _ _ _,by omega,by omega,a3⟩
theorem Pw{p:Array Nat}{n nrem:Nat}(hn:n+1<=nrem)(hz:nrem<=p.size)(hd:Dn lt p (n+1)):
  ∃m p',jX lt (Fc n nrem p)=(m,p')/\p'.size=p.size/\p'.Perm p/\1<=m/\m<=nrem/\Up lt p' m:=by
 unfold Fc;rw[sO]
 obtain⟨p',m,q',e1,e2,e3,e4,e5,e6,e7,e8⟩:=EE O (nrem-(n+1)) p (n+1) 0 (by omega) (by omega) hd (λi j h1 h2 h3 h4=>by
  have:i=j:=by omega
  subst this;exact O.irr _)
 rw[e1];dsimp only;by_cases hq:q'>0
 .rw[if_pos hq];obtain⟨m2,p2,t1,t2,t3,t4,t5,t6⟩:=QE O (p:=Ev p' (m-(q'+1)) m) (n:=m) (nrem:=nrem) (by omega) (by omega) (by rw[vR];omega) (Tr O (by omega) e6 e7 e8)
  exact⟨m2,p2,t1,by rw[t2,vR,e2],t3.trans ((sM _ _ _).trans e3),t4,t5,t6⟩
 .rw[if_neg hq];obtain⟨m2,p2,t1,t2,t3,t4,t5,t6⟩:=QE O (p:=p') (n:=m) (nrem:=nrem) (by omega) (by omega) (by omega) e7;exact⟨m2,p2,t1,by rw[t2,e2],t3.trans e3,t4,t5,t6⟩
theorem Æ{p:Array Nat}{nrem:Nat}(h1:1<=nrem)(hz:nrem<=p.size):
  ∃m p',jX lt (Lv nrem p)=(m,p')/\p'.size=p.size/\p'.Perm p/\1<=m/\m<=nrem/\Up lt p' m:=by
 unfold Lv;rw[sO]
 obtain⟨a1,a2,a3,a4⟩:=LB O (p:=p) (nrem-1) 1 (Ak _) (λi j bB hj=>by
  have:i=j:=by omega
  subst this;exact O.irr _)
 generalize jX lt (Ix p (nrem-1) 1)=n at a1 a2 a3 a4;by_cases e1:(n==nrem)=true
 .rw[if_pos e1];exact⟨n,p,rfl,rfl,F1 _,a1,by omega,a3⟩
 .rw[if_neg e1];have ak:n≠nrem:=λq=>e1 (by rw[q];exact beq_self_eq_true _)
  have ah:=a4 (by omega);by_cases e2:n>1
  .rw[if_pos e2];have e':jX lt (Ma (p.getD 0 0) (p.getD (n-1) 0) λc=>if c=true then .ret (n,p) else Fc n nrem (Ev p 0 n))=jX lt (if lt (gt p 0) (gt p (n-1))=true then .ret (n,p) else Fc n nrem (Ev p 0 n)):=rfl;rw[e']
   cases hc:lt (gt p 0) (gt p (n-1)) with
   |true=>rw[if_pos rfl];exact⟨n,p,rfl,rfl,F1 _,a1,by omega,a3⟩
   |false=>
    rw[if_neg B0]
    have all:∀i j,i<n->j<n->lt (gt p i) (gt p j)=false:=λi j hi hj=>O.tr _ _ _ (O.tr _ _ _ (a3 j (n-1) (by omega) (by omega)) hc) (a3 0 i (by omega) hi)
    obtain⟨m2,p2,t1,t2,t3,t4,t5,t6⟩:=Pw O (p:=Ev p 0 n) (n:=n) (nrem:=nrem) (by omega) (by rw[vR];exact hz) (λi j bB hj=>by
     rw[tZ (by omega) (by omega),tZ (by omega) (by omega)];by_cases cW:j<n
     .rw[if_pos (by omega),if_pos (by omega)];exact all _ _ (by omega) (by omega)
     .have:j=n:=by omega
      subst this;rw[if_neg (by omega:¬(0<=j/\j<j))];by_cases hi:i<j
      .rw[if_pos (by omega)];exact O.tr _ _ _ (O.asym _ _ ah) (all _ _ (by omega) (by omega))
      .rw[if_neg (by omega)]
       have:i=j:=by omega
       subst this;exact O.irr _)
    exact⟨m2,p2,t1,by rw[t2,vR],t3.trans (sM _ _ _),t4,t5,t6⟩
  .rw[if_neg e2]
   have:n=1:=by omega
   subst this
   obtain⟨m2,p2,t1,t2,t3,t4,t5,t6⟩:=Pw O (p:=p) (n:=1) (nrem:=nrem) (by omega) hz (λi j bB hj=>by
    by_cases fE:i=j
    .subst fE;exact O.irr _
    .have hi:i=0:=by omega
     have cy:j=1:=by omega
     subst hi cy
     exact O.asym _ _ ah)
   exact⟨m2,p2,t1,t2,t3,t4,t5,t6⟩
theorem KB(hu:Up lt p k):∀(f l r:Nat),r-l<=f->l<=r->r<=k->(∀i,i<l->lt (gt p k) (gt p i)=false)->(∀i,r<=i->i<k->lt (gt p i) (gt p k)=false) ->
  jX lt (F2 p k f l r)<=k/\(∀i,i<jX lt (F2 p k f l r)->lt (gt p k) (gt p i)=false)/\(∀i,jX lt (F2 p k f l r)<=i->i<k->lt (gt p i) (gt p k)=false)
 | 0,l,r,hf,hlr,hr,h1,h2=>⟨show l<=k by omega,h1,λi (g1:l<=i) g2=>h2 i (by omega) g2⟩
 |f+1,l,r,hf,hlr,hr,h1,h2=>by
  have e:jX lt (F2 p k (f+1) l r)=jX lt (if l>=r then .ret l else .ask (p.getD k 0) (p.getD ((l+r) / 2) 0) λc=>if c=true then F2 p k f l ((l+r) / 2) else F2 p k f ((l+r) / 2+1) r):=rfl;rw[e];by_cases gT:l>=r
  .rw[if_pos gT];exact⟨show l<=k by omega,h1,λi (g1:l<=i) g2=>h2 i (by omega) g2⟩
  .rw[if_neg gT]
   have e':jX lt (Ma (p.getD k 0) (p.getD ((l+r) / 2) 0) λc=>if c=true then F2 p k f l ((l+r) / 2) else F2 p k f ((l+r) / 2+1) r) =
    jX lt (if lt (gt p k) (gt p ((l+r) / 2))=true then F2 p k f l ((l+r) / 2) else F2 p k f ((l+r) / 2+1) r):=rfl
   rw[e']
   cases hc:lt (gt p k) (gt p ((l+r) / 2)) with
   |true=>rw[if_pos rfl];exact KB hu f l ((l+r) / 2) (by omega) (by omega) (by omega) h1 λi g1 g2=>O.tr _ _ _ (O.asym _ _ hc) (hu _ i g1 g2)
   |false=>rw[if_neg B0];exact KB hu f ((l+r) / 2+1) r (by omega) (by omega) hr (λi g1=>O.tr _ _ _ (hu i _ (by omega) (by omega)) hc) h2
theorem Sj:∀(f:Nat) (p:Array Nat) (k:Nat),k+f<=p.size->Up lt p k->∃p',jX lt (kas_bin f p k)=p'/\p'.size=p.size/\p'.Perm p/\Up lt p' (k+f)
 | 0,p,k,_,hu=>⟨p,rfl,rfl,F1 _,hu⟩
 |f+1,p,k,hz,hu=>by
  have e:jX lt (kas_bin (f+1) p k)=jX lt ((F2 p k k 0 k).bind λl=>kas_bin f (bubble p k (k-l)) (k+1)):=rfl;rw[e,sO];obtain⟨b1,b2,b3⟩:=KB O hu k 0 k (by omega) (by omega) (Ak _) (λi g=>by omega) (λi g1 g2=>by omega);generalize jX lt (F2 p k k 0 k)=l at b1 b2 b3
  have bg:∀x,gt (bubble p k (k-l)) x=if x=l then gt p k else if l<x/\x<=k then gt p (x-1) else gt p x:=λx=>by
   have e:=getElem?_bubble (xs:=p) (src:=k) (by omega) (k-l) (by omega) x
   have ek:k-(k-l)=l:=by omega
   rw[ek]at e;by_cases g1:x=l
   .rw[if_pos g1]at e ⊢;exact yS e
   .rw[if_neg g1]at e ⊢;by_cases g2:l<x/\x<=k
    .rw[if_pos g2]at e ⊢;exact yS e
    .rw[if_neg g2]at e ⊢;exact yS e
  have iP:Up lt (bubble p k (k-l)) (k+1):=λi j bB hj=>by
   by_cases fE:i=j
   .subst fE;exact O.irr _
   rw[bg,bg];by_cases hj1:j=l
   .rw[if_pos hj1,if_neg (by omega:¬i=l),if_neg (by omega:¬(l<i/\i<=k))];exact b2 i (by omega)
   .rw[if_neg hj1];by_cases hj2:l<j/\j<=k
    .rw[if_pos hj2];by_cases cY:i=l
     .rw[if_pos cY];exact b3 _ (by omega) (by omega)
     .rw[if_neg cY];by_cases dq:l<i/\i<=k
      .rw[if_pos dq];exact hu _ _ (by omega) (by omega)
      .rw[if_neg dq];exact hu _ _ (by omega) (by omega)
    .rw[if_neg hj2,if_neg (by omega:¬i=l),if_neg (by omega:¬(l<i/\i<=k))];exact hu _ _ bB (by omega)
  obtain⟨p',e1,e2,e3,e4⟩:=Sj f (bubble p k (k-l)) (k+1) (by rw[bubble_size];omega) iP
  exact⟨p',e1,by rw[e2,bubble_size],e3.trans (bubble_perm _ _ _),by rw[show k+(f+1)=k+1+f by omega];exact e4⟩
theorem QB{n:Nat}(hn:1<=n):∃p,jX lt (kas_sort n)=p/\p.size=n/\p.Perm (Bl (Aa n))/\Up lt p n:=by
 unfold kas_sort;rw[sO]
 have hz:(Bl (Aa n)).size=n:=by simp
 obtain⟨m,p',e1,e2,e3,e4,e5,e6⟩:=Æ O (p:=Bl (Aa n)) (nrem:=n) hn (by rw[hz];exact Ak _)
 rw[e1];dsimp only;by_cases h:m<n
 .rw[if_pos h]
  have em:Lh m 1=m:=by omega
  rw[em];obtain⟨p2,t1,t2,t3,t4⟩:=Sj O (n-m) p' m (by omega) e6;exact⟨p2,t1,by rw[t2,e2,hz],t3.trans e3,by rw[show n=m+(n-m) by omega];exact t4⟩
 .rw[if_neg h]
  have em:m=n:=by omega
  subst em;exact⟨p',rfl,by rw[e2,hz],e3,e6⟩
end
def mV{α:Type}(lt:Nat->Nat->Bool)(n:Nat):N2 α->Prop
 | .ret _=>True
 | .ask i j k=>i<n/\j<n/\mV lt n (k (lt i j))
def mP(n:Nat)(p:Array Nat):Prop:=0<n/\∀x,x∈p->x<n
section
variable{lt:Nat->Nat->Bool}{n:Nat}
theorem xY{α β:Type}{f:α->N2 β}:∀{t:N2 α},mV lt n t->mV lt n (f (jX lt t))->mV lt n (t.bind f)
 | .ret _,_,h=>h
 | .ask i j k,⟨h1,h2,h3⟩,h=>⟨h1,h2,xY (t:=k (lt i j)) h3 h⟩
theorem mP.gt{p:Array Nat}(h:mP n p)(i:Nat):p.getD i 0<n:=by
 rw[Gk]
 cases e:p[i]? with
 |none=>exact h.1
 |some x=>exact h.2 x (Array.mem_of_getElem? e)
def mP.perm{p q:Array Nat}(h:mP n p)(e:q.Perm p):mP n q:=⟨h.1,λx hx=>h.2 x (e.mem_iff.mp hx)⟩
theorem zJ{α:Type}{c:Bool}{t u:N2 α}(h1:mV lt n t)(h2:mV lt n u):mV lt n (if c=true then t else u):=by
 cases c with
 |true=>rw[if_pos rfl];exact h1
 |false=>rw[if_neg B0];exact h2
def xZ{α:Type}{c:Prop}[Decidable c]{t u:N2 α}(h1:mV lt n t)(h2:mV lt n u):mV lt n (if c then t else u):=by
 split
 .exact h1
 .exact h2
theorem LA{p:Array Nat}(h:mP n p):∀f m,mV lt n (Ix p f m)
 | 0,_=>trivial
 |f+1,m=>⟨h.gt _,h.gt _,zJ trivial (LA h f (m+1))⟩
theorem vI:∀(f:Nat) (p:Array Nat) (m q:Nat),mP n p->mV lt n (Fb f p m q)/\mP n (jX lt (Fb f p m q)).1
 | 0,p,_,_,h=>⟨trivial,h⟩
 |f+1,p,m,q,h=>by
  have hr:mP n (Ev p (m-(q+1)) m):=h.perm (sM _ _ _)
  have e:jX lt (Fb (f+1) p m q)=jX lt (if lt (p.getD m 0) (p.getD (m-1) 0)=true then (if q>0 then Fb f (Ev p (m-(q+1)) m) (m+1) 0 else Fb f p (m+1) 0)
   else .ask (p.getD (m-1) 0) (p.getD m 0) λd=>if d=true then .ret (p,m,q) else Fb f p (m+1) (q+1)):=rfl
  refine⟨⟨h.gt _,h.gt _,zJ (xZ (vI f _ _ _ hr).1 (vI f _ _ _ h).1) ⟨h.gt _,h.gt _,zJ trivial (vI f _ _ _ h).1⟩⟩,?_⟩;rw[e]
  cases lt (p.getD m 0) (p.getD (m-1) 0) with
  |true=>
   rw[if_pos rfl];split
   .exact(vI f _ _ _ hr).2
   .exact(vI f _ _ _ h).2
  |false=>
   rw[if_neg B0];have e':jX lt (Ma (p.getD (m-1) 0) (p.getD m 0) λd=>if d=true then .ret (p,m,q) else Fb f p (m+1) (q+1))=jX lt (if lt (p.getD (m-1) 0) (p.getD m 0)=true then .ret (p,m,q) else Fb f p (m+1) (q+1)):=rfl;rw[e']
   cases lt (p.getD (m-1) 0) (p.getD m 0) with
   |true=>rw[if_pos rfl];exact h
   |false=>rw[if_neg B0];exact(vI f _ _ _ h).2
def EK{p:Array Nat}{a b:Nat}(h:mP n p):mV lt n (Lu a b p)/\mP n (jX lt (Lu a b p)).2:=by have hr:mP n (Ev p 0 a):=h.perm (sM _ _ _);refine⟨xY (LA hr _ _) trivial,?_⟩;unfold Lu;rw[sO];exact hr
def DF{p:Array Nat}{a b:Nat}(h:mP n p):mV lt n (Fc a b p)/\mP n (jX lt (Fc a b p)).2:=by
 obtain⟨d1,d2⟩:=vI (lt:=lt) (b-(a+1)) p (a+1) 0 h;unfold Fc;rw[sO];refine⟨xY d1 ?_,?_⟩
 .exact xZ (EK (d2.perm (sM _ _ _))).1 (EK d2).1
 .split
  .exact(EK (d2.perm (sM _ _ _))).2
  .exact(EK d2).2
def Å{p:Array Nat}{b:Nat}(h:mP n p):mV lt n (Lv b p)/\mP n (jX lt (Lv b p)).2:=by
 have hr:∀m,mP n (Ev p 0 m):=λm=>h.perm (sM _ _ _);unfold Lv;rw[sO];generalize hm:jX lt (Ix p (b-1) 1)=m;refine⟨xY (LA h _ _) ?_,?_⟩
 .rw[hm];exact xZ trivial (xZ ⟨h.gt _,h.gt _,zJ trivial (DF (hr m)).1⟩ (DF h).1)
 .split
  .exact h
  .split
   .have e':jX lt (Ma (p.getD 0 0) (p.getD (m-1) 0) λc=>if c=true then .ret (m,p) else Fc m b (Ev p 0 m))=jX lt (if lt (p.getD 0 0) (p.getD (m-1) 0)=true then .ret (m,p) else Fc m b (Ev p 0 m)):=rfl;rw[e']
    cases lt (p.getD 0 0) (p.getD (m-1) 0) with
    |true=>rw[if_pos rfl];exact h
    |false=>rw[if_neg B0];exact(DF (hr m)).2
   .exact(DF h).2
theorem KA{p:Array Nat}{k:Nat}(h:mP n p):∀f l r,mV lt n (F2 p k f l r)
 | 0,_,_=>trivial
 |f+1,l,r=>xZ (t:=.ret l) trivial ⟨h.gt _,h.gt _,zJ (KA h f _ _) (KA h f _ _)⟩
theorem Si:∀(f:Nat) (p:Array Nat) (k:Nat),mP n p->mV lt n (kas_bin f p k)
 | 0,_,_,_=>trivial
 |f+1,p,k,h=>xY (KA h _ _ _) (Si f _ _ (h.perm (bubble_perm _ _ _)))
def QA(hn:0<n):mV lt n (kas_sort n):=by have h:mP n (Bl (Aa n)):=⟨hn,λx hx=>by simpa using hx⟩;obtain⟨c1,c2⟩:=Å (lt:=lt) (b:=n) h;exact xY c1 (xZ (Si _ _ _ c2) trivial)
end
theorem HC{α:Type}{lt:Nat->Nat->Bool}{n:Nat}{cK:Nat->Nat->(Bool->Am->Prop)->Am->Prop}{Ok:Am->Prop}(hc:∀i j C s,i<n->j<n->Ok s->(∀s',Ok s'->C (lt i j) s')->cK i j C s){Q:α->Am->Prop}:
  ∀(t:N2 α) (s:Am),mV lt n t->Ok s->(∀s',Ok s'->Q (jX lt t) s')->t.kasWp cK Q s
 | .ret a,s,_,ok,q=>q s ok
 | .ask i j k,s,⟨h1,h2,h3⟩,ok,q=>hc i j _ s h1 h2 ok λs' ok'=>HC hc (k (lt i j)) s' h3 ok' q
end L3
namespace L3
open PySem PySem.Spec PyProof.Rows L2 PySem.SeqAt PySem.W
theorem OF:∀a:List Int,HT.lexLt a a=false
 | []=>rfl
 |x::xs=>by rw[HT.lexLt_cons,if_pos rfl];exact OF xs
theorem CY:∀a b:List Int,HT.lexLt a b=true->HT.lexLt b a=false
 | [],[],h=>by cases h
 | [],_::_,_=>rfl
 |_::_,[],h=>by cases h
 |x::xs,y::ys,h=>by
  rw[HT.lexLt_cons]at h ⊢;by_cases e:x=y
  .rw[if_pos e]at h;rw[if_pos e.symm];exact CY xs ys h
  .rw[if_neg e]at h;rw[if_neg (Cw e)]
   have:=of_decide_eq_true h
   exact decide_eq_false (by omega)
theorem xV:∀a b c:List Int,HT.lexLt b a=false->HT.lexLt c b=false->HT.lexLt c a=false
 |a,b,[],h1,h2=>by
  cases a with
  |nil=>rfl
  |cons x xs=>
   cases b with
   |nil=>cases h1
   |cons y ys=>cases h2
 |a,[],z::zs,h1,h2=>by
  cases a with
  |nil=>rfl
  |cons x xs=>cases h1
 | [],y::ys,z::zs,h1,h2=>rfl
 |x::xs,y::ys,z::zs,h1,h2=>by
  rw[HT.lexLt_cons]at h1 h2 ⊢;by_cases e1:y=x
  .rw[if_pos e1]at h1;by_cases e2:z=y
   .rw[if_pos e2]at h2;rw[if_pos (e2.trans e1)];exact xV xs ys zs h1 h2
   .rw[if_neg e2]at h2
    have:=of_decide_eq_false h2
    rw[if_neg (by omega)];exact decide_eq_false (by omega)
  .rw[if_neg e1]at h1;have g1:=of_decide_eq_false h1;by_cases e2:z=y
   .rw[if_neg (by omega)];exact decide_eq_false (by omega)
   .rw[if_neg e2]at h2;have g2:=of_decide_eq_false h2;rw[if_neg (by omega)];exact decide_eq_false (by omega)
theorem JV:∀a b:List Int,HT.lexLt a b=false->HT.lexLt b a=false->a=b
 | [],[],_,_=>rfl
 | [],_::_,h,_=>by cases h
 |_::_,[],_,h=>by cases h
 |x::xs,y::ys,h1,h2=>by
  rw[HT.lexLt_cons]at h1 h2;by_cases e:x=y
  .rw[if_pos e]at h1;rw[if_pos e.symm]at h2;rw[e,JV xs ys h1 h2]
  .rw[if_neg e]at h1;rw[if_neg (Cw e)]at h2;have g1:=of_decide_eq_false h1;have g2:=of_decide_eq_false h2;omega
theorem HG{α:Type}{le:α->α->Prop}(cC:∀a b,le a b->le b a->a=b):∀{xs ys:List α},xs.Perm ys->xs.Pairwise le->ys.Pairwise le->(∀a,le a a)->xs=ys
 | [],ys,p,_,_,_=>(List.nil_perm.mp p).symm
 |x::xs,ys,p,h1,h2,rf=>by
  cases ys with
  |nil=>exact absurd (List.perm_nil.mp p) (by simp)
  |cons y ys=>
   have hx:=D5.mp h1;have hy:=D5.mp h2
   have e:x=y:=by
    have m1:x∈y::ys:=p.mem_iff.mp A6;have m2:y∈x::xs:=p.mem_iff.mpr A6;refine cC x y ?_ ?_
    .rcases Ad.mp m2 with z|z
     .rw[z];exact rf x
     .exact hx.1 y z
    .rcases Ad.mp m1 with z|z
     .rw[z];exact rf y
     .exact hy.1 x z
   subst e;rw[HG cC (List.perm_cons x |>.mp p) hx.2 hy.2 rf]
def lL(a b:List Int):Bool:=!HT.lexLt b a
def uU(nss:List (List Int)):List (List Int):=nss.mergeSort lL
def HF(nss:List (List Int)):(uU nss).Perm nss:=Dh nss lL
def RB(nss:List (List Int)):(uU nss).Pairwise λa b=>HT.lexLt b a=false:=by
 have h:=Dr (le:=lL) (l:=nss) (λa b c h1 h2=>by
  unfold lL at h1 h2 ⊢;simp only[Fd]at h1 h2 ⊢
  exact xV a b c h1 h2) (λa b=>by
  unfold lL
  cases h:HT.lexLt b a with
  |false=>rfl
  |true=>rw[CY b a h];rfl)
 exact h.imp λq=>by unfold lL at q;simpa using q
def sU(ns:List Int):List Int:=ns.mergeSort λa b=>decide (a<=b)
def YS(ns:List Int):(sU ns).Perm ns:=Dh ns _
def Wi(ns:List Int):(sU ns).Pairwise (·<=·):=by
 have h:=Dr (le:=λa b:Int=>decide (a<=b)) (l:=ns) (λa b c h1 h2=>by
  have:=of_decide_eq_true h1
  have:=of_decide_eq_true h2
  exact decide_eq_true (by omega)) (λa b=>by
  by_cases h:a<=b
  .simp[h]
  .simp;omega)
 exact h.imp λq=>of_decide_eq_true q
section
variable{prog:By}{w:Cg}{A:C6}{E:VP}{s:Am}
def Ph(vs:List Ac):(Aa vs.length).map (λi=>vs.getD i C8)=vs:=by
 apply Iq
 .simp
 .intro i h1 h2;simp[List.getElem_map,h2]
def Wj{a:Aw}{vs:List Ac}{P:Lw->Am->Prop}(O:mY lt)(ho:s.heap.get? a=some (Bd "list" vs.toArray n))(fj:vs.length<64)(hk:2<=vs.length->∀h:Cl,(∀b o,b≠a->s.heap.get? b=some o->h.get? b=some o)->∀Q:SortKind->Am->Prop,Q κ { s with heap:=h }->Ar (B2 prog w) A (My vs.toArray) Q (λ_ _=>False) { s with heap:=h })
  (hc:∀h:Cl,(∀b o,b≠a->s.heap.get? b=some o->h.get? b=some o)->∀i j,i<vs.length->j<vs.length->∀C:Bool->Am->Prop,C (lt i j) { s with heap:=h } ->
   Ar (B2 prog w) A (keyLt' κ (vs.getD i C8) (vs.getD j C8)) C (λ_ _=>False) { s with heap:=h })
  (fin:∀p:Array Nat,p.size=vs.length->p.Perm (Bl (Aa vs.length))->Up lt p vs.length->P (.done (.ret .none)) { s with heap:=sortedHeap s.heap a vs (Bl (p.toList.map λi=>vs.getD i C8)) }):
  Ar (B2 prog w) A (D0.«list.sort» ⟨[.ref a],[]⟩) P E s:=by
 rw[list_sort_plain];have ah:a<s.heap.objs.size:=Ao ho
 have hzz:vs.toArray.size<=sizeLine:=by rw[Ag,C1];omega
 refine A4 (Jo ho rfl (A4 (Gg ho rfl ?_ hzz (Bh _))));obtain⟨e1,gF⟩:∃e1,(s.heap.update a (Cd λ_=>(#[]:Array Ac))).get? a=some (Bd "list" #[] e1):=⟨_,get?_update_seq ho (λ_=>#[])⟩;refine A4 (Lk gF rfl (A4 (wpAny_newTuple (A4 (Hn (Cu ?_) (Bh _))) (by show vs.length<=_;rw[C1];omega))))
 generalize hS:({ s with heap:=((s.heap.update a (Cd λ_=>(#[]:Array Ac))).push (Bd "tuple" vs.toArray 0)).push (Bd "list" #[] 0) }:Am)=S6
 have hh6:S6.heap=((s.heap.update a (Cd λ_=>(#[]:Array Ac))).push (Bd "tuple" vs.toArray 0)).push (Bd "list" #[] 0):=by rw[<-hS]
 have e6:S6={ s with heap:=S6.heap }:=by rw[<-hS]
 have ho6:S6.heap.get? a=some (Bd "list" #[] e1):=by
  rw[hh6,Cl.get?_push_ne _ _ _ (by rw[M8,Gz];exact At (Ca ah)),Cl.get?_push_ne _ _ _ (by rw[Gz];exact At ah)]
  exact gF
 have kept:∀b o,b≠a->s.heap.get? b=some o->S6.heap.get? b=some o:=λb o hb e=>by rw[hh6];exact A8 _ (A8 _ ((Bn _ _ (Cw hb)).trans e))
 show Ar (B2 prog w) A _ P E S6;dsimp only
 have bU:∀(aR:SortSt) (p:Array Nat),p.size=vs.length->p.Perm (Bl (Aa vs.length))->Up lt p vs.length->(arrOf aR).map (·.2)=Bl (p.toList.map λi=>vs.getD i C8)->Mb aR=none ->
   Ar (B2 prog w) A (do
    let touched:=(<-seqEpoch a) != e1
    D0.List.listUpdate (.ref a) λ_=>(arrOf aR).map (·.2)
    if let some e:=Mb aR then rule "list.sort.comparison-raised";throw e
    if touched then rule "list.sort.modified";raiseError "ValueError" "list modified during sort"
    ret .none) P E S6:=λaR p h1 h2 h3 h4 h5=>by
  refine A4 (Lk ho6 rfl ?_);refine A4 (Gg ho6 rfl ?_ (Bh _) ?_)
  .rw[h5,h4];simp only[bne_self_eq_false,Es,if_false];have z:=fin p h1 h2 h3;unfold sortedHeap at z;rw[<-hh6]at z;refine wpAny_pure ?_;rw[e6];exact z
  .rw[h4];show (Bl (p.toList.map λi=>vs.getD i C8)).size<=sizeLine+1;rw[Ag,A0,B1,h1,C1];omega
 by_cases h2:vs.toArray.size<2
 .rw[if_pos h2,if_pos h2];refine A4 (wpAny_pure ?_);rw[StateT.run_pure];refine A4 (wpAny_pure ?_);dsimp only;refine bU (SortSt.mk' general' (vs.toArray.zip vs.toArray) #[] 7 none) (Bl (Aa vs.length)) (by simp) (F1 _) (λi j bB hj=>?_) ?_ rfl
  .have:i=j:=by rw[Ag]at h2;omega
   subst this;exact O.irr _
  .rw[show (Bl (Aa vs.length)).toList=Aa vs.length from rfl,Ph];apply Array.toList_inj.mp;show ((vs.toArray.zip vs.toArray).map (·.2)).toList=vs;apply Iq
   .simp
   .intro i g1 g2;simp
 .rw[if_neg h2,if_neg h2]
  have cP:2<=vs.length:=by rw[Ag]at h2;omega
  have zk:=hk cP S6.heap kept (λκ' s'=>κ'=κ/\s'=S6) ⟨rfl,e6.symm⟩;rw[<-e6]at zk;refine A4 (Cc zk (λκ' s' hq=>?_) λ_ _ x=>x.elim);obtain⟨fB,gA⟩:=hq;rw[fB,gA];obtain⟨p,ep,p1,p2,p3⟩:=QB O (n:=vs.length) (by omega)
  refine A4 (Cc (kat_run (ks:=vs) (vs:=vs) (Q:=λaR s'=>∃q,q.size=vs.length/\arrOf aR=q.map (kas_item (vs.toArray.zip vs.toArray))/\Mb aR=none/\q=p/\s'=S6) rfl cP fj (λq aR s' a1 a2 a3 a4=>⟨q,a1,a2,a3,a4⟩)
   (HC (lt:=lt) (n:=vs.length) (Ok:=λs'=>s'=S6) (λi j C s' hi hj hs hC=>?_) _ S6 (QA (by omega)) rfl (λs' hs=>⟨ep,hs⟩))) ?_ λ_ _ e=>e)
  .rw[hs];unfold kas_ask;have z0:=hC S6 rfl;rw[e6]at z0;have z:=hc S6.heap kept i j hi hj C z0;rw[<-e6]at z;exact z
  .rintro ⟨⟨⟩,aR⟩ s' ⟨q,q1,q2,q3,hqp,hqs⟩;rw[hqs];rw[hqp]at q2;exact bU aR p p1 p2 p3 (kat_snds rfl q2) q3
def O9{us:List Ac}{Q:List Ac->Am->Prop}(ht:Kq s.heap l us.toArray)(q:Q us { s with heap:=(s.heap.push (Bd "list" #[] 0)).update s.heap.objs.size (Cd (·++us.toArray)) })(hz:us.length<=sizeLine):Ar (B2 prog w) A (Mc (.ref l)) Q E s:=by
 obtain⟨ob,hob,az,n,hdt⟩:=id ht;have ia:(s.heap.push (Bd "list" #[] 0)).get? l=some ob:=A8 _ hob;unfold Mc;refine A4 (Ll (codeAny_builtin entry_proto_collect' (A4 (Hn (wpAny_pure ⟨Code.quiet_builtin _ (by decide +kernel),codeAny_builtin entry_list_iadd' ?_⟩)))));show Ar _ _ (D0.List.listExtendWith (.ref s.heap.objs.size) (.ref l) (.ref s.heap.objs.size)) _ _ { s with heap:=s.heap.push (Bd "list" #[] 0) }
 unfold D0.List.listExtendWith;refine A4 (Jn (T:="tuple") ⟨ob,ia,az⟩ ?_);rw[if_pos (by rw[show (D3 "tuple"==D3 "tuple")=true by rfl];simp)]
 refine A4 (Jo ia hdt (A4 (Jo (xs:=#[]) (n:=0) (Au _ rfl) rfl ?_)));rw[if_neg (by simp)];refine A4 (Gg (xs:=#[]) (n:=0) (Au _ rfl) rfl (wpAny_pure ?_) (Bh _) (by show (#[]++us.toArray).size<=sizeLine+1;simp only[Array.size_append,Ag,Bx];omega))
 refine A4 (Mo (get?_update_seq (Au _ rfl) _) ?_);show Ar _ _ (Cj ((#[]:Array Ac)++us.toArray).toList) Q E _;rw[show ((#[]:Array Ac)++us.toArray).toList=us by simp];exact wpAny_pure q
def Pj{us:List Ac}{Q:VP}(O:mY lt)(hl:s.heap.IsList l us.toArray\/Kq s.heap l us.toArray)(fj:us.length<64)(hk:2<=us.length->∀h:Cl,(∀b o,s.heap.get? b=some o->h.get? b=some o)->∀Q':SortKind->Am->Prop,Q' κ { s with heap:=h }->Ar (B2 prog w) A.in1.in1 (My us.toArray) Q' (λ_ _=>False) { s with heap:=h })
  (hc:∀h:Cl,(∀b o,s.heap.get? b=some o->h.get? b=some o)->∀i j,i<us.length->j<us.length->∀C:Bool->Am->Prop,C (lt i j) { s with heap:=h } ->
   Ar (B2 prog w) A.in1.in1 (keyLt' κ (us.getD i C8) (us.getD j C8)) C (λ_ _=>False) { s with heap:=h })
  (fin:∀p:Array Nat,p.size=us.length->p.Perm (Bl (Aa us.length))->Up lt p us.length->Q (.ref (s.heap.objs.size+1)) { s with heap:=sortedAll s.heap us (Bl (p.toList.map λi=>us.getD i C8)) }):
  Ar (B2 prog w) A (call (.builtin "sorted") [.ref l]) Q E s:=by
 have hz:us.length<=sizeLine:=by rw[C1];omega
 have h1:((s.heap.push (Bd "list" #[] 0)).update s.heap.objs.size (Cd (·++us.toArray))).objs.size=s.heap.objs.size+1:=by rw[Gz,M8]
 have h2:(((s.heap.push (Bd "list" #[] 0)).update s.heap.objs.size (Cd (·++us.toArray))).push (Bd "list" us.toArray 0)).get? (s.heap.objs.size+1)=some (Bd "list" us.toArray 0):=by have e:=Au ((s.heap.push (Bd "list" #[] 0)).update s.heap.objs.size (Cd (·++us.toArray))) (o:=Bd "list" us.toArray 0) rfl;rw[h1]at e;exact e
 have h3:∀b o,s.heap.get? b=some o->(((s.heap.push (Bd "list" #[] 0)).update s.heap.objs.size (Cd (·++us.toArray))).push (Bd "list" us.toArray 0)).get? b=some o:=λb o e=>A8 _ ((Bn _ _ (Cw (At (Ao e)))).trans (A8 _ e))
 refine Calls.call_function_entry kind_sorted plain_sorted entry_sorted (args_sorted1 _) ?_;unfold D0.«sorted»;refine A4 (m:=checkCount "sorted" 1 1 _) (wpAny_pure ?_)
 have col:∀{A':C6} {E':VP} {Q':List Ac->Am->Prop},Q' us { s with heap:=(s.heap.push (Bd "list" #[] 0)).update s.heap.objs.size (Cd (·++us.toArray)) }->Ar (B2 prog w) A' (Mc (.ref l)) Q' E' s:=λq=>by
  rcases hl with hl|hl
  .exact collect_list hl q hz
  .exact O9 hl q hz
 refine A4 (col (A4 (Hn ?_ hz)));show Ar _ _ _ _ _ { s with heap:=((s.heap.push (Bd "list" #[] 0)).update s.heap.objs.size (Cd (·++us.toArray))).push (Bd "list" us.toArray 0) };rw[h1]
 refine A4 (Cu (Fn slot_list_sort ⟨_,h2,rfl⟩ entry_list_sort (Wj (κ:=κ) O h2 fj (λg2 h dS Q' q'=>hk g2 h (λb o e=>dS b o (At (Ca (Ao e))) (h3 b o e)) Q' q')
  (λh dS i j hi hj C hC=>hc h (λb o e=>dS b o (At (Ca (Ao e))) (h3 b o e)) i j hi hj C hC) (λp a1 a2 a3=>⟨_,rfl,wpAny_pure ⟨_,rfl,fin p a1 a2 a3⟩⟩)) (args_list_sort _)))
theorem IZ{Q:Bool->Am->Prop}:∀{us ws:List Ac} {ns ms:List Int},C2 us ns->C2 ws ms->∀(i:Nat) (fin:Bool),fin=decide (ns.length<ms.length)->Q (HT.lexLt ns ms) s ->
  KatLex prog w A b fin Q (us.zip ws) i s
 |_,_,_,_,.nil,.nil,i,fin,e,q=>by subst e;exact kat_nil q
 |_,_,_,_,.nil,.cons m t h,i,fin,e,q=>by
  have e':fin=true:=by rw[e];simp
  rw[e'];exact kat_nil q
 |_,_,_,_,.cons n t h,.nil,i,fin,e,q=>by
  have e':fin=false:=by rw[e];simp
  rw[e'];exact kat_nil q
 |_,_,_,_,.cons n t h,.cons m t' h',i,fin,e,q=>by
  rw[E5];refine kat_cons (Fo.int_int n t m t' prog w _ _ ?_);rw[HT.lexLt_cons]at q;by_cases dH:n=m
  .rw[show (n==m)=true by simpa using dH];rw[if_pos dH]at q;exact kat_yes (IZ h h' (i+1) fin (by rw[e];simp) q)
  .rw[show (n==m)=false by simpa using dH];rw[if_neg dH]at q;refine kat_no ?_
   cases (b&&i==0) with
   |true=>exact oneLt_int q
   |false=>exact kat_one _ _ (lt_int q)
end
def nI:List D->Option (List (List Int))
 | []=>some []
 | .tup xs::r=>(match lE xs with|some (n::ns)=>(nI r).map ((n::ns)::·)|_=>none)
 |_::_=>none
theorem DH:∀{ds:List D} {nss:List (List Int)},nI ds=some nss->ds=nss.map (λns=>D.tup (ns.map D.int))/\∀ns∈nss,ns≠[]
 | [],nss,e=>by cases e;exact⟨rfl,λ_ h=>by simp at h⟩
 | .tup xs::r,nss,e=>by
  unfold nI at e;split at e
  .rename_i n ns h1;obtain⟨mss,h2,rfl⟩:=Bj.mp e;obtain⟨h3,h4⟩:=DH h2;refine⟨by rw[h3,Z7 h1];rfl,λms hm=>?_⟩
   rcases Ad.mp hm with z|z
   .rw[z];simp
   .exact h4 ms z
  .cases e
 | .non::r,_,e=>by unfold nI at e;cases e
 | .bl _::r,_,e=>by unfold nI at e;cases e
 | .str _::r,_,e=>by unfold nI at e;cases e
 | .int _::r,_,e=>by unfold nI at e;cases e
 | .lst _::r,_,e=>by unfold nI at e;cases e
theorem DC:∀{nss:List (List Int)},(∀ns∈nss,ns≠[])->nI (nss.map λns=>D.tup (ns.map D.int))=some nss
 | [],_=>rfl
 |ns::nss,h=>by
  cases ns with
  |nil=>exact absurd rfl (h [] A6)
  |cons n ns=>rw[Aj,nI,Yv];dsimp only;rw[DC λms hm=>h ms (A7 _ hm)];rfl
def qI(ds:List D):Option (List D):=if ds.length<64 then
  (match lE ds with
  |some ns=>some ((sU ns).map D.int)
  |none=>(match nI ds with|some nss=>some ((uU nss).map λns=>D.tup (ns.map D.int))|none=>none))
 else none
section
variable{X:Cx}
def MR{α:Type}{p:Array Nat}{us:List α}{d:α}(hp:p.Perm (Bl (Aa us.length))):(p.toList.map λi=>us.getD i d).Perm us:=by
 have h1:p.toList.Perm (Aa us.length):=Array.perm_iff_toList_perm.mp hp;have h2:=h1.map (λi=>us.getD i d)
 have h3:(Aa us.length).map (λi=>us.getD i d)=us:=by
  apply Iq
  .simp
  .intro i g1 g2;simp[List.getElem_map,g2]
 rw[h3]at h2;exact h2
theorem MT{K:A5}{H:Hp}{ds:List D}{xs:List V}(h:J3 K H ds xs):∀is:List Nat,(∀i∈is,i<ds.length)->J3 K H (is.map λi=>ds.getD i .non) (is.map λi=>xs.getD i .non)
 | [],_=>J3.nil
 |i::is,hi=>by have h1:i<ds.length:=hi i A6;obtain⟨v,e,r⟩:=h.get (A3 h1);rw[Aj,Aj];refine J3.cons ?_ (MT h is λj hj=>hi j (A7 _ hj));rw[Q4 (A3 h1),Q4 e];exact r
theorem MU(h:W3 xs us):∀is:List Nat,(∀i∈is,i<xs.length)->W3 (is.map λi=>xs.getD i .non) (is.map λi=>us.getD i C8)
 | [],_=>.nil
 |i::is,hi=>by have h1:i<xs.length:=hi i A6;obtain⟨v,e,r⟩:=h.get (A3 h1);rw[Aj,Aj];refine .cons ?_ (MU h is λj hj=>hi j (A7 _ hj));rw[Q4 (A3 h1),Q4 e];exact r
def xO{p:Array Nat}(hp:p.Perm (Bl (Aa n))):∀i∈p.toList,i<n:=λi hi=>by
 have:=(Array.perm_iff_toList_perm.mp hp).mem_iff.mp hi
 simpa using this
def HN{p:Array Nat}{n:Nat}(hz:p.size=n)(h:Up lt p n):p.toList.Pairwise λi j=>lt j i=false:=by
 rw[Ey];intro i j hi hj bB
 have bo:i<p.size:=by simpa using hi
 have cy:j<p.size:=by simpa using hj
 have e:=h i j (De bB) (by omega);unfold gt at e
 have e1:p.getD i 0=p.toList[i]:=by simp[L4,bo]
 have e2:p.getD j 0=p.toList[j]:=by simp[L4,cy]
 rw[e1,e2]at e;exact e
theorem OB:∀{its:List Ac} {ns:List Int},C2 its ns->2<=its.length->My its.toArray=Cj oneType'
 | [],_,_,h=>absurd h (by simp)
 | [_],_,_,h=>absurd h (by simp)
 |v1::v2::r,ns,hi,_=>keyKind_ints hi
def DZ(hi:C2 its ns){i:Nat}(h:i<its.length):∃t,its.getD i C8 = .int (ns.getD i 0) t:=by
 have hl:=hi.length
 have h2:i<ns.length:=by omega
 obtain⟨t,e⟩:=hi.get i ns[i] (A3 h2);exact⟨t,by rw[Q4 e,Q4 (A3 h2)]⟩
def à(ns:List Int):mY (λi j=>decide (ns.getD i 0<ns.getD j 0)):=
 ⟨λi j h=>by
  have:=of_decide_eq_true h
  exact decide_eq_false (by omega),λi j k h1 h2=>by
  have:=of_decide_eq_false h1
  have:=of_decide_eq_false h2
  exact decide_eq_false (by omega)⟩
def á(nss:List (List Int)):mY (λi j=>HT.lexLt (nss.getD i []) (nss.getD j [])):=
 ⟨λi j h=>CY _ _ h,λi j k h1 h2=>xV _ _ _ h1 h2⟩
def â{ns:List Int}{p:Array Nat}(p1:p.size=ns.length)(p2:p.Perm (Bl (Aa ns.length)))(p3:Up (λi j=>decide (ns.getD i 0<ns.getD j 0)) p ns.length):
  (p.toList.map λi=>(ns.map D.int).getD i .non)=(sU ns).map D.int:=by
 have e:(p.toList.map λi=>(ns.map D.int).getD i .non)=(p.toList.map λi=>ns.getD i 0).map D.int:=by rw[B8];apply B6;intro i hi;have h2:i<ns.length:=xO p2 i hi;show (ns.map D.int).getD i .non=D.int (ns.getD i 0);rw[Q4 (x:=D.int ns[i]) (by rw[As,A3 h2];rfl),Q4 (A3 h2)]
 rw[e];congr 1;refine HG (le:=λa b:Int=>a<=b) (λa b h1 h2=>by omega) ((MR p2).trans (YS ns).symm) ?_ (Wi ns) (λa=>Ja a);rw[Br]
 exact(HN p1 p3).imp λh=>by
  have:=of_decide_eq_false h
  omega
def ã{nss:List (List Int)}{p:Array Nat}(p1:p.size=nss.length)(p2:p.Perm (Bl (Aa nss.length)))(p3:Up (λi j=>HT.lexLt (nss.getD i []) (nss.getD j [])) p nss.length):
  (p.toList.map λi=>(nss.map λns=>D.tup (ns.map D.int)).getD i .non)=(uU nss).map λns=>D.tup (ns.map D.int):=by
 have e:(p.toList.map λi=>(nss.map λns=>D.tup (ns.map D.int)).getD i .non)=(p.toList.map λi=>nss.getD i []).map λns=>D.tup (ns.map D.int):=by rw[B8];apply B6;intro i hi;have h2:i<nss.length:=xO p2 i hi;show (nss.map λns=>D.tup (ns.map D.int)).getD i .non=D.tup ((nss.getD i []).map D.int);rw[Q4 (x:=D.tup (nss[i].map D.int)) (by rw[As,A3 h2];rfl),Q4 (A3 h2)]
 rw[e];congr 1;refine HG (le:=λa b:List Int=>HT.lexLt b a=false) (λa b h1 h2=>JV a b h2 h1) ((MR p2).trans (HF nss).symm) ?_ (RB nss) (λa=>OF a);rw[Br];exact(HN p1 p3).imp λh=>h
def wU(I:d4 X aa U H s){ns:List Int}(hr:i5 X.K H (D.tup (ns.map D.int)) x)(rv:i6 x u):
  ∃a o its n,u = .ref a/\s.heap.get? a=some o/\o.cls = .type "tuple"/\o.data = .seq its n/\C2 its.toList ns:=by
 obtain⟨a,xs,rfl,h1,h2⟩:=j3.mp hr;rw[Y6]at h2;subst h2;cases rv;obtain⟨its,r,p,_⟩:=I.tuple h1;obtain⟨o,ho,hc,n,hd⟩:=p;exact⟨a,o,its.toArray,n,rfl,ho,hc,hd,W1 r⟩
theorem LN(I:d4 X aa U H s){h:Cl}(hk:∀b o,s.heap.get? b=some o->h.get? b=some o):∀{nss:List (List Int)} {us:List V} {its:List Ac},(∀ns∈nss,ns≠[]) ->
  J3 X.K H (nss.map λns=>D.tup (ns.map D.int)) us->W3 us its->∃fs,KatTups h its fs/\fs.length=its.length/\∀v∈fs,∃n t,v=Gw n t
 | [],us,its,_,hr,rv=>by rw[G6,K7]at hr;subst hr;cases rv;exact⟨[],KatTups.nil,rfl,λv hv=>by simp at hv⟩
 |ns::nss,us,its,ak,hr,rv=>by
  rw[Aj,j9]at hr;obtain⟨x,xs,rfl,h1,h2⟩:=hr
  cases rv with
  |cons r1 r2=>
   obtain⟨fs,t1,t2,t3⟩:=LN I hk (λms hm=>ak ms (A7 _ hm)) h2 r2;obtain⟨a,o,js,n,rfl,ho,hc,hd,hi⟩:=wU I h1 r1
   cases ns with
   |nil=>exact absurd rfl (ak [] A6)
   |cons m ms=>
    obtain⟨t,e⟩:=hi.get 0 m rfl
    have e':js[0]?=some (Gw m t):=by simpa using e
    refine⟨Gw m t::fs,KatTups.cons (hk _ _ ho) hc hd e' t1,by simp[t2],λv hv=>?_⟩;rcases Ad.mp hv with z|z
    .exact⟨m,t,z⟩
    .exact t3 v z
def Sb(K:A5):List V->Hp->VK->Prop:=λxs H Q=>∃a us ds es Hh,xs=[.ref a]/\J0 Hh H/\(jE K H a us\/jF K H a us)/\J3 K Hh ds us/\qI ds=some es/\∀p ys,H p=none->J3 K Hh es ys->Q (.ref p) (upd H p (.lst ys))
def UM:lN X (.builtin "sorted") (Sb X.K):=by
 intro aa s U H xs vs Q I r h;obtain⟨a,us,ds,es,Hh,rfl,sH,hq,hr0,hs,q⟩:=h;have hr:=hr0.mono sH;obtain⟨u,rfl,ru⟩:=nH r;cases ru
 have src:∃its:List Ac,W3 us its/\(s.heap.IsList a its.toArray\/Kq s.heap a its.toArray):=by
  rcases hq with hq|hq
  .obtain⟨its,rv,pl,_⟩:=I.list hq;exact⟨its,rv,.inl pl.isList⟩
  .obtain⟨its,rv,pl,_⟩:=I.tuple hq;exact⟨its,rv,.inr pl⟩
 obtain⟨its,rv,hl⟩:=src;have l1:=hr.length;have l2:=rv.length;unfold qI at hs;split at hs
 .rename_i fj
  have fin:∀p:Array Nat,p.size=its.length->p.Perm (Bl (Aa its.length))->(p.toList.map λi=>ds.getD i .non)=es ->
    EP X aa U Q (.ref (s.heap.objs.size+1)) { s with heap:=sortedAll s.heap its (Bl (p.toList.map λi=>its.getD i C8)) }:=λp p1 p2 p3=>by
   have pl:∀i∈p.toList,i<its.length:=xO p2
   have v1:W3 (p.toList.map λi=>us.getD i .non) (p.toList.map λi=>its.getD i C8):=MU rv _ λi hi=>by have:=pl i hi;omega
   have v2:J3 X.K Hh es (p.toList.map λi=>us.getD i .non):=by
    rw[<-p3]
    exact MT hr0 _ λi hi=>by have:=pl i hi;omega
   obtain⟨e,he⟩:=sortedAll_at s.heap its (Bl (p.toList.map λi=>its.getD i C8));have bC:H (s.heap.objs.size+1)=none:=I.hok.fresh (Dq _);refine⟨.ref (s.heap.objs.size+1),_,I.laid (t':=s.toks) (a:=s.heap.objs.size+1) (o:=.lst (p.toList.map λi=>us.getD i .non)) (λb o hb=>sortedAll_old hb) (Dq _) ?_,rfl,q _ _ bC v2⟩;refine⟨?_,_,e,v1,he⟩;rw[A0,B1,p1,C1]
   omega
  split at hs
  .rename_i ns hn;cases hs;have hd:=Z7 hn;subst hd;have hus:=Y6.mp hr;subst hus;have hi:C2 its ns:=W1 rv;have hz:its.length=ns.length:=hi.length;refine Pj (κ:=oneType') (à ns) hl (by omega) (λg2 h dS Q' q'=>?_) (λh dS i j bo cy C hC=>?_) (λp p1 p2 p3=>fin p p1 p2 (â (by rw[p1,hz]) (by rw[<-hz];exact p2) (by rw[<-hz];exact p3)))
   .rw[OB hi g2];exact wpAny_pure q'
   .obtain⟨ti,ei⟩:=DZ hi bo;obtain⟨tj,ej⟩:=DZ hi cy;rw[ei,ej,keyLt'_oneType];exact oneLt_int hC
  .split at hs
   .rename_i nss hn;cases hs;obtain⟨hd,ak⟩:=DH hn;subst hd
    have hz:its.length=nss.length:=by rw[<-l2,<-l1,A0]
    refine Pj (κ:=tuples' (D3 "int" != D3 "tuple")) (á nss) hl (by omega) (λg2 h dS Q' q'=>?_) (λh dS i j bo cy C hC=>?_) (λp p1 p2 p3=>fin p p1 p2 (ã (by rw[p1,hz]) (by rw[<-hz];exact p2) (by rw[<-hz];exact p3)))
    .obtain⟨fs,t1,t2,t3⟩:=LN I dS ak hr rv;refine kat_kind (s:={ s with heap:=h }) t1 (by omega) (λv hv=>?_) rfl q';obtain⟨n,t,rfl⟩:=t3 v hv;exact Looks.of_pure rfl
    .have gi:i<nss.length:=by omega
     have gj:j<nss.length:=by omega
     obtain⟨xi,e1,r1⟩:=hr.get (i:=i) (d:=D.tup (nss[i].map D.int)) (by rw[As,A3 gi];rfl)
     obtain⟨xj,e2,r2⟩:=hr.get (i:=j) (d:=D.tup (nss[j].map D.int)) (by rw[As,A3 gj];rfl)
     obtain⟨ui,f1,s1⟩:=rv.get e1;obtain⟨uj,f2,s2⟩:=rv.get e2;obtain⟨ai,oi,ji,ni,rfl,iX,fT,hdi,ii⟩:=wU I r1 s1;obtain⟨aj,oj,jj,nj,rfl,hoj,hcj,hdj,ij⟩:=wU I r2 s2;rw[Q4 f1,Q4 f2];rw[Q4 (A3 gi),Q4 (A3 gj)]at hC;refine kat_lt (s:={ s with heap:=h }) (dS _ _ iX) hdi (dS _ _ hoj) hdj (IZ ii ij 0 _ ?_ hC);have a1:=ii.length;have a2:=ij.length;rw[B1]at a1 a2
     rw[a1,a2]
   .cases hs
 .cases hs
end
end L3
namespace L3
open PySem PySem.Spec PyProof.Rows L2 PySem.SeqAt
def pX(K:A5)(r:List V->Hp->VK->Prop)(F:LD):Prop:=∀ds d,F ds=some d->∀(Z:List Aw) (H:Hp) (vs:List V) (Q:VK),(∀z∈Z,∃o,H z=some o)->J3 K (K5 Z H) ds vs->(∀w' H',J0 H H'->i5 K (K5 Z H') d w'->Q w' H')->r vs H Q
def MZ(K:A5)(r:List V->Hp->VK->Prop)(F:List D->Option (List D)):Prop:=
 ∀ds es,F ds=some es->∀(Z:List Aw) (H:Hp) (a:Aw) (xs:List V) (Q:VK),(∀z∈Z,∃o,H z=some o)->(jE K H a xs\/jF K (K5 Z H) a xs)->J3 K (K5 Z H) ds xs ->
  (∀l ys H',J0 H H'->H l=none->H' l=some (.lst ys)->J3 K (K5 (l::Z) H') es ys->Q (.ref l) H')->r [.ref a] H Q
def dQ(F:LD)(f:EL):ED:=λY=>match f Y with|some ds=>F ds|none=>none
def tH(F:List D->Option (List D))(f:EL):EL:=λY=>match f Y with|some ds=>F ds|none=>none
section
variable{X:Cx}{x:Bg}{p pos:Gm}{e:Expr}{es:List Expr}{id T:String}{r:List V->Hp->VK->Prop}{F:LD}{FL:List D->Option (List D)}{g f:EL}
def Og{K:A5}(hr:pX K r F):∀U H Q,tD K (x8 F g) U H Q->GK r (tL K g) U H Q:=λU H Q h_=>by
 refine i7 h_ λY d B H0 V0 Z e r' q=>?_;unfold x8 at e;split at e
 .rename_i ds aH;exact⟨Y,ds,B,H0,V0,Z,aH,r',λvs H1 s1 rr=>hr ds d e Z H1 vs Q (r'.mono s1).zs rr λw' H' s rw'=>q w' H' (s1.trans s) rw'⟩
 .cases e
def EZ(hc:lN X (.builtin id) r)(hr:pX X.K r F)(hm:X.mg x=none)(hv:B7 x=some (.builtin id))(ha:SA X (e::es) g)(hg:Gl X x:=by rfl)(hn:x≠"__name__":=by decide)(bG:(x==("__debug__":Bg))=false:=by decide)(he:A9 (e::es) X.env=(false,Bz e X.env)::A9 es X.env:=by exact u7 rfl)(ao:(Bu pos (A9 es X.env)).any (·.1)=false:=by exact J9 rfl):SE X (.Call (.Name x p) (e::es) [] pos) (x8 F g):=u9 (uD hc hg hm hv ha hn bG he ao) (Og hr)
def XJ(hc:lN X (.type T) r)(hr:pX X.K r F)(hm:X.mg x=none)(hv:B7 x=some (.type T))(ha:SA X (e::es) g)(hg:Gl X x:=by rfl)(hn:x≠"__name__":=by decide)(bG:(x==("__debug__":Bg))=false:=by decide)(he:A9 (e::es) X.env=(false,Bz e X.env)::A9 es X.env:=by exact u7 rfl)(ao:(Bu pos (A9 es X.env)).any (·.1)=false:=by exact J9 rfl):SE X (.Call (.Name x p) (e::es) [] pos) (x8 F g):=u9 (sP hc hg hm hv ha hn bG he ao) (Og hr)
def Yg{K:A5}(hr:MZ K r FL):∀U H Q,tF K (tH FL f) U H Q->GK r (MV (tQ K f) GC) U H Q:=λU H Q h_=>by
 refine i7 h_ λY d B H0 V0 Z e r' q=>?_;unfold tH at e;split at e
 .rename_i ds aH;exact⟨Y,ds,B,H0,V0,Z,aH,r',λa xs H1 s1 hq rr=>hr ds d e Z H1 a xs Q (r'.mono s1).zs hq rr λl ys H' s hn hl rw'=>q l ys H' (s1.trans s) (s1.free hn) hl rw'⟩
 .cases e
def Wh(hc:lN X (.builtin id) r)(hr:MZ X.K r FL)(hm:X.mg x=none)(hv:B7 x=some (.builtin id))(h:SQ X e f)(hg:Gl X x:=by rfl)(hn:x≠"__name__":=by decide)(bG:(x==("__debug__":Bg))=false:=by decide)(he:A9 [e] X.env=(false,Bz e X.env)::A9 [] X.env:=by exact u7 rfl)(ao:(Bu pos (A9 [] X.env)).any (·.1)=false:=by exact J9 rfl):SF X (.Call (.Name x p) [e] [] pos) (tH FL f):=u9 (uD hc hg hm hv (J7 h W6 he) hn bG he ao) (Yg hr)
end
section
variable{X:Cx}{p pos:Gm}{e:Expr}{f:EL}
def Rk{Z:List Aw}{H:Hp}(zs:∀z∈Z,∃o,H z=some o)(hl:H l=none):l∉Z:=λz=>by obtain⟨o,ho⟩:=zs _ z;rw[hl]at ho;cases ho
def Xz{K:A5}:MZ K (Sb K) qI:=by intro ds es hs Z H a xs Q zs hq rr q;refine⟨a,xs,ds,es,K5 Z H,rfl,w9,hq.imp id (j6 w9),rr,hs,λl ys hl ry=>?_⟩;exact q l ys _ (j8 hl) hl v4 (ry.mono (rH hl (j8 hl)))
def HH(hm:X.mg "sorted" = none)(h:ZQ X e f)(hg:Gl X "sorted":=by rfl)(hv:B7 "sorted" = some (.builtin "sorted"):=by decide +kernel)(he:A9 [e] X.env=(false,Bz e X.env)::A9 [] X.env:=by exact u7 rfl)(ao:(Bu pos (A9 [] X.env)).any (·.1)=false:=by exact J9 rfl):ZF X (.Call (.Name "sorted" p) [e] [] pos) (tH qI f):=
 ⟨have h:=h.h;
 Wh UM Xz hm hv h hg (by decide) (by decide) he ao⟩
def Ng:D->String
 | .non=>"NoneType"
 | .bl _=>"bool"
 | .int _=>"int"
 | .str _=>"str"
 | .tup _=>"tuple"
 | .lst _=>"list"
 | .dct _ _=>"dict"
def mO(T:String)(d:D):Bool:=Ng d==T||(T=="int"&&Ng d=="bool")
def ϋ(K:A5)(T:String):List V->Hp->VK->Prop:=λxs H Q=>∃x d,xs=[x,.ty T]/\i5 K H d x/\Q (.bl (mO T d)) H
def zI(T:String):Prop:=∀(K:A5) (d:D),Et K (.type (Ng d)) (.type T)=some (mO T d)
theorem LO (h:∀K:A5,Et K (.type "NoneType") (.type T)=some (mO T .non)/\Et K (.type "bool") (.type T)=some (mO T (.bl true))/\Et K (.type "int") (.type T)=some (mO T (.int 0))/\Et K (.type "str") (.type T)=some (mO T (.str ⟨#[]⟩)) /\
  Et K (.type "tuple") (.type T)=some (mO T (.tup []))/\Et K (.type "list") (.type T)=some (mO T (.lst []))/\Et K (.type "dict") (.type T)=some (mO T (.dct [] []))):zI T:=λK d=>by
 obtain⟨h1,h2,h3,h4,h5,h6,h7⟩:=h K
 cases d with
 |non=>exact h1
 |bl _=>exact h2
 |int _=>exact h3
 |str _=>exact h4
 |tup _=>exact h5
 |lst _=>exact h6
 |dct _ _=>exact h7
def Qd:zI "int":=LO λK=>⟨rfl,rfl,rfl,rfl,rfl,rfl,rfl⟩
def JU:zI "bool":=LO λK=>⟨rfl,rfl,rfl,rfl,rfl,rfl,rfl⟩
def zS:zI "tuple":=LO λK=>⟨rfl,rfl,rfl,rfl,rfl,rfl,rfl⟩
theorem Ä(kt:zI T):lN X (.builtin "isinstance") (ϋ X.K T):=by
 intro aa s U H xs us Q I r h;obtain⟨x,d,rfl,hx,q⟩:=h;obtain⟨u,w',rfl,ru,rw'⟩:=BR r;cases rw';have e:=kt X.K d;have fin:∀tk,EP X aa U Q (.bool (mO T d)) { s with toks:=tk }:=λtk=>⟨.bl _,H,I.tok tk,rfl,q⟩
 cases d with
 |non=>obtain rfl:=mD.mp hx;cases ru;exact F3 PySem.W.kitx_none I.kIn G8 e (λz=>nomatch z) fin
 |bl b=>obtain rfl:=Q3.mp hx;cases ru;exact F3 PySem.W.kitx_bool I.kIn G8 e (λz=>nomatch z) fin
 |int i=>obtain rfl:=v8.mp hx;obtain⟨t,rfl⟩:=ru;exact F3 PySem.W.kitx_int I.kIn G8 e (λz=>nomatch z) fin
 |str i=>obtain rfl:=l5.mp hx;obtain⟨t,rfl⟩:=ru;exact F3 PySem.W.kitx_str I.kIn G8 e (λz=>nomatch z) fin
 |tup ds=>obtain⟨a,ys,rfl,h1,_⟩:=j3.mp hx;cases ru;obtain⟨its,_,⟨o,h1,h2,_⟩,_⟩:=I.tuple h1;exact F3 PySem.W.kitx_tuple I.kIn ⟨o,h1,h2⟩ e (λz=>nomatch z) fin
 |lst ds=>obtain⟨a,ys,rfl,h1,_⟩:=K3.mp hx;cases ru;obtain⟨its,_,⟨o,n,h1,h2,_⟩,_⟩:=I.list h1;exact F3 PySem.W.kitx_list I.kIn ⟨o,h1,h2⟩ e (λz=>nomatch z) fin
 |dct ks ds=>obtain⟨a,kvs,rfl,h1,_⟩:=l0.mp hx;cases ru;obtain⟨o,h1,h2⟩:=IU I h1;exact F3 PySem.W.kitx_dict I.kIn ⟨o,h1,h2⟩ e (λz=>nomatch z) fin
def mF(T:String)(f:ED):ED:=λY=>match f Y with|some d=>some (.bl (mO T d))|none=>none
def rC{p1 p2:Gm}(kt:zI T)(hm:X.mg "isinstance" = none)(hmT:X.mg x=none)(h:ZE X e fe)(hvT:B7 x=some (.type T))(hg:Gl X "isinstance":=by rfl)(hgT:Gl X x:=by rfl)(hv:B7 "isinstance" = some (.builtin "isinstance"):=by decide +kernel)(hn:x≠"__name__":=by decide)(bG:(x==("__debug__":Bg))=false:=by decide)(he:A9 [e,.Name x p1] X.env=(false,Bz e X.env)::A9 [.Name x p1] X.env:=by exact u7 rfl)(bS:A9 [.Name x p1] X.env=(false,Bz (.Name x p1) X.env)::A9 [] X.env:=by exact u7 rfl)(ao:(Bu pos (A9 [.Name x p1] X.env)).any (·.1)=false:=by exact J9 rfl):ZE X (.Call (.Name "isinstance" p2) [e,.Name x p1] [] pos) (mF T fe):=
 ⟨have h:=h.h;
 u9 (uD (Ä kt) hg hm hv (J7 h (J7 (Ŝ hgT hmT hvT (v:=.ty T) rfl hn bG) W6 bS) he) (by decide) (by decide) he ao) λU H Q h_=>by
  refine i7 h_ λY d B H0 V0 Z e r q=>?_;unfold mF at e;split at e
  .rename_i d' ed;cases e;exact⟨Y,d',B,H0,V0,Z,ed,r,λv H' s rr=>⟨v,d',rfl,rr.mono w9,q _ H' s (Q3.mpr rfl)⟩⟩
  .cases e⟩
end
section
variable{X:Cx}{p p2 pos aJ:Gm}{a b e:Expr}{f:EL}{fa fb:ED}
def Ū:List V->Hp->VK->Prop:=λxs H Q=>∃j:Int,xs=[.int j]/\∀p,H p=none->Q (.ref p) (upd H p (.rng 0 j))
def Ps:lN X (.type "range") Ū:=by intro aa s U H xs us Q I r h;obtain⟨j,rfl,q⟩:=h;obtain⟨u,rfl,ru⟩:=nH r;obtain⟨t,rfl⟩:=ru;exact call_range_1 ⟨.ref s.heap.objs.size,_,I.laid (o:=.rng 0 j) (λb o e=>A8 _ e) (Ak _) ⟨_,_,_,Au _ rfl⟩,rfl,q _ I.fresh⟩
def lR(lo:Int)(n:Nat):List Int:=(Aa n).map λ(k:Nat)=>lo+(k:Int)
def ñ:List V->Hp->VK->Prop:=λxs H Q=>∃p,∃j:Int,xs=[.ref p]/\H p=some (.rng 0 j)/\-(2 ^ 62)<=j/\j<=1000000/\∀l,H l=none->Q (.ref l) (upd H l (.lst ((lR 0 j.toNat).map V.int)))
def Vu(hc:X.calm=true):lN X (.type "list") ñ:=by
 intro aa s U H xs us Q I r h;obtain⟨p,j,rfl,hp,h1,h2,q⟩:=h;obtain⟨u,rfl,ru⟩:=nH r;cases ru;obtain⟨t,u,v,ho⟩:=(show lH X.prog X.w H s.heap p (.rng 0 j) from I.hok p _ hp)
 have hn:Hy 0 j 1=((j.toNat:Nat):Int):=by rw[Ly];split<;>omega
 refine call_list_range (I.ok.hd hc) ho (small_one (by omega) (by omega) h1 (by omega)) hn (by omega) λh' tk aV c' hk hS' aN=>?_;refine⟨.ref s.heap.objs.size,_,I.laid (o:=.lst ((lR 0 j.toNat).map V.int)) hk (Ak _) ⟨?_,aV.toList,c',?_,?_⟩,rfl,q _ I.fresh⟩
 .unfold lR;rw[A0,A0,An,C1];omega
 .have hv:∀(n:Nat) (ag:List Ac) (lo:Nat),ag.length=n->(∀(i:Nat) v,ag[i]?=some v->∃t,v = .int (0+((lo+i:Nat):Int)*1) t)->W3 (((Aa n).map λ(k:Nat)=>(0:Int)+((lo+k:Nat):Int)).map V.int) ag:=by
   intro n
   induction n with
   |zero=>intro ag lo hl _;cases ag with|nil=>exact .nil|cons _ _=>cases hl
   |succ n ih=>
    intro ag lo hl hg
    cases ag with
    |nil=>cases hl
    |cons x ag=>
     rw[G7,Aj,Aj];refine .cons ?_ ?_
     .obtain⟨t,e⟩:=hg 0 x rfl;exact⟨t,by rw[e];simp⟩
     .rw[B8,B8]
      have:=ih ag (lo+1) (by simpa using hl) λi v hv=>by obtain⟨t,e⟩:=hg (i+1) v (by simpa using hv);refine⟨t,?_⟩;rw[e];congr 3;omega
      rw[B8]at this;refine Eq.mp (congrArg (λl=>W3 l ag) (B6 λk _=>?_)) this;simp only[Kl];congr 2;omega
  have:=hv j.toNat aV.toList 0 (by simpa using aN.1) λi v e=>by obtain⟨t,e'⟩:=aN.2 i v (by simpa using e);exact⟨t,by rw[e'];simp⟩
  unfold lR;refine Eq.mp (congrArg (λl=>W3 l aV.toList) ?_) this;simp
 .simpa using hS'
def oX(f:ED):EL:=λY=>match f Y with|some (.int j)=>if -(2 ^ 62)<=j/\j<=100000 then some ((lR 0 j.toNat).map D.int) else none|_=>none
def PM(hc:X.calm=true)(hm:X.mg "list" = none)(dn:X.mg "range" = none)(h:ZE X a fa)(hg:Gl X "list":=by rfl)(jn:Gl X "range":=by rfl)(hv:B7 "list" = some (.type "list"):=by decide +kernel)(fL:B7 "range" = some (.type "range"):=by decide +kernel)(he:A9 [a] X.env=(false,Bz a X.env)::A9 [] X.env:=by exact u7 rfl)(ao:(Bu aJ (A9 [] X.env)).any (·.1)=false:=by exact J9 rfl)(bS:A9 [.Call (.Name "range" p2) [a] [] aJ] X.env=(false,Bz (.Call (.Name "range" p2) [a] [] aJ) X.env)::A9 [] X.env:=by exact u7 rfl)(dB:(Bu pos (A9 [] X.env)).any (·.1)=false:=by exact J9 rfl):ZF X (.Call (.Name "list" p) [.Call (.Name "range" p2) [a] [] aJ] [] pos) (oX fa):=
 ⟨have h:=h.h;
 u9 (sP (Vu hc) hg hm hv (J7 (sP Ps jn dn fL (J7 h W6 he) (by decide) (by decide) he ao) W6 bS) (by decide) (by decide) bS dB) λU H Q h_=>by
  refine i7 h_ λY d B H0 V0 Z e r q=>?_;unfold oX at e;split at e
  .rename_i j ej;split at e
   .rename_i hj;cases e;refine⟨Y,_,B,H0,V0,Z,ej,r,λv H' s rr=>?_⟩
    obtain rfl:=v8.mp rr
    refine⟨j,rfl,λp1 eC=>⟨p1,j,rfl,v4,hj.1,by omega,λl hl=>?_⟩⟩;have s1:=j8 (o:=HO.rng 0 j) eC;have s2:=j8 (o:=HO.lst ((lR 0 j.toNat).map V.int)) hl;exact q l _ _ (s.trans (s1.trans s2)) ((s.trans s1).free hl) v4 (Y6.mpr rfl)
   .cases e
  .cases e⟩
def o9:LD:=λds=>match ds with|[.int i,.int j]=>some (.int (if j<i then j else i))|_=>none
def uZ:LD:=λds=>match ds with|[.int i,.int j]=>some (.int (if j>i then j else i))|_=>none
def EY{K:A5}{H:Hp}{d e:D}{xs:List V}(h:J3 K H [d,e] xs):∃u v,xs=[u,v]/\i5 K H d u/\i5 K H e v:=by
 obtain⟨u,vs,rfl,h1,h2⟩:=j9.mp h;obtain⟨v,ws,rfl,h3,h4⟩:=j9.mp h2
 obtain rfl:=K7.mp h4
 exact⟨u,v,rfl,h1,h3⟩
def Rw{K:A5}{H:Hp}{d:D}{xs:List V}(h:J3 K H [d] xs):∃u,xs=[u]/\i5 K H d u:=by
 obtain⟨u,vs,rfl,h1,h2⟩:=j9.mp h
 obtain rfl:=K7.mp h2
 exact⟨u,rfl,h1⟩
def Tq{K:A5}:pX K (λxs H Q=>∃i j,xs=[.int i,.int j]/\Q (.int (if j<i then j else i)) H) o9:=by
 intro ds d e Z H vs Q zs rr q;unfold o9 at e;split at e
 .rename_i i j;cases e;obtain⟨u,v,rfl,h1,h2⟩:=EY rr
  obtain rfl:=v8.mp h1
  obtain rfl:=v8.mp h2
  exact⟨i,j,rfl,q _ H (J0.refl H) (v8.mpr rfl)⟩
 .cases e
def Tp{K:A5}:pX K (λxs H Q=>∃i j,xs=[.int i,.int j]/\Q (.int (if j>i then j else i)) H) uZ:=by
 intro ds d e Z H vs Q zs rr q;unfold uZ at e;split at e
 .rename_i i j;cases e;obtain⟨u,v,rfl,h1,h2⟩:=EY rr
  obtain rfl:=v8.mp h1
  obtain rfl:=v8.mp h2
  exact⟨i,j,rfl,q _ H (J0.refl H) (v8.mpr rfl)⟩
 .cases e
def FA(hc:X.calm=true)(hm:X.mg "min" = none)(ha:ZE X a fa)(hb:ZE X b fb)(hg:Gl X "min":=by rfl)(hv:B7 "min" = some (.builtin "min"):=by decide +kernel)(he:A9 [a,b] X.env=(false,Bz a X.env)::A9 [b] X.env:=by exact u7 rfl)(bS:A9 [b] X.env=(false,Bz b X.env)::A9 [] X.env:=by exact u7 rfl)(ao:(Bu pos (A9 [b] X.env)).any (·.1)=false:=by exact J9 rfl):ZE X (.Call (.Name "min" p) [a,b] [] pos) (x8 o9 (z9 fa (z9 fb i3))):=
 ⟨have ha:=ha.h;
 have hb:=hb.h;
 EZ (Oj hc) Tq hm hv (rA ha (rA hb yK bS) he) hg (by decide) (by decide) he ao⟩
def RJ(hc:X.calm=true)(hm:X.mg "max" = none)(ha:ZE X a fa)(hb:ZE X b fb)(hg:Gl X "max":=by rfl)(hv:B7 "max" = some (.builtin "max"):=by decide +kernel)(he:A9 [a,b] X.env=(false,Bz a X.env)::A9 [b] X.env:=by exact u7 rfl)(bS:A9 [b] X.env=(false,Bz b X.env)::A9 [] X.env:=by exact u7 rfl)(ao:(Bu pos (A9 [b] X.env)).any (·.1)=false:=by exact J9 rfl):ZE X (.Call (.Name "max" p) [a,b] [] pos) (x8 uZ (z9 fa (z9 fb i3))):=
 ⟨have ha:=ha.h;
 have hb:=hb.h;
 EZ (Oh hc) Tp hm hv (rA ha (rA hb yK bS) he) hg (by decide) (by decide) he ao⟩
def Ua:LD:=λds=>match ds with|[.int i]=>some (.bl (i != 0))|[.bl b]=>some (.bl b)|_=>none
def BW:LD:=λds=>match ds with|[.int i]=>some (.int i)|[.bl b]=>some (.int (if b then 1 else 0))|_=>none
def Ī{K:A5}:pX K (λxs H Q=>(∃i,xs=[.int i]/\Q (.int i) H)\/∃k,xs=[.bl k]/\Q (.int (if k then 1 else 0)) H) BW:=by
 intro ds d e Z H vs Q zs rr q;unfold BW at e;split at e
 .cases e;obtain⟨u,rfl,h1⟩:=Rw rr
  obtain rfl:=v8.mp h1
  exact .inl ⟨_,rfl,q _ H (J0.refl H) (v8.mpr rfl)⟩
 .cases e;obtain⟨u,rfl,h1⟩:=Rw rr
  obtain rfl:=Q3.mp h1
  exact .inr ⟨_,rfl,q _ H (J0.refl H) (v8.mpr rfl)⟩
 .cases e
def XZ(hm:X.mg "int" = none)(ha:ZE X a fa)(hg:Gl X "int":=by rfl)(hv:B7 "int" = some (.type "int"):=by decide +kernel)(he:A9 [a] X.env=(false,Bz a X.env)::A9 [] X.env:=by exact u7 rfl)(ao:(Bu pos (A9 [] X.env)).any (·.1)=false:=by exact J9 rfl):ZE X (.Call (.Name "int" p) [a] [] pos) (x8 BW (z9 fa i3)):=
 ⟨have ha:=ha.h;
 XJ WG Ī hm hv (rA ha yK he) hg (by decide) (by decide) he ao⟩
def n8(f:ED):ED:=λY=>match f Y with|some (.int i)=>some (.int (-i))|_=>none
def BH(h:ZE X a fa):ZE X (.UnaryOp .USub a pos) (n8 fa):=
 ⟨have h:=h.h;
 u9 (Zq Ľ h) λU H Q h_=>by
  refine i7 h_ λY d B H0 V0 Z e r q=>?_;unfold n8 at e;split at e
  .rename_i i ei;cases e;exact⟨Y,_,B,H0,V0,Z,ei,r,λv H' s rr=>⟨i,v8.mp rr,q _ H' s (v8.mpr rfl)⟩⟩
  .cases e⟩
def qN(i:Nat)(f:ED):EO:=λY=>match kU i Y with
 |some ds=>(match f Y with|some d=>if ds.length<f9 then some (.nx (Y.set i (some (.ow (ds++[d]))))) else none|none=>none)
 |none=>none
def rQ(i:Nat)(f:EL):EO:=λY=>match kU i Y with
 |some ds=>(match f Y with|some es=>if ds.length+es.length<=f9 then some (.nx (Y.set i (some (.ow (ds++es))))) else none|none=>none)
 |none=>none
def JN{i:Nat}{x:Bg}{p1 p2 p3:Gm}(h:ZE X a fa)(hN:X.N[i]?=some x:=by rfl)(hv:mX X.env.scope x:=by first|exact Dg rfl|exact Cp (Dg rfl)|exact Cp (Cp rfl))(hd:(x==("__debug__":Bg))=false:=by decide)(aO:(x==("__classdict__":Bg))=false:=by decide)(au:Dv (.Name x p1) "append" X.env (Bz (.Name x p1) X.env)=Bz (.Name x p1) X.env:=by rfl) (aS:((Bu p3 (A9 [a] X.env)).all (λx=>!x.1)&&(Iz p3 (G4 [] X.env)).all (λx=>x.1.isSome)
   && decide (([a]:List Expr).length+([]:List F9).length+(if ([]:List F9).isEmpty then 0 else 1)<30))=true:=by rfl) (ar:(p2.endLine==p3.line)=true:=by rfl) (hs:A9 [a] X.env=(false,Bz a X.env)::A9 [] X.env:=by exact u7 rfl) (ap:(Bu p3 (A9 [] X.env)).any (·.1)=false:=by exact J9 rfl) (bN:Dz (.Call (.Attribute (.Name x p1) "append" p2) [a] [] p3) none pos.line X.env=Cj false:=by rfl):ZS X (.Expr (.Call (.Attribute (.Name x p1) "append" p2) [a] [] p3) pos) (qN i fa):=
 ⟨have h:=h.h;
 nJ (BE (uT Fp PySem.F.slot_list_append PySem.F.type_list_append KS (nX hN hv hd aO) (J7 h W6 hs) au aS ar hs ap) bN) λE U H h_=>by
  refine i7 h_ λY o B H0 V0 Z e r q=>?_;unfold qN at e;split at e
  .rename_i ds aH;split at e
   .rename_i d ed;split at e
    .rename_i hl;cases e;obtain⟨n,xs,h1,h2,hb,h3,h4,h5⟩:=r.ow i ds (uH aH);refine⟨.ref n,h1,.inl ⟨rfl,xs,jE.of h4⟩,Y,_,B,H0,V0,Z,ed,r,λv H1 s1 r1=>?_⟩;have g5:=h5.mono (w6 s1);refine⟨n,xs,v,rfl,rfl,s1 _ _ h4,by rw[<-h5.length];exact yG (De hl),?_⟩
     exact q U _ Z ((r.mono s1).updO (uH aH) h1 (J3.append g5 (J3.one r1)))
    .cases e
   .cases e
  .cases e⟩
def JO{i:Nat}{x:Bg}{p1 p2 p3:Gm}(h:ZF X a f)(hN:X.N[i]?=some x:=by rfl)(hv:mX X.env.scope x:=by first|exact Dg rfl|exact Cp (Dg rfl)|exact Cp (Cp rfl))(hd:(x==("__debug__":Bg))=false:=by decide)(aO:(x==("__classdict__":Bg))=false:=by decide)(au:Dv (.Name x p1) "extend" X.env (Bz (.Name x p1) X.env)=Bz (.Name x p1) X.env:=by rfl) (aS:((Bu p3 (A9 [a] X.env)).all (λx=>!x.1)&&(Iz p3 (G4 [] X.env)).all (λx=>x.1.isSome)
   && decide (([a]:List Expr).length+([]:List F9).length+(if ([]:List F9).isEmpty then 0 else 1)<30))=true:=by rfl) (ar:(p2.endLine==p3.line)=true:=by rfl) (hs:A9 [a] X.env=(false,Bz a X.env)::A9 [] X.env:=by exact u7 rfl) (ap:(Bu p3 (A9 [] X.env)).any (·.1)=false:=by exact J9 rfl) (bN:Dz (.Call (.Attribute (.Name x p1) "extend" p2) [a] [] p3) none pos.line X.env=Cj false:=by rfl):ZS X (.Expr (.Call (.Attribute (.Name x p1) "extend" p2) [a] [] p3) pos) (rQ i f):=
 ⟨have h:=h.h;
 nJ (BE (uT Fp PySem.F.slot_list_extend PySem.F.type_list_extend Xl (nX hN hv hd aO) (J7 h W6 hs) au aS ar hs ap) bN) λE U H h_=>by
  refine i7 h_ λY o B H0 V0 Z e r q=>?_;unfold rQ at e;split at e
  .rename_i ds aH;split at e
   .rename_i es ee;split at e
    .rename_i hl;cases e;obtain⟨n,xs,h1,h2,hb,h3,h4,h5⟩:=r.ow i ds (uH aH);refine⟨.ref n,h1,.inl ⟨rfl,xs,jE.of h4⟩,Y,_,B,H0,V0,Z,ee,r,λl ys H1 s1 hn aZ r1=>?_⟩;have g5:=h5.mono (w6 s1);refine⟨n,l,xs,ys,rfl,rfl,s1 _ _ h4,aZ,by rw[<-h5.length,<-r1.length];exact wR hl,?_⟩
     exact q U _ Z ((r.mono s1).updO (uH aH) h1 (J3.append g5 (r1.mono (rG λb hb=>A7 _ hb))))
    .cases e
   .cases e
  .cases e⟩
end
def Uh:fillsNumberSlot (.type "tuple") "mul" = Cj false:=PySem.fillsNumberSlot_seq (id:="tuple.__mul__") (r:=some (.builtin "tuple.__rmul__")) F.slot_tuple_mul.lookup (by decide +kernel) F.slot_tuple_rmul.lookup (by decide +kernel)
def Vc:seqRepeat? (.type "tuple")=Cj (some (.builtin "tuple.__mul__")):=by unfold seqRepeat?;rw[PySem.seqSlot_of (T:="tuple") (name:="__mul__") (id:="tuple.__mul__") F.slot_tuple_mul.lookup (by decide +kernel),PySem.seqSlot_of (T:="tuple") (name:="__rmul__") (id:="tuple.__rmul__") F.slot_tuple_rmul.lookup (by decide +kernel)];rfl
def YX(l:Aw)(items:Array Ac)(n:Nat)(dd:Option Aw)(sl:Array (Option Ac))(x:Int)(t:Tok)(h1:(decide (x < -(2 ^ 63))||decide (x>=2 ^ 63))=false)(h2:(items.isEmpty||x==1)=false)(h3:(decide (x<=0)||items.isEmpty)=true)(hz:¬(#[]:Array Ac).size>sizeLine):
  Mu (D0.«tuple.__mul__» ⟨[.ref l,.int x t],[]⟩) (λ_ R s=>s.heap.get? l=some { cls:=.type "tuple",dict:=dd,data:=.seq items n,slots:=sl }/\R (.ok (.ret (.ref s.heap.objs.size))) { s with heap:=s.heap.push { cls:=D3 "tuple",data:=Jb #[] } }):=
 .of_wp λprog w A R s h=>by obtain⟨hp,g,d,tk,os⟩:=s;obtain⟨hl,h⟩:=h;wp_walk;refine Ld (decide_eq_false (by rw[h1];exact B0)) ?_;wp_walk;exact⟨_,rfl,h⟩
def YZ(l:Aw)(items:Array Ac)(n:Nat)(dd:Option Aw)(sl:Array (Option Ac))(x:Int)(t:Tok)(h1:(decide (x < -(2 ^ 63))||decide (x>=2 ^ 63))=false)(h2:(items.isEmpty||x==1)=false)(h3:(decide (x<=0)||items.isEmpty)=false)(h4:¬(items.size:Int)*x>(2 ^ 63-1) / 8)(h5:D0.Tuple.tupleTooMany ((items.size:Int)*x)=false)(h6:¬(M7 (λx1 x2=>x1++x2) #[] (Bf x.toNat items)).size>sizeLine):
  Mu (D0.«tuple.__mul__» ⟨[.ref l,.int x t],[]⟩) (λ_ R s=>s.heap.get? l=some { cls:=.type "tuple",dict:=dd,data:=.seq items n,slots:=sl }/\R (.ok (.ret (.ref s.heap.objs.size))) { s with heap:=s.heap.push { cls:=D3 "tuple",data:=Jb (M7 (λx1 x2=>x1++x2) #[] (Bf x.toNat items)) } }):=
 .of_wp λprog w A R s h=>by obtain⟨hp,g,d,tk,os⟩:=s;obtain⟨hl,h⟩:=h;wp_walk;refine Ld (decide_eq_false (by rw[h1];exact B0)) ?_;wp_walk;refine Ld (decide_eq_false h4) ?_;wp_walk;exact⟨_,rfl,h⟩
def VM(a:Int)(t:Tok)(l:Aw)(items:Array Ac)(n:Nat)(dd:Option Aw)(sl:Array (Option Ac)):
  Mu (D0.«int.__rmul__» ⟨[.int a t,.ref l],[]⟩) (λ_ R s=>s.heap.get? l=some { cls:=.type "tuple",dict:=dd,data:=.seq items n,slots:=sl }/\R (.ok (.ret Iy)) s):=
 .of_wp λprog w A R s h=>by obtain⟨hp,g,d,tk,os⟩:=s;obtain⟨hl,h⟩:=h;wp_walk;exact⟨_,rfl,h⟩
def YY(l:Aw)(items:Array Ac)(n:Nat)(dd:Option Aw)(sl:Array (Option Ac))(t:Tok):
  Mu (D0.«tuple.__mul__» ⟨[.ref l,.int 1 t],[]⟩) (λ_ R s=>s.heap.get? l=some { cls:=.type "tuple",dict:=dd,data:=.seq items n,slots:=sl }/\R (.ok (.ret (.ref l))) s):=
 .of_wp λprog w A R s h=>by obtain⟨hp,g,d,tk,os⟩:=s;obtain⟨hl,h⟩:=h;wp_walk;exact⟨_,rfl,h⟩
def Sa(K:A5):R2:=λx y H Q=>∃a k xs,x = .ref a/\y = .int k/\jF K H a xs/\xs≠[]/\-(2 ^ 63)<=k/\k<2 ^ 63/\xs.length*k.toNat<=1000000 /\
 (k=1->Q (.ref a) H)/\(k≠1->∀p,H p=none->Q (.ref p) (upd H p (.tup (Bf k.toNat xs).flatten)))
section
variable{X:Cx}
def ś:kG X (Gn .Mult) (Sa X.K):=by
 intro aa s U H x y v u Q I rx ry h;obtain⟨a,k,xs,rfl,rfl,ha,ak,h1,h2,hz,q1,q2⟩:=h;cases rx;obtain⟨t,rfl⟩:=ry;obtain⟨its,r,p,_⟩:=I.tuple ha;have hl:=r.length;obtain⟨⟨cls,dd,data,sl⟩,ho,hc,n,hd⟩:=id p;simp only at hc hd;subst hc hd;have hne':its≠[]:=λz=>ak (r.nil_iff.mp z)
 have he:its.toArray.isEmpty=false:=by
  cases its with
  |nil=>exact absurd rfl hne'
  |cons _ _=>rfl
 have b1:(decide (k < -(2 ^ 63))||decide (k>=2 ^ 63))=false:=by rw[decide_eq_false (by omega),decide_eq_false (by omega)];rfl
 refine wpAny_binaryOp_repeat_ref (T:="tuple") (U:="int") (by decide) ⟨_,ho,rfl⟩ (λs'=>typeIs_int s' k t) Uh F.fills_int_mul F.slot_int_rmul Vc F.slot_int_index.lookup
  (Hs F.slot_int_rmul (typeIs_int s k t) F.entry_int_rmul (F.args_int_rmul_2 _ _) (VM k t a its.toArray n dd sl) ⟨ho,rfl,⟨_,ho,rfl⟩,?_⟩)
 by_cases hk:k=1
 .subst hk;exact Hs F.slot_tuple_mul ⟨_,ho,rfl⟩ F.entry_tuple_mul (F.args_tuple_mul_2 _ _) (YY a its.toArray n dd sl t) ⟨ho,⟨.ref a,H,I,rfl,q1 rfl⟩⟩
 .have b2:(its.toArray.isEmpty||k==1)=false:=by rw[he,El];exact beq_eq_false_iff_ne.mpr hk
  by_cases h0:k<=0
  .refine Hs F.slot_tuple_mul ⟨_,ho,rfl⟩ F.entry_tuple_mul (F.args_tuple_mul_2 _ _) (YX a its.toArray n dd sl k t b1 b2 (by rw[decide_eq_true h0];rfl) (by simp)) ⟨ho,?_⟩
   have e0:k.toNat=0:=by omega
   have:=q2 hk s.heap.objs.size I.fresh
   rw[e0]at this;exact⟨.ref _,_,I.laid (o:=.tup []) (t':=s.toks) (λb o e=>A8 _ e) (Ak _) ⟨Bh _,[],.nil,qL.new _ _⟩,rfl,this⟩
  .have hsz:((its.toArray.size:Nat):Int)*k<=1000000:=by
    rw[Ag,<-hl]
    have e1:k=((k.toNat:Nat):Int):=by omega
    rw[e1]
    have:((xs.length*k.toNat:Nat):Int)<=1000000:=Int.ofNat_le.mpr hz
    rw[Int.natCast_mul]at this;exact this
   have f0:M7 (λx1 x2=>x1++x2) #[] (Bf k.toNat its.toArray)=(Bf k.toNat its).flatten.toArray:=by
    have:=Ot its k.toNat []
    rw[Le]at this;exact this
   have ab:(Bf k.toNat xs).flatten.length<=sizeLine:=by rw[Ŏ,Nat.mul_comm,C1];omega
   refine Hs F.slot_tuple_mul ⟨_,ho,rfl⟩ F.entry_tuple_mul (F.args_tuple_mul_2 _ _) (YZ a its.toArray n dd sl k t b1 b2 (by rw[decide_eq_false h0,he];rfl) (by omega) (by unfold D0.Tuple.tupleTooMany;rw[C1];exact decide_eq_false (by omega)) ?_) ⟨ho,?_⟩
   .rw[f0,Ag,<-(r.rep k.toNat).length];omega
   .rw[f0];exact⟨.ref _,_,I.laid (o:=.tup (Bf k.toNat xs).flatten) (t':=s.toks) (λb o e=>A8 _ e) (Ak _) ⟨ab,_,r.rep k.toNat,qL.new _ _⟩,rfl,q2 hk _ I.fresh⟩
def MJ:D->D->Option D:=λx y=>match x,y with
 | .tup ds,.int k=>if ds≠[]/\-(2 ^ 63)<=k/\k<2 ^ 63/\ds.length*k.toNat<=f9 then some (.tup (Bf k.toNat ds).flatten) else none
 |_,_=>none
def ů{K:A5}:lI K (Sa K) MJ:=by
 intro x y d e Z H u v Q zs hx hy q;unfold MJ at e;split at e
 .rename_i ds k;split at e
  .rename_i hh;obtain⟨ak,h1,h2,hl⟩:=hh;cases e;obtain⟨a,us,rfl,g1,g2⟩:=j3.mp hx
   obtain rfl:=v8.mp hy
   have ab:=g2.length;refine⟨a,k,us,rfl,rfl,j6 w9 g1,λz=>ak (Ea (by rw[ab,z];rfl)),h1,h2,by rw[<-ab];unfold f9 at hl;omega,λe1=>?_,λe1 p hp=>?_⟩
   .subst e1
    have:(Bf (1:Int).toNat ds).flatten=ds:=by simp
    rw[this]at q;exact q _ H (J0.refl H) hx
   .have sn:=j8 (o:=HO.tup (Bf k.toNat us).flatten) hp;refine q _ _ sn (j3.mpr ⟨p,_,rfl,jF.of ?_,(g2.rep k.toNat).mono (w6 sn)⟩);rw[Q6 (Rk zs hp)];exact v4
  .cases e
 .cases e
def oK:D->D->Option D:=λx y=>match GE x y with|some d=>some d|none=>MJ x y
variable{a b:Expr}{fa fb:ED}{pos:Gm}
def EM(ha:ZE X a fa)(hb:ZE X b fb):ZE X (.BinOp a .Mult b pos) (d2 oK fa fb):=
 ⟨have ha:=ha.h;
 have hb:=hb.h;
 AS (đ.or ś) (lI.or ĭ ů) ha hb⟩
end
def pP(N:List Bg)(ds:List D):J5:=ds.map (λd=>some (Cell.sh d))++Bf (N.length-ds.length) none
def lA:Option Out->Option D
 |some (.rt d)=>some d
 |some (.nx _)=>some .non
 |_=>none
def RE{K:A5}{Z:List Aw}{H:Hp}{N:List Bg}{ds:List D}{vs:List V}(zs:TB K H/\∀z∈Z,∃o,H z=some o)(rr:J3 K (K5 Z H) ds vs):SR K Z H (K5 Z H) H Z (start N vs) (pP N ds):=by
 have hl:=rr.length
 have get:∀{i:Nat} {c:Cell},(pP N ds)[i]?=some (some c)->∃d,ds[i]?=some d/\c = .sh d:=λ{i c} q=>by
  unfold pP at q;by_cases hi:i<ds.length
  .rw[E3 (by simpa using hi),As]at q
   cases e:ds[i]? with
   |none=>rw[e]at q;cases q
   |some d=>rw[e]at q;cases q;exact⟨d,rfl,rfl⟩
  .rw[List.getElem?_append_right (by simpa using hi),List.getElem?_replicate]at q;split at q<;>cases q
 refine⟨J0.refl H,zs.1,λ_ _ h=>h,λb hb=>hb,zs.2,λi d q=>?_,λi c q=>?_,λi j c e a q1 q2=>?_,?_⟩
 .obtain⟨d',e,z⟩:=get q;cases z;obtain⟨v,e1,r1⟩:=rr.get e;refine⟨v,?_,r1⟩;have hi:i<vs.length:=(Ax.mp e1).1;unfold L2.start;rw[E3 (by simpa using hi),As,e1];rfl
 .obtain⟨d',e,z⟩:=get q;exact(oU z.symm).elim
 .obtain⟨d',e,z⟩:=get q1;exact(oU z.symm).elim
 .unfold L2.start pP;rw[Af,Af,A0,A0,Ip,Ip,hl]
def P4{P:By}{w:Cg}{K:A5}{mg:Bg->Option Ac}{base:Cl}{x:Bg}{st:Db}{f:Aw}{fd:Go}{N ps:List Bg}{k:Nat}{g:EO}{F:LD}(G:rY K x x st f fd)(S:jR N ps (u8 st))(len:∀ds d,F ds=some d->ds.length=ps.length)(hF:∀ds d,F ds=some d->lA (g (pP N ds))=some d)
  (av:∀(am:Ac) (A:C6) (outer:List Me) (s:Am) (H:Hp) (E:XK),h9 k (A.deeper (Jg x (u8 st) s.heap.objs.size f am)) ->
   GT (o3 m7 P w K mg base N x (u8 st) f am A outer s H E).nox (mS st) g):kY P w K mg base m7 (k+1) f fd ps (s0 K F):=by
 refine G.ok S (λvs H Q E h=>?_) λam A outer s H vs Q E hr h=>?_
 .obtain⟨Z,ds,d,zs,rr,e,q⟩:=h;rw[<-rr.length];exact len ds d e
 .obtain⟨Z,ds,d,zs,rr,e,q⟩:=h;have e2:=hF ds d e;refine⟨_,av am A outer s H E hr,?_⟩
  cases ho:g (pP N ds) with
  |none=>rw[ho]at e2;cases e2
  |some o=>
   refine⟨pP N ds,o,Z,H,K5 Z H,Z,ho,RE zs rr,?_⟩;rw[ho]at e2
   cases o with
   |rt d'=>cases e2;exact λv H' s' rv=>q v H' s' rv
   |nx Y=>cases e2;exact λU H' Z' r'=>q .non H' r'.same (mD.mpr rfl)
   |bk _=>cases e2
   |ct _=>cases e2
def pZ(sc outer:Scope)(N:List Bg)(cap:List (Option Nat))(M:List Bg):Bool:=
 (sc.kind==.function)&&(sc.names.all λy=>if y.2==.cell then sc.names.lookup y.1==some .cell else true)&&(sc.names.all λy=>if y.2==.local then sc.names.lookup y.1==some .local else true) &&
 (sc.names.all λy=>if y.2==.free then sc.names.lookup y.1==some .free&&(outer.names.lookup y.1==some .cell||outer.names.lookup y.1==some .free) else true) &&
 ((Aa cap.length).all λi=>match cap[i]? with|some (some j)=>(match N[i]? with|some x=>(match M[j]? with|some y=>x==y&&sc.names.lookup x==some .free|none=>false)|none=>false)|_=>true) &&
 (cap.length==N.length)&&((Aa cap.length).all λi=>(Aa cap.length).all λj=>match cap[i]? with|some (some k)=>(match cap[j]? with|some (some k')=>if k==k' then i==j else true|_=>true)|_=>true)
structure CI(sc outer:Scope)(N:List Bg)(cap:List (Option Nat))(M:List Bg):Prop where
 kind:sc.kind = .function
 cell:∀y∈sc.names,y.2 = .cell->sc.names.lookup y.1=some .cell
 loc:∀y∈sc.names,y.2 = .local->sc.names.lookup y.1=some .local
 fre:∀y∈sc.names,y.2 = .free->sc.names.lookup y.1=some .free
 out:∀y∈sc.names,y.2 = .free->outer.names.lookup y.1=some .cell\/outer.names.lookup y.1=some .free
 sel:∀(i j:Nat),cap[i]?=some (some j)->∃x,N[i]?=some x/\M[j]?=some x/\sc.names.lookup x=some .free
 len:cap.length=N.length
 inj:∀(i j k:Nat),cap[i]?=some (some k)->cap[j]?=some (some k)->i=j
def yN(hok:pZ sc outer N cap M=true):CI sc outer N cap M:=by
 unfold pZ at hok;simp only[Be]at hok;obtain⟨⟨⟨⟨⟨⟨h1,h2⟩,h3⟩,h4⟩,h5⟩,h6⟩,h7⟩:=hok;rw[En]at h2 h3 h4 h5 h7;refine⟨by simpa using h1,λy hy e=>by have z:=h2 y hy;rw[e]at z;simpa using z,λy hy e=>by have z:=h3 y hy;rw[e]at z;simpa using z,λy hy e=>?_,λy hy e=>?_,λi j e=>?_,by simpa using h6,λi j k e1 e2=>?_⟩
 .have z:=h4 y hy;rw[e]at z;simp only[beq_self_eq_true,if_true,Be]at z;simpa using z.1
 .have z:=h4 y hy;rw[e]at z;simp only[beq_self_eq_true,if_true,Be,Hq]at z;simpa using z.2
 .have z:=h5 i (Ap.mpr (Ax.mp e).1);rw[e]at z;dsimp only at z
  cases hn:N[i]? with
  |none=>rw[hn]at z;cases z
  |some x=>
   rw[hn]at z;dsimp only at z
   cases hm:M[j]? with
   |none=>rw[hm]at z;cases z
   |some y=>rw[hm]at z;simp only[Be,beq_iff_eq]at z;obtain⟨rfl,z2⟩:=z;exact⟨x,rfl,rfl,z2⟩
 .have z:=h7 i (Ap.mpr (Ax.mp e1).1);rw[En]at z;have z2:=z j (Ap.mpr (Ax.mp e2).1);rw[e1,e2]at z2;simpa using z2
def yU(sc outer:Scope)(N:List Bg)(cap:List (Option Nat))(M:List Bg):Bool:=pZ sc outer N cap M&&(sc.names.all λy=>y.2 != .cell)
section
variable{X:Cx}{pos:Gm}
def pR(N:List Bg)(cap:List (Option Nat))(hc:X.calm=true)(hi:GQ X ae af fi)(hg:N.Nodup->∀cl C fp s H,ZG (Q7 X N scope cl C fp s H) ae h)(ht:∀cl C fp s H,ZP (Q7 X N scope cl C fp s H) ba ft)(he:∀cl C fp s H,ZE (Q7 X N scope cl C fp s H) aT fe)(hok:pZ scope X.env.scope N cap X.N=true:=by rfl)(hs:∀x,C3 af X.env x=Cj x:=by intro _;rfl)(nd:N.Nodup:=by decide +kernel):ZF X (.ListComp aT [⟨ae,af,ba,0⟩] scope pos) (Y2 cap fi h ft fe):=by have hg:=hg nd;have hi:=hi.h;have hg:=λcl C fp s H=>(hg cl C fp s H).h;have ht:=λcl C fp s H=>(ht cl C fp s H).h;have he:=λcl C fp s H=>(he cl C fp s H).h;refine⟨?_⟩;have c:=yN hok;exact Ŵ (N:=N) (cap:=cap) hc hi hg ht he c.kind c.cell c.loc c.fre c.out c.sel c.len c.inj hs
def t8:ZP X [] mQ:=
 ⟨λaa s U H Q I h_=>by
 refine i7 h_ λY b B H0 V0 Z e r q=>?_;cases e
 exact EU aa s U H Q I (q H (J0.refl H))⟩
def pQ(h:ZT X c f):ZP X [c] f:=
 ⟨have h:=h.h;
 ë h⟩
def Ϩ(K:A5)(f:EL):TE:=λU H Q=>∃Y ds B H0 V0 Z,f Y=some ds/\SR K B H0 V0 H Z U Y/\∀a xs H',J0 H H'->jE K H' a xs->J3 K (K5 Z H') ds xs->Q (.ref a) H'
abbrev ϵ(X:Cx)(e:Expr)(f:EL):Prop:=PE X e (Ϩ X.K f)
structure xD(X:Cx)(e:Expr)(f:EL):Prop where
 h:ϵ X e f
def MX(h:ZF X e f):xD X e f:=
 ⟨have h:=h.h;
 u9 h λU H Q ⟨Y,ds,B,H0,V0,Z,e,r,q⟩=>
  ⟨Y,ds,B,H0,V0,Z,e,r,λa xs H' s hn ha hr=>q a xs H' s (jE.of ha) (hr.mono (rG λb hb=>A7 _ hb))⟩⟩
def wV(h:ZE X e f):xD X e (mI f):=
 ⟨have h:=h.h;
 u9 h λU H Q h_=>by
  refine i7 h_ λY ds B H0 V0 Z e r q=>?_;unfold mI at e;split at e
  .rename_i es he;cases e;refine⟨Y,_,B,H0,V0,Z,he,r,λv H' s rr=>?_⟩;obtain⟨a,xs,rfl,h1,h2⟩:=K3.mp rr;exact q a xs H' s (w9.seq h1) h2
  .cases e⟩
def ſ(ha:xD X a fa)(hb:xD X b fb):ZF X (.BinOp a .Add b pos) (GD fa fb):=
 ⟨have ha:=ha.h;
 have hb:=hb.h;
 u9 (RY Qp ha hb) λU H Q h_=>by
  refine i7 h_ λY ds B H0 V0 Z e r q=>?_;unfold GD at e;split at e
  .rename_i xs ex;split at e
   .rename_i ys ey;split at e
    .rename_i hl;cases e;refine⟨Y,xs,B,H0,V0,Z,ex,r,λn us H1 s1 fB r1=>⟨Y,ys,B,H0,V0,Z,ey,r.mono s1,λm ws H2 s2 gA r2=>⟨n,m,us,ws,rfl,rfl,s2.seq fB,gA,by rw[<-r1.length,<-r2.length];exact wR hl,λl cq=>?_⟩⟩⟩
     exact q l _ _ (s1.trans (s2.trans (j8 cq))) ((s1.trans s2).free cq) v4 ((J3.append (r1.mono (w6 s2)) r2).mono (rH cq (j8 cq)))
    .cases e
   .cases e
  .cases e⟩
end
structure jV(P:By)(w:Cg)(K:A5)(mg:Bg->Option Ac)(base:Cl)(k:Nat)(x:Bg)(ps:List Bg)(F:LD):Prop where
 ex:∃f fd,kY P w K mg base m7 k f fd ps (s0 K F)/\mg x=some (.ref f)/\Fm K (.ref f)=true/\wW K fd ps []
def u0{X:Cx}{e:Expr}{es:List Expr}(G:jV X.prog X.w X.K X.mg X.base j x ps F)(hr:h9 k X.A)(ha:ZA X (e::es) g)(hjk:j<=k:=by decide)(hg:Gl X x:=by rfl)(bG:(x==("__debug__":Bg))=false:=by decide)(he:A9 (e::es) X.env=(false,Bz e X.env)::A9 es X.env:=by exact u7 rfl)(ao:(Bu pos (A9 es X.env)).any (·.1)=false:=by exact J9 rfl):ZE X (.Call (.Name x p) (e::es) [] pos) (x8 F g):=by have ha:=ha.h;refine⟨?_⟩;obtain⟨f,fd,h1,h2,h3,h4⟩:=G.ex;exact Ű h1 (hr.mono hjk) h2 h3 h4 ha hg bG he ao
structure d9(K:A5)(mg:Bg->Option Ac)(x:Bg)(st:Db):Prop where
 ex:∃f fd,rY K x x st f fd/\mg x=some (.ref f)
def WU{P:By}{w:Cg}{K:A5}{mg:Bg->Option Ac}{base:Cl}{x:Bg}{st:Db}{N ps:List Bg}{k:Nat}{g:EO}{F:LD}(G:d9 K mg x st)(S:jR N ps (u8 st))(len:∀ds d,F ds=some d->ds.length=ps.length)(hF:∀ds d,F ds=some d->lA (g (pP N ds))=some d)(hb:∀(kV aB pm:Ac) (an:Option Aw) (am ct:Ac) (us:List Ac),us.length=ps.length->Gp (Do x x (p7 st) (mS st) (u8 st) .none kV aB pm an am ct) ⟨us,[]⟩=Cj (ps.zip us))
  (av:∀(f:Aw) (am:Ac) (A:C6) (outer:List Me) (s:Am) (H:Hp) (E:XK),h9 k (A.deeper (Jg x (u8 st) s.heap.objs.size f am)) ->
   GT (o3 m7 P w K mg base N x (u8 st) f am A outer s H E).nox (mS st) g):jV P w K mg base (k+1) x ps F:=by
 obtain⟨f,fd,G1,G2⟩:=G.ex;exact⟨f,fd,P4 G1 S len hF (av f),G2,G1.kp,G1.binds hb⟩
def tX(K:A5)(f:J5->Option (D×J5)):TE:=λU H Q=>∃Y d Y' B H0 V0 Z,f Y=some (d,Y')/\SR K B H0 V0 H Z U Y/\∀v H',SR K B H0 V0 H' Z U Y'->i5 K (K5 Z H') d v->Q v H'
abbrev SX(X:Cx)(e:Expr)(f:J5->Option (D×J5)):Prop:=PE X e (tX X.K f)
structure ZX(X:Cx)(e:Expr)(f:J5->Option (D×J5)):Prop where
 h:SX X e f
def zA(i:Nat)(f:ED):J5->Option (D×J5):=λY=>match kU i Y with
 |some ds=>(match f Y with
  |some (.int j)=>(match pD ds.length j with
   |some k=>(match ds[k]? with|some d=>if ds.length<=f9 then some (d,Y.set i (some (.ow (ds.eraseIdx k)))) else none|none=>none)
   |none=>none)
  |_=>none)
 |none=>none
def tR(K:A5)(f:EL):TE:=λU H Q=>∃Y ds B H0 V0 Z,f Y=some ds/\SR K B H0 V0 H Z U Y/\∀a xs H',J0 H0 H'->jE K H' a xs->J3 K (K5 B H') ds xs->(∀b∈B,∃o,H' b=some o)->Q (.ref a) H'
abbrev SL(X:Cx)(e:Expr)(f:EL):Prop:=PE X e (tR X.K f)
structure ZL(X:Cx)(e:Expr)(f:EL):Prop where
 h:SL X e f
section
variable{X:Cx}{pos:Gm}
def ķ{i:Nat}{call:Expr}{f:ED}(h:PE X call (T9 X.K "list" Tn (oN i) (MV (tD X.K f) GC))):SX X call (zA i f):=
 u9 h λU H Q h_=>by
  obtain⟨Y,d,Y',B,H0,V0,Z,e,r,q⟩:=h_;unfold zA at e;split at e
  .rename_i ds aH;split at e
   .rename_i j ej;split at e
    .rename_i k ek;split at e
     .rename_i d' ed;split at e
      .rename_i hz;cases e;obtain⟨n,xs,h1,h2,hb,h3,h4,h5⟩:=r.ow i ds (uH aH);refine⟨.ref n,h1,.inl ⟨rfl,xs,jE.of h4⟩,Y,_,B,H0,V0,Z,ej,r,λv H1 s1 r1=>?_⟩
       obtain rfl:=v8.mp r1
       have R1:=r.mono s1;have g5:=h5.mono (w6 s1);obtain⟨y,hy,ry⟩:=g5.get ed;have hl:=h5.length;obtain⟨q1,q2,q3,q4⟩:=Qa ek
       have big:(ds.length:Int)<2 ^ 63:=by
        have:ds.length<=100000:=hz
        omega
       refine⟨n,xs,j,k,y,rfl,rfl,s1 _ _ h4,by omega,by omega,by rw[<-hl];exact q1,hy,?_⟩
       have vs:J0 (K5 Z H1) (K5 Z (upd H1 n (.lst (xs.eraseIdx k)))):=rD h2;exact q y _ (R1.updO (uH aH) h1 (g5.eraseIdx k)) (ry.mono vs)
      .cases e
     .cases e
    .cases e
   .cases e
  .cases e
def sG(h:D->J5->Option J5)(fe:J5->Option (D×J5)):J5->List D->Option (List D)
 |_,[]=>some []
 | Y,d::ds=>match h d Y with
  |none=>none
  |some Y1=>match fe Y1 with
   |some (y,Y2)=>(match sG h fe Y2 ds with|some ys=>some (y::ys)|none=>none)
   |none=>none
def AI(cap:List (Option Nat))(fi:EL)(h:D->J5->Option J5)(fe:J5->Option (D×J5)):EL:=λY=>match fi Y with
 |some ds=>if ds.length<=f9 then sG h fe (mE cap Y) ds else none
 |none=>none
def SR.base{K:A5}{B Z:List Aw}{H0 V0 H:Hp}{U:St}{Y:J5}(r:SR K B H0 V0 H Z U Y){l:Aw}{o:HO}(hl:H l=some o)(hn:H0 l=none)(bL:∀(j:Nat) (es:OC) a,Y[j]?=some (some es.cell)->U[j]?=some (some (.ref a))->a≠l):SR K B (upd H0 l o) V0 H Z U Y:=
 ⟨λb u e=>by
   by_cases z:b=l
   .subst z;rw[v4]at e;cases e;exact hl
   .rw[v9 z]at e;exact r.same b u e,
  r.tb,r.vis,r.sub,r.zs,r.sh,λj es hj=>by
   obtain⟨a,xs,t1,t2,tb,t3,t4,t5⟩:=r.own j es hj
   exact⟨a,xs,t1,t2,tb,by rw[v9 (bL j es a hj t1)];exact t3,t4,t5⟩,r.inj,r.len⟩
def SR.unbase{K:A5}{B Z:List Aw}{H0 V0 H:Hp}{U:St}{Y:J5}{l:Aw}{o:HO}(r:SR K B (upd H0 l o) V0 H Z U Y)(hn:H0 l=none):SR K B H0 V0 H Z U Y:=
 ⟨λb u e=>r.same b u (by rw[v9 (λz=>by rw[z,hn]at e;cases e)];exact e),r.tb,r.vis,r.sub,r.zs,r.sh,λj es hj=>by
   obtain⟨a,xs,t1,t2,tb,t3,t4,t5⟩:=r.own j es hj
   have na:a≠l:=λz=>by rw[z,v4]at t3;cases t3
   exact⟨a,xs,t1,t2,tb,by rw[v9 na]at t3;exact t3,t4,t5⟩,r.inj,r.len⟩
def X2{aT ae af:Expr}{scope:Scope}{fi:EL}{h:D->J5->Option J5}{fe:J5->Option (D×J5)}(N:List Bg)(cap:List (Option Nat))(hc:X.calm=true)(hi:ZI X ae af fi)(hg:N.Nodup->∀cl C fp s H,ZG (Q7 X N scope cl C fp s H) ae h)(he:∀cl C fp s H,ZX (Q7 X N scope cl C fp s H) aT fe)(hok:pZ scope X.env.scope N cap X.N=true:=by rfl)(hs:∀x,C3 af X.env x=Cj x:=by intro _;rfl)(nd:N.Nodup:=by decide +kernel):ZL X (.ListComp aT [⟨ae,af,[],0⟩] scope pos) (AI cap fi h fe):=by
 have hg:=hg nd;have hi:=hi.h;have hg:=λcl C fp s H=>(hg cl C fp s H).h;have he:=λcl C fp s H=>(he cl C fp s H).h;refine⟨?_⟩;have c:=yN hok;have ce:=c.inj;refine u9 (JC (N:=N) (cap:=cap) (g:=tG X.K h) (te:=tX X.K fe) hc hi hg (λcl C fp s H=>EU) he c.kind c.cell c.loc c.fre c.out c.sel c.len hs) λU H Q ⟨Y,zs,B,H0,V0,Z,e,r,q⟩=>?_
 .unfold AI at e;split at e
  .rename_i ds aH;split at e
   .rename_i hl;refine⟨Y,ds,B,H0,V0,Z,aH,r,λJ H1 s1 wk l aZ=>?_⟩;have R1:=r.mono s1;have n0:H0 l=none:=R1.same.free aZ;have sl:J0 H1 (upd H1 l (.lst [])):=j8 aZ;have R2:SR X.K B H0 (K5 Z H1) (upd H1 l (.lst [])) (l::Z) (l7 cap U) (mE cap Y):=BF ce ((R1.vis' (λ_ _ h=>h)).more aZ sl v4)
    have noL:∀{H':Hp} {U':St} {Y':J5} {o:HO},SR X.K B (upd H0 l o) (K5 Z H1) H' (l::Z) U' Y'->∀(j:Nat) (es:OC) a,Y'[j]?=some (some es.cell)->U'[j]?=some (some (.ref a))->a≠l:=λr' j es a hj cQ z=>by obtain⟨a',xs,t1,_,_,t3,_⟩:=r'.own j es hj;rw[cQ]at t1;cases t1;rw[z,v4]at t3;cases t3
    have R3:SR X.K B (upd H0 l (.lst [])) (K5 Z H1) (upd H1 l (.lst [])) (l::Z) (l7 cap U) (mE cap Y):=by refine R2.base v4 n0 λj es a hj cQ z=>?_;have rc:=BF ce R1;obtain⟨a',xs,t1,_,_,_,t4,_⟩:=rc.own j es hj;rw[cQ]at t1;cases t1;rw[z,aZ]at t4;cases t4
    refine⟨λi m U' H' ag=>m=ds.length-i/\i<=ds.length/\ag.length<=i/\∃Y' ys ws,SR X.K B (upd H0 l (.lst ag)) (K5 Z H1) H' (l::Z) U' Y'/\J3 X.K (K5 (l::Z) H') ys ag/\sG h fe Y' (ds.drop i)=some ws/\zs=ys++ws/\J3 X.K (K5 Z H1) [] [],
     ⟨_,rfl,Bh _,Ak _,mE cap Y,[],zs,R3,J3.nil,e,rfl,J3.nil⟩,?_⟩
    rintro i m U' H' ag ⟨rfl,bo,dZ,Y',ys,ws,r',ry,e',ez,_⟩;have vis:J0 (K5 Z H1) H':=r'.vis.trans w9;have aN:H' l=some (.lst ag):=r'.same l _ v4;by_cases ah:i<ds.length
    .refine .inr ⟨wk.go H' vis i ah,yG (B3 dZ (B3 bo hl)),λx H3 hy=>?_⟩;obtain⟨sH,hx⟩:=wk.yld H' vis i x H3 hy;have hd:=hx ds[i] (A3 ah) (l::Z) r'.zs r'.vis;have r':=r'.mono sH;have ry:=ry.mono (w6 sH);rw[Ex ah]at e';unfold sG at e';split at e'
     .cases e'
     .rename_i Y1 e1;refine⟨Y',ds[i],Y1,B,upd H0 l (.lst ag),K5 (l::Z) H3,l::Z,e1,r'.vis' (λ_ _ h=>h),hd,λU4 r4=>sZ ?_⟩;split at e'
      .rename_i y Y2 ey;split at e'
       .rename_i yy eyy;cases e';refine⟨Y1,y,Y2,B,upd H0 l (.lst ag),K5 (l::Z) H3,l::Z,ey,r4,λv H6 r6 rv=>⟨r6.same l _ v4,ds.length-(i+1),by omega,rfl,ah,?_,Y2,ys++[y],yy,?_,?_,eyy,by rw[ez];simp,J3.nil⟩⟩
        .rw[Af];simpa using dZ
        .have R6:=(r6.vis' (r'.vis.trans r6.vis)).unbase n0;have vs:J0 (K5 (l::Z) H6) (K5 (l::Z) (upd H6 l (.lst (ag++[v])))):=rD A6;have na:=noL (r6.vis' (V1:=K5 Z H1) (r'.vis.trans r6.vis))
         have R7:SR X.K B H0 (K5 Z H1) (upd H6 l (.lst (ag++[v]))) (l::Z) U4 Y2:=by
          refine⟨uJ n0 R6.same,R6.tb.upd (r6.same l _ v4) (λ_ z=>by cases z),R6.vis.trans vs,R6.sub,λz hz=>?_,λj d hj=>let ⟨u,t1,t2⟩:=R6.sh j d hj;⟨u,t1,t2.mono vs⟩,λj es hj=>?_,R6.inj,R6.len⟩
          .by_cases iE:z=l
           .subst iE;exact⟨_,v4⟩
           .obtain⟨o',bh⟩:=R6.zs z hz;exact⟨o',by rw[v9 iE];exact bh⟩
          .obtain⟨a,xs,t1,t2,tb,t3,t4,t5⟩:=R6.own j es hj;exact⟨a,xs,t1,t2,tb,t3,by rw[v9 (na j es a hj t1)];exact t4,t5.mono vs⟩
         exact R7.base v4 n0 na
        .exact J3.append ((ry.mono r6.vis).mono (rD A6)) (J3.one (rv.mono (rD A6)))
       .cases e'
      .cases e'
    .have ei:i=ds.length:=by omega
     subst ei;rw[Kt]at e';unfold sG at e';cases e';rw[Ci]at ez;subst ez;have r0:=r'.unbase n0;exact .inl ⟨wk.stop H' vis,q l ag H' r0.same (jE.of aN) (ry.mono (rG λb hb=>A7 _ (r.sub b hb))) λb hb=>r0.zs b (r0.sub b hb)⟩
   .cases e
  .cases e
def Vl{p aJ:Gm}(hm:X.mg "tuple" = none)(h:ZL X a f)(hg:Gl X "tuple":=by rfl)(he:A9 [a] X.env=(false,Bz a X.env)::A9 [] X.env:=by exact u7 rfl)(ao:(Bu aJ (A9 [] X.env)).any (·.1)=false:=by exact J9 rfl)(hv:B7 "tuple" = some (.type "tuple"):=by decide +kernel):ZS X (.Return (some (.Call (.Name "tuple" p) [a] [] aJ)) pos) (jB (oS f)):=
 ⟨have h:=h.h;
 nJ (LU (sP ND hg hm hv (J7 h W6 he) (by decide) (by decide) he ao)) λE U H h_=>by
  refine i7 h_ λY o B H0 V0 Z e r q=>?_;unfold jB oS at e
  cases ef:f Y with
  |none=>rw[ef]at e;cases e
  |some ds=>
   rw[ef]at e;cases e;refine⟨Y,ds,B,H0,V0,Z,ef,r,λn xs H1 s1 hq rr hB=>⟨n,xs,rfl,.inl ⟨hq,λl hl=>?_⟩⟩⟩;have sn:=j8 (o:=HO.tup xs) hl;refine q _ _ (s1.trans sn) (j3.mpr ⟨l,xs,rfl,jF.of ?_,rr.mono (w6 sn)⟩);rw[Q6 (λz=>by obtain⟨u,hu⟩:=hB l z;rw[hl]at hu;cases hu)]
   exact v4⟩
end
section
variable{X:Cx}{pos p p2 aJ:Gm}{a b c e tg:Expr}{fa fb fc f:ED}
def RZ(h1:PI X tg e w1)(h2:PI X tg e w2):PI X tg e (λU H R=>w1 U H R\/w2 U H R):=λaa s U H R I h=>by
 rcases h with h|h
 .exact h1 aa s U H R I h
 .exact h2 aa s U H R I h
def W4(h:ZE X e f):ZI X tg e (d8 f):=
 ⟨have h:=h.h;
 uB (RZ (Ĳ h) (ĳ h)) λU H R h_=>by
 refine i7 h_ λY ds B H0 V0 Z e r q=>?_;unfold d8 at e;split at e
 .rename_i es he;cases e;exact .inl ⟨Y,_,B,H0,V0,Z,by unfold mI;rw[he],r,q⟩
 .rename_i es he;cases e;exact .inr ⟨Y,_,B,H0,V0,Z,by unfold LH;rw[he],r,q⟩
 .cases e⟩
def AV(hu:X.A.units<Cz)(ha:ZE X a fa)(hb:ZE X b fb):ZT X (.Compare a [.Lt] [b] pos) (y9 (d2 pE fa fb)):=
 ⟨have ha:=ha.h;
 have hb:=hb.h;
 wS (uS.or (ď hu)) (lI.or oG Ĭ) ha hb (qW _)⟩
def XY{i:Nat}{x:Bg}{p1 p2 p3:Gm}(h:ZE X a fa)(hN:X.N[i]?=some x:=by rfl)(hv:mX X.env.scope x:=by first|exact Dg rfl|exact Cp (Dg rfl)|exact Cp (Cp rfl))(hd:(x==("__debug__":Bg))=false:=by decide)(aO:(x==("__classdict__":Bg))=false:=by decide)(au:Dv (.Name x p1) "pop" X.env (Bz (.Name x p1) X.env)=Bz (.Name x p1) X.env:=by rfl) (aS:((Bu p3 (A9 [a] X.env)).all (λx=>!x.1)&&(Iz p3 (G4 [] X.env)).all (λx=>x.1.isSome)
   && decide (([a]:List Expr).length+([]:List F9).length+(if ([]:List F9).isEmpty then 0 else 1)<30))=true:=by rfl) (ar:(p2.endLine==p3.line)=true:=by rfl) (hs:A9 [a] X.env=(false,Bz a X.env)::A9 [] X.env:=by exact u7 rfl) (ap:(Bu p3 (A9 [] X.env)).any (·.1)=false:=by exact J9 rfl):ZX X (.Call (.Attribute (.Name x p1) "pop" p2) [a] [] p3) (zA i fa):=
 ⟨have h:=h.h;
 ķ (uT Fp PySem.F.slot_list_pop PySem.F.type_list_pop Ü (nX hN hv hd aO) (J7 h W6 hs) au aS ar hs ap)⟩
end
def Ï:K5 [] H=H:=by funext b;unfold K5;rw[if_neg (by simp)]
def jM(n:Nat)(N:List Bg)(g:EO):LD:=λds=>if ds.length=n then lA (g (pP N ds)) else none
def ZN{P:By}{w:Cg}{K:A5}{mg:Bg->Option Ac}{base:Cl}{x:Bg}{st:Db}{N ps:List Bg}{k n:Nat}{g:EO}(G:d9 K mg x st)(S:jR N ps (u8 st))(hb:∀(kV aB pm:Ac) (an:Option Aw) (am ct:Ac) (us:List Ac),us.length=ps.length->Gp (Do x x (p7 st) (mS st) (u8 st) .none kV aB pm an am ct) ⟨us,[]⟩=Cj (ps.zip us))(hn:ps.length=n) (av:∀(f:Aw) (am:Ac) (A:C6) (outer:List Me) (s:Am) (H:Hp) (E:XK),h9 k (A.deeper (Jg x (u8 st) s.heap.objs.size f am)) ->
   ZB (o3 m7 P w K mg base N x (u8 st) f am A outer s H E).nox (mS st) g):jV P w K mg base (k+1) x ps (jM n N g):=
 have av:=λf am A outer s H E hr=>(av f am A outer s H E hr).h;
 WU G S (λds d e=>by
  unfold jM at e;split at e
  .rename_i h;rw[h,hn]
  .cases e) (λds d e=>by
  unfold jM at e;split at e
  .exact e
  .cases e) hb av
section
variable{prog:By}{w:Cg}{A:C6}{E:VP}{s:Am}
def Vj{x:Ac}{Q:VP}(bV:s.heap.IsTupleIter it t i)(ht:s.heap.IsTuple t items)(hx:items[i]?=some x)(hQ:∀h',h'.IsTupleIter it t (i+1)->F6 it s.heap h'->Q x { s with heap:=h' }):Ar (B2 prog w) A (Ez (.ref it)) Q E s:=by
 rcases id bV with⟨ob,eo,ec,ed⟩;rcases ht with⟨ot,et,_,nt,edt⟩;unfold Ez;refine A4 (Ec (name:=Bk "__next__") bV.typeIs F.slot_tuple_iterator_next (Fn F.slot_tuple_iterator_next bV.typeIs F.entry_tuple_iterator_next ?_ (F.args_tuple_iterator_next_1 _)));show Ar _ _ (field (.ref it) 0 >>= _) _ _ s;refine A4 (F8 eo ed (x:=.ref t) rfl ?_)
 show Ar _ _ (if (Eb t==C8)=true then _ else _) _ _ s;rw[if_neg (show ¬((Eb t==C8)=true) from B0)];show Ar _ _ (field (.ref it) 1 >>= _) _ _ s;refine A4 (F8 eo ed (x:=.int i 0) rfl ?_);show Ar _ _ (Ir (.ref t) >>= _) _ _ s;refine A4 (Eu et edt ?_);simp only[Ai,hx];refine A4 (wpAny_setField eo ed (by simp) (wpAny_pure ⟨x,rfl,wpAny_pure (hQ _ ?_ (Di ..))⟩))
 exact⟨_,Gh _ eo (Jp.isFreed_of_fields (Jp.data_mapFields ed _)),(Jp.cls_mapFields ..).trans ec,by rw[Jp.data_mapFields ed];simp[rawInt]⟩
def U0(hh:A.handled=none)(bV:s.heap.IsTupleIter it t i)(ht:s.heap.IsTuple t items)(hx:items[i]?=none)(hE:∀h' e,Cl.ExtBut it s.heap h'->(∃o,h'.get? e=some o/\o.cls = .type "StopIteration")->E (.ref e) { s with heap:=h' }):Ar (B2 prog w) A (Ez (.ref it)) Q E s:=by
 rcases id bV with⟨ob,eo,ec,ed⟩;rcases ht with⟨ot,et,_,nt,edt⟩;unfold Ez;refine A4 (Ec (name:=Bk "__next__") bV.typeIs F.slot_tuple_iterator_next (Fn F.slot_tuple_iterator_next bV.typeIs F.entry_tuple_iterator_next ?_ (F.args_tuple_iterator_next_1 _)));show Ar _ _ (field (.ref it) 0 >>= _) _ _ s;refine A4 (F8 eo ed (x:=.ref t) rfl ?_)
 show Ar _ _ (if (Eb t==C8)=true then _ else _) _ _ s;rw[if_neg (show ¬((Eb t==C8)=true) from B0)];show Ar _ _ (field (.ref it) 1 >>= _) _ _ s;refine A4 (F8 eo ed (x:=.int i 0) rfl ?_);show Ar _ _ (Ir (.ref t) >>= _) _ _ s;refine A4 (Eu et edt ?_);simp only[Ai,hx];refine A4 (Hu (A4 (wpAny_setField eo ed (by simp) ?_)))
 show Ar _ _ (newExc (.type "StopIteration") [] >>= _) _ _ _;refine A4 ?_;simp only[newExc,newTuple];refine A4 (C4 ?_ (by size_fits));refine A4 (m:=firstArgMember _ _) (Ia (a:=C8) (by first|rfl|(simp only[firstArgMember];rfl)) (C4 ?_ (by size_fits)))
 simp only[raiseNew];refine A4 (wpAny_handled ?_)
 first|rw[show A.in1.handled=none from hh]|rw[hh]
 refine A4 (wpAny_pure (wpAny_throw ?_));exact hE _ _ (((Di ..).extBut.push _).push _) ⟨_,Au _ rfl,rfl⟩
def UP(hh:A.handled=none)(it t:Aw)(ak:t≠it)(items:Array Ac):
  Draws prog w A it [it,t] items.size (λi v=>items[i]?=some v) (λi h=>h.IsTupleIter it t i/\h.IsTuple t items) where
 live:=λ_ _ st=>by obtain⟨⟨o,ho,_⟩,_⟩:=st;exact⟨o,ho⟩
 frame:=λ_ _ _ st hk=>by obtain⟨⟨o,ho,z⟩,⟨o2,bX,z2⟩⟩:=st;exact⟨⟨o,hk it (by simp) o ho,z⟩,⟨o2,hk t (by simp) o2 bX,z2⟩⟩
 item:=λi s Q E hi st hQ=>Vj st.1 st.2 (x:=items[i]) (by simp[hi]) λh' a b=>hQ _ h' s.toks (by simp[hi]) ⟨a,st.2.extBut b.extBut ak⟩ b
 done:=λs Q E st hE=>U0 hh st.1 st.2 (by simp) hE
def UQ(l:Aw)(items:Array Ac)(n:Nat)(dct:Option Aw)(sl:Array (Option Ac)):
  Mu (D0.«enumerate.__new__» ⟨[.type "enumerate",.ref l],[]⟩) (λ_ R s=>s.heap.get? l=some { cls:=.type "tuple",dict:=dct,data:=.seq items n,slots:=sl } /\
   R (.ok (.ret (.ref (s.heap.push { cls:=.type "tuple_iterator",data:=.fields #[.ref l,.int 0 0] }).objs.size)))
    { s with heap:=(s.heap.push { cls:=.type "tuple_iterator",data:=.fields #[.ref l,.int 0 0] }).push { cls:=.type "enumerate",data:=.fields #[.none,.bool false,.ref s.heap.objs.size,rawInt 0,.none,.none] } }):=
 .of_wp λprog w A R s h=>by
  obtain⟨hp,g,d,tk,os⟩:=s;obtain⟨hl,h⟩:=h;have ck:=sub_enumerate;have hL:Cl.IsTuple (Am.heap ⟨hp,g,d,tk,os⟩) l items:=⟨_,hl,rfl,n,rfl⟩
  wp_walk using Fh hl;refine wpAny_stack_any λst=>wpAny_pure ?_
  split
  .rename_i c _ _ _ _ _;cases (c==D3 "enumerate")<;>(wp_walk using Fh hl,Ep hL;exact⟨_,rfl,h⟩)
  .wp_walk using Fh hl,Ep hL;exact⟨_,rfl,h⟩
def Vt{Q:VP}(hL:s.heap.IsTuple l items)(h:∀h',IsEnum h' (s.heap.objs.size+1) s.heap.objs.size 0 .none->h'.IsTupleIter s.heap.objs.size l 0->(∀b o,s.heap.get? b=some o->h'.get? b=some o)->Q (.ref (s.heap.objs.size+1)) { s with heap:=h' }):
  Ar (B2 prog w) A (call (.type "enumerate") [.ref l]) Q E s:=by
 rcases hL with⟨⟨c,dct,dt,sl⟩,hl,hc,n,hd⟩;have be:c = .type "tuple":=hc;have bn:dt = .seq items n:=hd;subst be bn;refine callType_new F.called_enumerate (by decide) (F.typeCall_enumerate_1 _) (F.newCall_enumerate_1 _) (λobj=>F.args_object_init_2 obj _) F.entry_enumerate_new (UQ l items n dct sl) ⟨hl,?_⟩;have hz:(s.heap.push { cls:=.type "tuple_iterator",data:=.fields #[.ref l,.int 0 0] }).objs.size=s.heap.objs.size+1:=Dy ..
 have he:IsEnum ((s.heap.push { cls:=.type "tuple_iterator",data:=.fields #[.ref l,.int 0 0] }).push { cls:=.type "enumerate",data:=.fields #[.none,.bool false,.ref s.heap.objs.size,rawInt 0,.none,.none] }) (s.heap.objs.size+1) s.heap.objs.size 0 .none:=by
  have z:=Au (s.heap.push { cls:=.type "tuple_iterator",data:=.fields #[.ref l,.int 0 0] }) (o:={ cls:=.type "enumerate",data:=.fields #[.none,.bool false,.ref s.heap.objs.size,rawInt 0,.none,.none] }) rfl
  rwa [hz]at z
 show _/\_;rw[hz];exact⟨⟨_,he,rfl⟩,h _ he ⟨_,A8 _ (Au _ rfl),rfl,rfl⟩ λb o x=>A8 _ (A8 _ x)⟩
end
def Yw{h':Cl}{t':Nat}{ch:List Aw}{a:Aw}(I:d4 X aa U H s)(k:∀b ob,b∉ch->s.heap.get? b=some ob->h'.get? b=some ob)(hf:∀b∈ch,qK X aa H b)(ha:s.heap.objs.size<=a)(new:lH X.prog X.w (upd H a o) h' a o):d4 X aa U (upd H a o) { s with heap:=h',toks:=t' }:=by
 have hn:H a=none:=I.hok.fresh ha;have lt:∀b ob,s.heap.get? b=some ob->b≠a:=λb ob e=>At (Ba (Ao e) ha)
 have eV:∀b u,H b=some u->b∉ch:=λb u e z=>by
  have:=(hf b z).1
  rw[e]at this;cases this
 refine I.call (g':=s.gens) (d':=s.drawn) (ch:=ch) ⟨λb ob e n _ hx=>k b ob hx e,λb ob e n _ hx=>⟨ob.slots,k b ob hx e⟩,λb ob e n _=>by rw[v9 (lt b ob e)];exact n,λb ob e hx=>⟨ob,k b ob hx e⟩,
  λb xs e=>by rw[v9 (Z3 e hn)];exact e,λb ob u e=>by rw[v9 (Z3 e hn)];exact e,λb ps e=>⟨#[],by rw[v9 (Z3 e hn),e];simp⟩⟩ (λb u e=>?_) I.bare λb hb=>?_
 .by_cases hb:b=a
  .subst hb;rw[v4]at e;cases e;exact new
  .rw[v9 hb]at e
   refine(I.hok b u e).stay (λc v hc q=>k c v ?_ q) (λc q=>by rw[v9 (Z3 q hn)];exact q) (λc xs q=>by rw[v9 (Z3 q hn)];exact q) λc ob xs q=>by rw[v9 (Z3 q hn)];exact q
   rcases hc with z|z
   .rw[z];exact eV b u e
   .exact eV c _ z
 .obtain⟨_,f1,_,f3,f5,f6⟩:=hf b hb;exact⟨f3,f1,f5,f6⟩
def GU(Sq:Hp->List V->Prop):It:=
 ⟨λi H=>∃xs x,Sq H xs/\xs[i]?=some x,λi H x H'=>∃p y,H p=none/\x = .ref p/\H'=upd H p (.tup [.int (i:Nat),y])/\∀xs,Sq H xs->xs[i]?=some y,λi H=>∃xs,Sq H xs/\xs.length=i⟩
structure xJ(P:By)(w:Cg)(K:A5)(a it:Aw)(Sq:Hp->List V->Prop)(Sr:Cl->Array Ac->Prop)(fS:Nat->Cl->Prop):Prop where
 src:∀(X:Cx) aa U H s,X.K=K->d4 X aa U H s->∀xs,Sq H xs->∃its:List Ac,W3 xs its/\Sr s.heap its.toArray
 inj:∀(X:Cx) aa U H s,X.K=K->d4 X aa U H s->∀xs ys,Sq H xs->Sq H ys->xs=ys
 draw:∀(A:C6) (items:Array Ac),A.handled=none->Draws P w A it [it,a] items.size (λi v=>items[i]?=some v) (λi h=>fS i h/\Sr h items)
 obj:∀i h,fS i h->∃o,h.get? it=some o/\∀v,o.data≠.cell v
 keep:∀i h h',fS i h->(∀o,h.get? it=some o->h'.get? it=some o)->fS i h'
 cls:∀h items,Sr h items->∃o,h.get? a=some o/\o.cls≠.type "enumerate"
def OT{P:By}{w:Cg}{K:A5}{dA:List Expr}{x1:Nat}{cO:Gm}{a it e:Aw}{Sq:Hp->List V->Prop}{Sr:Cl->Array Ac->Prop}{fS:Nat->Cl->Prop}(D:xJ P w K a it Sq Sr fS)(hei:e≠it):
  pF P w K (.Tuple dA x1 cO) (GU Sq) [e,it] e (λi h=>(∃old,IsEnum h e it ((i:Nat):Int) old)/\fS i h) where
 mem:=by simp
 obj:=λi h st b hb=>by
  obtain⟨⟨old,he⟩,hi⟩:=st;rcases Ad.mp hb with z|z
  .subst z;exact⟨_,he,λv q=>by cases q⟩
  .rw[Ae.mp z];exact D.obj i h hi
 keep:=λi h h' st k=>by obtain⟨⟨old,he⟩,hi⟩:=st;exact⟨⟨old,k e (by simp) _ he⟩,D.keep i h h' hi λo q=>k it (by simp) o q⟩
 item:=by
  intro X hP hw hK hc i aa s U H E I hf st hg;subst hP hw;obtain⟨xs,x,hq,hx⟩:=hg;obtain⟨⟨old,he⟩,hi⟩:=st;obtain⟨its,rv,sr⟩:=D.src X aa U H s hK I xs hq;obtain⟨u,hu,ru⟩:=rv.get hx
  have ah:i<its.toArray.size:=by rw[Ag];exact(Ax.mp hu).1
  have hea:e≠a:=λz=>by obtain⟨o,h1,h2⟩:=D.cls _ _ sr;rw[<-z,he]at h1;cases h1;exact h2 rfl
  have hef:e∉[it,a]:=by simp[hei,hea]
  have heL:e<s.heap.objs.size:=Ao he;obtain⟨oi,iX,_⟩:=D.obj i _ hi;have hiL:it<s.heap.objs.size:=Ao iX;refine wpAny_pyNext_enum_itemD (D.draw X.A.in1 its.toArray (I.ok.hd hc)) he ⟨hi,sr⟩ ah hei hef λv h1 tk hv ho hs hT hz hk=>?_
  have ev:v=u:=by
   have:its.toArray[i]?=some v:=hv
   rw[show its.toArray[i]?=its[i]? by simp,hu]at this;exact(Bb this).symm
  subst ev;refine⟨_,rfl,wpAny_letOwnedTupleGo_enum ho λh2 bS bD=>?_⟩
  have kk:∀b ob,b∉[e,it]->s.heap.get? b=some ob->h2.get? b=some ob:=λb ob hb q=>by have n1:b≠e:=λz=>hb (by simp[z]);have n2:b≠it:=λz=>hb (by simp[z]);exact(bD.2 b n1).trans (hk b ob n1 n2 q)
  have hT2:h2.get? s.heap.objs.size=some { cls:=.type "tuple",data:=.seq #[.int i tk,v] }:=(bD.2 _ (D4 heL)).trans hT;refine⟨.ref s.heap.objs.size,upd H s.heap.objs.size (.tup [.int (i:Nat),x]),Yw (s:=s) (t':=tk+1) I kk hf (Ak _) ⟨by rw[C1];simp,[.int i tk,v],.cons ⟨tk,rfl⟩ (.cons ru .nil),⟨_,hT2,rfl,⟨_,rfl⟩,rfl⟩⟩,rfl,⟨_,x,I.fresh,rfl,rfl,λys hy=>by rw[D.inj X aa U H s hK I ys xs hy hq];exact hx⟩,⟨⟨v,?_⟩,?_⟩,λb hb=>?_⟩
  .have:(((i+1:Nat):Nat):Int)=(i:Int)+1:=by omega
   rw[this];exact bS
  .exact D.keep _ _ _ hs.1 λo q=>(bD.2 it (Cw hei)).trans q
  .have aP:b<s.heap.objs.size:=by
    rcases Ad.mp hb with z|z
    .rw[z];exact heL
    .rw[Ae.mp z];exact hiL
   rw[v9 (At aP)];exact(hf b hb).1
 done:=by
  intro X hP hw hK hc i aa s U H E I hf st hg;subst hP hw;obtain⟨xs,hq,hx⟩:=hg;obtain⟨⟨old,he⟩,hi⟩:=st;obtain⟨its,rv,sr⟩:=D.src X aa U H s hK I xs hq
  have hn:i=its.toArray.size:=by rw[Ag,<-rv.length,hx]
  obtain⟨f0,f1,f2,f3,f4,f5⟩:=hf it (by simp);refine wpAny_pyNext_enum_endD (D.draw X.A.in1 its.toArray (I.ok.hd hc)) he ⟨hn▸hi,sr⟩ λh' eb=>⟨rfl,I.turned (t':=s.toks) (λb o hb q=>eb b o hb q) f0 f1 f3 f4 f5⟩
 self:=λ_ _ _ _ _ st h=>by obtain⟨⟨old,he⟩,_⟩:=st;exact Kb he h
def WR{P:By}{w:Cg}{K:A5}{a it:Aw}(ak:a≠it):xJ P w K a it (λH xs=>jE K H a xs) (λh items=>h.IsList a items) (λi h=>h.IsListIter it a i) where
 src:=λX aa U H s hK I xs hq=>by subst hK;obtain⟨its,rv,p,_⟩:=I.list hq;exact⟨its,rv,p.isList⟩
 inj:=λX aa U H s hK I xs ys h1 h2=>by subst hK;exact I.list_inj h1 h2
 draw:=λA items hh=>Draws.list hh it a ak items
 obj:=λi h st=>by obtain⟨o,e,c,d⟩:=st;exact⟨o,e,λv z=>by rw[d]at z;cases z⟩
 keep:=λi h h' st k=>by obtain⟨o,e,z⟩:=st;exact⟨o,k o e,z⟩
 cls:=λh items st=>by obtain⟨o,e,c,_⟩:=st;exact⟨o,e,by rw[c];decide⟩
def Ê{P:By}{w:Cg}{K:A5}{a it:Aw}(ak:a≠it):xJ P w K a it (λH xs=>jF K H a xs) (λh items=>h.IsTuple a items) (λi h=>h.IsTupleIter it a i) where
 src:=λX aa U H s hK I xs hq=>by subst hK;obtain⟨its,rv,p,_⟩:=I.tuple hq;exact⟨its,rv,p⟩
 inj:=λX aa U H s hK I xs ys h1 h2=>by subst hK;exact I.tuple_inj h1 h2
 draw:=λA items hh=>UP hh it a ak items
 obj:=λi h st=>by obtain⟨o,e,c,d⟩:=st;exact⟨o,e,λv z=>by rw[d]at z;cases z⟩
 keep:=λi h h' st k=>by obtain⟨o,e,z⟩:=st;exact⟨o,k o e,z⟩
 cls:=λh items st=>by obtain⟨o,e,c,_⟩:=st;exact⟨o,e,by rw[c];decide⟩
section
variable{X:Cx}{dA:List Expr}{x1:Nat}{cO pos p:Gm}{a:Expr}{f:ED}
def ø(K:A5)(ta:TA):TI:=λU H R=>ta U H λvs H1=>∃a,vs=[.ref a]/\(∃xs,jE K H1 a xs)/\R (GU λH xs=>jE K H a xs) H1
def ù(K:A5)(ta:TA):TI:=λU H R=>ta U H λvs H1=>∃a,vs=[.ref a]/\(∃xs,jF K H1 a xs)/\R (GU λH xs=>jF K H a xs) H1
def Ğ{ta:TA}(hg:Gl X "enumerate")(hm:X.mg "enumerate" = none)(ha:PA X [a] ta)(hv:B7 "enumerate" = some (.type "enumerate"))(he:A9 [a] X.env=(false,Bz a X.env)::A9 [] X.env)(ao:(Bu pos (A9 [] X.env)).any (·.1)=false):PI X (.Tuple dA x1 cO) (.Call (.Name "enumerate" p) [a] [] pos) (ø X.K ta):=by
 intro aa s U H R I h;refine Call_ (oW I hg hm hv (Du (lC (ha pos aa s U H _ I h) λus s1 ⟨vs,H1,I1,r1,l,ev,⟨xs,hq⟩,q1⟩=>?_) he ao));subst ev;obtain⟨u,rfl,ru⟩:=nH r1;cases ru;obtain⟨its,rv,pl,_⟩:=I1.list hq;refine call_enumerate_list pl.isList λh' e1 e2 hz kk=>Kb e1 ?_;have I2:d4 X aa U H1 { s1 with heap:=h' }:=I1.kept (t':=s1.toks) kk
 have hll:l<s1.heap.objs.size:=by obtain⟨o,e,_⟩:=pl.isList;exact Ao e
 refine⟨s1.heap.objs.size+1,[s1.heap.objs.size+1,s1.heap.objs.size],_,_,H1,rfl,I2,OT (WR (At hll)) (Nat.succ_ne_self _),⟨⟨_,e1⟩,e2⟩,λb hb=>?_,q1⟩
 have aP:s1.heap.objs.size<=b:=by
  rcases Ad.mp hb with z|z
  .rw[z];exact Dq _
  .rw[Ae.mp z];exact Ak _
 exact I1.fpOk aP (I1.hok.fresh aP)
def ğ{ta:TA}(hg:Gl X "enumerate")(hm:X.mg "enumerate" = none)(ha:PA X [a] ta)(hv:B7 "enumerate" = some (.type "enumerate"))(he:A9 [a] X.env=(false,Bz a X.env)::A9 [] X.env)(ao:(Bu pos (A9 [] X.env)).any (·.1)=false):PI X (.Tuple dA x1 cO) (.Call (.Name "enumerate" p) [a] [] pos) (ù X.K ta):=by
 intro aa s U H R I h;refine Call_ (oW I hg hm hv (Du (lC (ha pos aa s U H _ I h) λus s1 ⟨vs,H1,I1,r1,l,ev,⟨xs,hq⟩,q1⟩=>?_) he ao));subst ev;obtain⟨u,rfl,ru⟩:=nH r1;cases ru;obtain⟨its,rv,pl,_⟩:=I1.tuple hq;refine Vt (show s1.heap.IsTuple l its.toArray from pl) λh' e1 e2 kk=>Kb e1 ?_;have I2:d4 X aa U H1 { s1 with heap:=h' }:=I1.kept (t':=s1.toks) kk
 have hll:l<s1.heap.objs.size:=by obtain⟨o,e,_⟩:=id pl;exact Ao e
 refine⟨s1.heap.objs.size+1,[s1.heap.objs.size+1,s1.heap.objs.size],_,_,H1,rfl,I2,OT (Ê (At hll)) (Nat.succ_ne_self _),⟨⟨_,e1⟩,e2⟩,λb hb=>?_,q1⟩
 have aP:s1.heap.objs.size<=b:=by
  rcases Ad.mp hb with z|z
  .rw[z];exact Dq _
  .rw[Ae.mp z];exact Ak _
 exact I1.fpOk aP (I1.hok.fresh aP)
def lS:Nat->List D->List D
 |_,[]=>[]
 |k,d::ds=>.tup [.int (k:Int),d]::lS (k+1) ds
theorem Os:∀(ds:List D) (k i:Nat),(lS k ds)[i]?=(ds[i]?).map λd=>.tup [.int ((k+i:Nat):Int),d]
 | [],k,i=>by simp[lS]
 |d::ds,k,0=>by simp[lS]
 |d::ds,k,i+1=>by rw[lS,Ee,Os ds (k+1) i,Ee,show k+1+i=k+(i+1) by omega]
theorem KN:∀(ds:List D) (k:Nat),(lS k ds).length=ds.length
 | [],_=>rfl
 |d::ds,k=>by rw[lS,Av,Av,KN ds]
def OV{K:A5}{W0:Hp}{Sq:Hp->List V->Prop}{xs:List V}{ds:List D}(h1:∀H',J0 W0 H'->Sq H' xs)(h2:J3 K W0 ds xs):qR K W0 (GU Sq) (lS 0 ds) where
 go:=λH' s i hi=>by rw[KN]at hi;obtain⟨v,hv,_⟩:=h2.get (A3 hi);exact⟨xs,v,h1 H' s,hv⟩
 yld:=λH' s i x H3 hy=>by
  obtain⟨p,y,hp,rfl,rfl,hx⟩:=hy;refine⟨j8 hp,λd hd Z hz hs=>?_⟩;rw[Os]at hd
  cases e:ds[i]? with
  |none=>rw[e]at hd;cases hd
  |some d0=>
   rw[e]at hd;cases hd;obtain⟨v,hv,rv⟩:=h2.get e
   have:=hx xs (h1 H' s)
   rw[hv]at this
   obtain rfl:=Bb this
   have sn:=j8 (o:=HO.tup [.int (i:Nat),v]) hp;refine j3.mpr ⟨p,[.int (i:Nat),v],rfl,jF.of ?_,J3.cons (v8.mpr (by simp)) (J3.one ((rv.mono hs).mono (w6 sn)))⟩;rw[Q6 (Rk hz hp)];exact v4
 stop:=λH' s=>⟨xs,h1 H' s,by rw[KN,h2.length]⟩
def wC(f:ED):EL:=λY=>match f Y with|some (.lst ds)=>some (lS 0 ds)|some (.tup ds)=>some (lS 0 ds)|_=>none
def FD(hm:X.mg "enumerate" = none)(h:ZE X a f)(hg:Gl X "enumerate":=by rfl)(hv:B7 "enumerate" = some (.type "enumerate"):=by decide +kernel)(he:A9 [a] X.env=(false,Bz a X.env)::A9 [] X.env:=by exact u7 rfl)(ao:(Bu pos (A9 [] X.env)).any (·.1)=false:=by exact J9 rfl):ZI X (.Tuple dA x1 cO) (.Call (.Name "enumerate" p) [a] [] pos) (wC f):=
 ⟨have h:=h.h;
 uB (RZ (Ğ hg hm (J7 h W6 he) hv he ao) (ğ hg hm (J7 h W6 he) hv he ao)) λU H R h_=>by
  refine i7 h_ λY ds B H0 V0 Z e r q=>?_;unfold wC at e;split at e
  .rename_i es he;cases e;refine .inl ⟨Y,_,B,H0,V0,Z,he,r,λv H' s rr=>?_⟩;obtain⟨l,xs,rfl,h1,h2⟩:=K3.mp rr;exact⟨l,rfl,⟨xs,w9.seq h1⟩,q _ H' s (OV (λiz bu=>bu.seq h1) h2)⟩
  .rename_i es he;cases e;refine .inr ⟨Y,_,B,H0,V0,Z,he,r,λv H' s rr=>?_⟩;obtain⟨l,xs,rfl,h1,h2⟩:=j3.mp rr;exact⟨l,rfl,⟨xs,j6 w9 h1⟩,q _ H' s (OV (λiz bu=>j6 bu h1) h2)⟩
  .cases e⟩
end
end L3
namespace L2
open PySem PySem.Spec PyProof.Rows
section
variable{κ:Type}[DecidableEq κ]
def lQ(kvs:List (κ×V))(k:κ):Option V:=(kvs.find? λkv=>decide (kv.1=k)).map (·.2)
def lZ(kvs:List (κ×V))(k:κ)(v:V):List (κ×V):=if (kvs.any λkv=>decide (kv.1=k))=true then kvs.map (λkv=>if kv.1=k then (kv.1,v) else kv) else kvs++[(k,v)]
def zP{p:κ×V}{r:List (κ×V)}{k:κ}(e:p.1=k):lQ (p::r) k=some p.2:=by simp[lQ,F4,e]
def zO{p:κ×V}{r:List (κ×V)}{k:κ}(e:¬p.1=k):lQ (p::r) k=lQ r k:=by simp[lQ,F4,e]
theorem RF(k:κ):∀kvs:List (κ×V),(kvs.any λkv=>decide (kv.1=k))=(lQ kvs k).isSome
 | []=>rfl
 |p::r=>by
  rw[Ek];by_cases e:p.1=k
  .simp only[zP e,decide_eq_true e,Md,Option.isSome_some]
  .rw[zO e,decide_eq_false e,El];exact RF k r
def DG(kvs:List (κ×V))(k:κ)(v:V):(lZ kvs k v).length<=kvs.length+1:=by
 unfold lZ;split
 .rw[A0];omega
 .rw[Af,Av,Bx];omega
theorem pV.isSome_eq(r:pV o u):o.isSome=u.isSome:=by
 cases o with
 |none=>cases u with
  |none=>rfl
  |some _=>exact(show False from r).elim
 |some _=>cases u with
  |none=>exact(show False from r).elim
  |some _=>rfl
theorem pV.getD(r:pV o u)(rd:i6 d d'):i6 (o.getD d) (u.getD d'):=by
 cases o with
 |none=>cases u with
  |none=>exact rd
  |some _=>exact(show False from r).elim
 |some _=>cases u with
  |none=>exact(show False from r).elim
  |some _=>exact r
theorem KV.val(r:KV kvs vs)(k:κ):pV (lQ kvs k) (Kc vs k):=by
 unfold KV at r
 induction r with
 |nil=>exact G8
 | @cons p q ps qs h t ih=>
  obtain⟨h1,h2⟩:=h;by_cases e:p.1=k
  .have e':q.1=k:=h1.symm.trans e
   have b:Kc (q::qs) k=some q.2:=by simp[Kc,F4,e']
   rw[zP e,b];exact h2
  .have e':¬q.1=k:=λz=>e (h1.trans z)
   have b:Kc (q::qs) k=Kc qs k:=by simp[Kc,F4,e']
   rw[zO e,b];exact ih
theorem KV.any(r:KV kvs vs)(k:κ):(kvs.any λkv=>decide (kv.1=k))=vs.any λkv=>decide (kv.1=k):=by
 unfold KV at r
 induction r with
 |nil=>rfl
 |cons h t ih=>rw[Ek,Ek,ih,h.1]
theorem KV.repl(r:KV kvs vs)(k:κ)(ry:i6 y u):
  KV (kvs.map λkv=>if kv.1=k then (kv.1,y) else kv) (vs.map λkv=>if kv.1=k then (kv.1,u) else kv):=by
 unfold KV at r ⊢
 induction r with
 |nil=>exact .nil
 | @cons p q ps qs h t ih=>
  rw[Aj,Aj];refine .cons ?_ ih;obtain⟨h1,h2⟩:=h;by_cases e:p.1=k
  .rw[if_pos e,if_pos (h1.symm.trans e)];exact⟨h1,ry⟩
  .rw[if_neg e,if_neg (λz=>e (h1.trans z))];exact⟨h1,h2⟩
def KV.put(r:KV kvs vs)(k:κ)(ry:i6 y u):KV (lZ kvs k y) (stored vs k u):=by
 unfold lZ stored;rw[r.any k];by_cases e:(vs.any λkv=>decide (kv.1=k))=true
 .rw[if_pos e,if_pos e];exact r.repl k ry
 .rw[if_neg e,if_neg e];exact Hg.snoc r ⟨rfl,ry⟩
def KV.length{kvs:List (κ×V)}{vs:List (κ×Ac)}(r:KV kvs vs):kvs.length=vs.length:=Kh r
end
theorem wJ(r:i6 (kV k) u):(mC P w).is k u=true:=by
 cases k with
 |inl i=>obtain⟨t,e⟩:=(show ∃t,u=Gw i t from r);subst e;exact US P w i t
 |inr x=>obtain⟨t,e⟩:=(show ∃t,u=Lo x t from r);subst e;exact UT P w x t
theorem Oz:∀{ks:List f7} {us:List Ac},W3 (ks.map kV) us->ItemsAre (mC P w) ks us
 | [],_,r=>by rw[G6]at r;cases r;exact .nil
 |k::ks,_,r=>by
  rw[Aj]at r
  cases r with
  |cons h t=>exact .cons (wJ h) (Oz t)
abbrev KT(H:Hp):List (List f7×V)->List (List f7×Aw×Ac)->Prop:=Hg λp q=>p.1=q.1/\H q.2.1=some (.tup (p.1.map kV))/\i6 p.2 q.2.2
theorem KT.val(r:KT H kvs xs)(k:List f7):pV (lQ kvs k) ((Mi xs k).map (·.2)):=by
 induction r with
 |nil=>exact G8
 | @cons p q ps qs h t ih=>
  obtain⟨h1,_,h2⟩:=h;by_cases e:p.1=k
  .have e':q.1=k:=h1.symm.trans e
   have b:Mi (q::qs) k=some q.2:=by simp[Mi,F4,e']
   rw[zP e,b];exact h2
  .have e':¬q.1=k:=λz=>e (h1.trans z)
   have b:Mi (q::qs) k=Mi qs k:=by simp[Mi,F4,e']
   rw[zO e,b];exact ih
theorem KT.repl(r:KT H kvs xs)(k:List f7)(ry:i6 y u):
  KT H (kvs.map λkv=>if kv.1=k then (kv.1,y) else kv) (xs.map (putAt k u)):=by
 induction r with
 |nil=>exact .nil
 | @cons p q ps qs h t ih=>
  rw[Aj,Aj];refine .cons ?_ ih;obtain⟨h1,h2,h3⟩:=h;unfold putAt;by_cases e:p.1=k
  .rw[if_pos e,if_pos (h1.symm.trans e)];exact⟨h1,h2,ry⟩
  .rw[if_neg e,if_neg (λz=>e (h1.trans z))];exact⟨h1,h2,h3⟩
def KT.put(r:KT H kvs xs)(k:List f7)(hb:H b=some (.tup (k.map kV)))(ry:i6 y u):
  KT H (lZ kvs k y) (storedH xs k b u):=by
 have e:(kvs.any λkv=>decide (kv.1=k))=(Mi xs k).isSome:=by rw[RF,(r.val k).isSome_eq,Ef]
 unfold lZ storedH;rw[e];by_cases q:(Mi xs k).isSome=true
 .rw[if_pos q,if_pos q];exact r.repl k ry
 .rw[if_neg q,if_neg q];exact Hg.snoc r ⟨rfl,hb,ry⟩
def KT.keeps{H H':Hp}(r:KT H kvs xs)(ht:∀b ys,H b=some (.tup ys)->H' b=some (.tup ys)):KT H' kvs xs:=Hg.mapP r λ_ _ z=>⟨z.1,ht _ _ z.2.1,z.2.2⟩
section
variable{P:By}{w:Cg}{H:Hp}{h:Cl}{a:Aw}
def Sd(ok:lB P w H h)(e:Rd H a u):lH P w H h a u:=e.ok ok
def yR(ok:lB P w H h)(e:Rd H a (.dK kvs)):kvs.length<=sizeLine/\(a==Ff)=false/\∃vs,KV kvs vs/\h.DictOf (mC P w) a vs:=show lH P w H h a (.dK kvs) from Sd ok e
def rN(ok:lB P w H h)(e:H a=some (.dK kvs)):kvs.length<=sizeLine/\(a==Ff)=false/\∃vs,KV kvs vs/\h.DictOf (mC P w) a vs:=yR ok (.inl e)
def AL{ks:List f7}(ok:lB P w H h)(e:H a=some (.tup (ks.map kV))):(Lp (mC P w)).is h ks a:=by obtain⟨_,its,r,o,h1,h2,⟨n,h3⟩,_⟩:=(show lH P w H h a (.tup (ks.map kV)) from ok a _ e);exact⟨o,its.toArray,n,h1,h2,h3,by simpa using Oz r⟩
def BL(ok:lB P w H h)(e:Rd H a (.dT kvs)):kvs.length<=sizeLine/\(a==Ff)=false /\
  ∃xs,KT H kvs xs/\h.DictOfH (Lp (mC P w)) a xs:=by
 obtain⟨z,y,xs,r,o,es,ep,h1,h2,h3,h4,h5⟩:=(show lH P w H h a (.dT kvs) from Sd ok e);refine⟨z,y,xs,r,o,es,ep,h1,h2,h3,h4,λx hx=>?_,h5⟩
 have all:∀{l:List (List f7×V)} {m:List (List f7×Aw×Ac)},KT H l m->∀x∈m,(Lp (mC P w)).is h x.1 x.2.1:=by
  intro l m q
  induction q with
  |nil=>intro x hx;exact nomatch hx
  | @cons p q ps qs hq t ih=>
   intro x hx;rcases Ad.mp hx with e|hx
   .subst e;exact AL ok (by rw[<-hq.1];exact hq.2.1)
   .exact ih x hx
 exact all r x hx
def ϝ(ok:lB P w H h)(e:H a=some (.dT kvs)):kvs.length<=sizeLine/\(a==Ff)=false /\
  ∃xs,KT H kvs xs/\h.DictOfH (Lp (mC P w)) a xs:=BL ok (.inl e)
end
def nZ(H:Hp)(a:Aw)(y:V)(r:Option V):Prop:=(∃kvs k,Rd H a (.dK kvs)/\y=kV k/\r=lQ kvs k)\/∃kvs k b,Rd H a (.dT kvs)/\y = .ref b/\H b=some (.tup (k.map kV))/\r=lQ kvs k
def wY(H:Hp)(a:Aw)(y v:V)(H':Hp):Prop:=
 (∃kvs k,H a=some (.dK kvs)/\y=kV k/\kvs.length<sizeLine/\H'=upd H a (.dK (lZ kvs k v))) \/
 ∃kvs k b,H a=some (.dT kvs)/\y = .ref b/\H b=some (.tup (k.map kV))/\kvs.length<sizeLine/\H'=upd H a (.dT (lZ kvs k v))
def nZ.k{H:Hp}{a:Aw}{kvs:List (f7×V)}{k:f7}(e:H a=some (.dK kvs)):nZ H a (kV k) (lQ kvs k):=.inl ⟨kvs,k,.inl e,rfl,rfl⟩
def nZ.t{H:Hp}{a b:Aw}{kvs:List (List f7×V)}{k:List f7}(e:H a=some (.dT kvs))(eb:H b=some (.tup (k.map kV))):nZ H a (.ref b) (lQ kvs k):=.inr ⟨kvs,k,b,.inl e,rfl,eb,rfl⟩
def wY.k{H:Hp}{a:Aw}{kvs:List (f7×V)}{k:f7}{v:V}(e:H a=some (.dK kvs))(hl:kvs.length<sizeLine):wY H a (kV k) v (upd H a (.dK (lZ kvs k v))):=.inl ⟨kvs,k,e,rfl,hl,rfl⟩
def wY.t{H:Hp}{a b:Aw}{kvs:List (List f7×V)}{k:List f7}{v:V}(e:H a=some (.dT kvs))(eb:H b=some (.tup (k.map kV)))(hl:kvs.length<sizeLine):
  wY H a (.ref b) v (upd H a (.dT (lZ kvs k v))):=.inr ⟨kvs,k,b,e,rfl,eb,hl,rfl⟩
section
variable{X:Cx}{aa:jA}{U:St}{H:Hp}{s:Am}{a:Aw}{y v:V}{u r:Ac}{o:Option V}{A:C6}{E:VP}
def d4.big(I:d4 X aa U H s):Ff<s.heap.objs.size:=by have h:Cy<s.heap.objs.size:=(I.mod.glob.keeps I.bk).lt;exact Dp (by decide) h
def WN{Q:VP}(hu:A.units+1<Cz)(I:d4 X aa U H s)(g:nZ H a y (some v))(ry:i6 y u)(h:∀w' s',d4 X aa U H s'->i6 v w'->Q w' s'):
  Ar (B2 X.prog X.w) A (If (.ref a) u) Q E s:=by
 rcases g with⟨kvs,k,e,ey,l⟩|⟨kvs,k,b,e,ey,eb,l⟩
 .subst ey;obtain⟨z,hd,vs,aC,dd⟩:=yR I.hok e;obtain⟨w',hw,rw'⟩:=pV.some_of (v:=v) (o:=Kc vs k) (by rw[l];exact aC.val k)
  exact wpAny_getItem_of (wJ ry) dd.mapOf hw (h w' _ (I.tok _) rw')
 .subst ey;cases (show u=Eb b from ry);obtain⟨z,hd,xs,aC,dd⟩:=BL I.hok e;obtain⟨w',hw,rw'⟩:=pV.some_of (v:=v) (o:=(Mi xs k).map (·.2)) (by rw[l];exact aC.val k)
  obtain⟨p,hp,fC⟩:=Bj.mp hw;refine wpAny_getItem_heap (Hv hu) (AL I.hok eb) dd hp ?_;rw[fC];exact h w' _ (I.tok _) rw'
def ö{Q:VP}(hu:A.units+1<Cz)(I:d4 X aa U H s)(g:nZ H a y o)(ry:i6 y u)(h:∀s',d4 X aa U H s'->Q (.bool o.isSome) s'):
  Ar (B2 X.prog X.w) A (Ce .In u (.ref a)) Q E s:=by
 rcases g with⟨kvs,k,e,ey,l⟩|⟨kvs,k,b,e,ey,eb,l⟩
 .subst ey;obtain⟨z,hd,vs,aC,dd⟩:=yR I.hok e;refine wpAny_in_of (wJ ry) hd dd.mapOf ?_;rw[<-(aC.val k).isSome_eq,<-l];exact h _ (I.tok _)
 .subst ey;cases (show u=Eb b from ry);obtain⟨z,hd,xs,aC,dd⟩:=BL I.hok e;refine wpAny_in_heap (Hv hu) (AL I.hok eb) hd dd ?_;have q:=(aC.val k).isSome_eq;rw[Ef]at q;rw[<-q,<-l];exact h _ (I.tok _)
def Ņ{Q:VP}(hu:A.units+1<Cz)(I:d4 X aa U H s)(g:nZ H a y o)(ry:i6 y u)(h:∀s',d4 X aa U H s'->Q (.bool (!o.isSome)) s'):
  Ar (B2 X.prog X.w) A (Ce .NotIn u (.ref a)) Q E s:=by
 rcases g with⟨kvs,k,e,ey,l⟩|⟨kvs,k,b,e,ey,eb,l⟩
 .subst ey;obtain⟨z,hd,vs,aC,dd⟩:=yR I.hok e;refine wpAny_notIn_of (wJ ry) hd dd.mapOf ?_;rw[<-(aC.val k).isSome_eq,<-l];exact h _ (I.tok _)
 .subst ey;cases (show u=Eb b from ry);obtain⟨z,hd,xs,aC,dd⟩:=BL I.hok e;refine wpAny_notIn_heap (Hv hu) (AL I.hok eb) hd dd ?_;have q:=(aC.val k).isSome_eq;rw[Ef]at q;rw[<-q,<-l];exact h _ (I.tok _)
def EC{t':Nat}(I:d4 X aa U H s)(mu:CD (H a))(hs:F6 a s.heap h')(he:∃q,h'.get? a=some q)(new:lH X.prog X.w (upd H a ob) h' a ob):
  d4 X aa U (upd H a ob) { s with heap:=h',toks:=t' }:=
 I.write (x:=a) (e:=a) mu (.inl rfl) (λb q hb z=>(hs.2 b hb).trans z) he new
def FJ{h':Cl}{kvs:List (f7×V)}(z:kvs.length<=sizeLine)(hd:(a==Ff)=false)(aC:KV kvs vs)(dd:h'.DictOf (mC P w) a vs):
  lH P w H' h' a (.dK kvs):=⟨z,hd,vs,aC,dd⟩
def WO{Q:Unit->Am->Prop}(hu:A.units+1<Cz)(I:d4 X aa U H s)(g:wY H a y v H')(ry:i6 y u)(rv:i6 v r)(h:∀s',d4 X aa U H' s'->Q () s'):
  Ar (B2 X.prog X.w) A (setItem (.ref a) u r) Q E s:=by
 rcases g with⟨kvs,k,e,ey,l,eH⟩|⟨kvs,k,b,e,ey,eb,l,eH⟩
 .subst ey eH;obtain⟨z,hd,vs,aC,dd⟩:=rN I.hok e
  have hz:vs.length<=sizeLine:=by rw[<-aC.length];exact z
  have hl:(lZ kvs k v).length<=sizeLine:=by have:=DG kvs k v;omega
  refine wpAny_setItem_pairs (hsz:=hz) (wJ ry) dd λh' cT hs=>h _ ?_
  have he:∃q,h'.get? a=some q:=let ⟨q,_,_,hq,_⟩:=cT;⟨q,hq⟩
  exact EC I (by rw[e];exact G8) hs he (FJ hl hd (aC.put k rv) cT)
 .subst ey eH;cases (show u=Eb b from ry);obtain⟨z,hd,xs,aC,dd⟩:=ϝ I.hok e
  have hz:xs.length<=sizeLine:=by rw[<-Kh aC];exact z
  have hl:(lZ kvs k v).length<=sizeLine:=by have:=DG kvs k v;omega
  refine wpAny_setItem_heap (hsz:=hz) (Hv hu) (AL I.hok eb) dd λh' cT hs=>h _ ?_;obtain⟨q,es,ep,hq,h2,h3,h4,_,h5⟩:=cT;refine EC I (by rw[e];exact G8) hs ⟨q,hq⟩ ⟨hl,hd,_,(aC.put k eb rv).keeps λc ys ec=>?_,q,es,ep,hq,h2,h3,h4,h5⟩
  rw[v9 (Zl ec e (λz=>nomatch z))];exact ec
end
section
variable{X:Cx}{aa:jA}{U:St}{H:Hp}{s:Am}{a:Aw}{kvs:List (f7×V)}{k:f7}{u:Ac}{A:C6}{E:VP}
def Ϝ{Q:VP}(I:d4 X aa U H s)(e:Rd H a (.dK kvs))(h:∀t s',d4 X aa U H s'->Q (.int kvs.length t) s'):Ar (B2 X.prog X.w) A (call (.builtin "len") [.ref a]) Q E s:=by
 obtain⟨z,hd,vs,aC,dd⟩:=yR I.hok e;refine call_len_dict hd dd (by rw[<-aC.length];rw[C1]at z;omega) ?_
 rw[<-aC.length];exact h _ _ (I.tok _)
end
def BU(i:Expr):Prop:=∀ov iv,Lj i false ov iv=operate [ov,iv] (If ov iv)
def QC{prog:By}{w:Cg}{A:C6}{E:VP}{s:Am}{env:Me}{value aM:Expr}{pos:Gm}{T id:String}{Q:VP}(hl:typeLookup (.type T) "__getitem__" = Cj (some (.builtin id)))(hs:BU aM)(h:Ar (B2 prog w) A (Bz value env) (λo s₁=>Ar (B2 prog w) A (Bz aM env) (λi s₂=>s₂.TypeIs o T/\Ar (B2 prog w) A (If o i) Q E s₂) E s₁) E s):
  Ar (B2 prog w) A (Bz (.Subscript value aM pos) env) Q E s:=by
 refine M6 (Cc h (λo s₁ h₁=>Cc h₁ (λi s₂ h₂=>?_) λ_ _ x=>x) λ_ _ x=>x);obtain⟨hT,h₂⟩:=h₂;unfold Kk;refine A4 ?_;rw[getitemInPython_of_ne hT.not_modules];refine A4 (wpAny_specialOf hT hl ?_)
 have fin:Ar (B2 prog w) A (Lj aM false o i) (λr s₃=>Ar (B2 prog w) A (letTemporaryGo value o r >>= λ_=>Cj r) Q E s₃) E s₂:=by rw[hs o i];exact wpAny_operating (Cc h₂ (λr s₃ h₃=>A4 (wpAny_letTemporaryGo (wpAny_pure h₃))) λ_ _ x=>x)
 first
  |exact wpAny_pure (A4 fin)
  |exact A4 (wpAny_pure (A4 fin))
  |exact A4 fin
def UO(I:d4 X aa U H s)(g:nZ H a y o):s.TypeIs (.ref a) "dict":=by
 rcases g with⟨kvs,k,e,_,_⟩|⟨kvs,k,b,e,_,_,_⟩
 .obtain⟨_,_,vs,_,dd⟩:=yR I.hok e;exact dd.typeIs
 .obtain⟨_,_,xs,_,dd⟩:=BL I.hok e;exact dd.typeIs
def FF(td ty:TE):TE:=λU H Q=>td U H λx H1=>ty U H1 λy H2=>∃a v,x = .ref a/\nZ H2 a y (some v)/\Q v H2
def T4(ty td:TE):TE:=λU H Q=>ty U H λy H1=>td U H1 λx H2=>∃a o,x = .ref a/\nZ H2 a y o/\Q (.bl o.isSome) H2
def JJ(ty td:TE):TE:=λU H Q=>ty U H λy H1=>td U H1 λx H2=>∃a o,x = .ref a/\nZ H2 a y o/\Q (.bl (!o.isSome)) H2
def Zx(td ty tv:TE):TS:=λD U H=>tv U H λv H1=>td U H1 λx H2=>ty U H2 λy H3=>∃a H4,x = .ref a/\wY H3 a y v H4/\D.nx U H4
section
variable{X:Cx}{o i e value:Expr}{pos aU cO:Gm}{td ty tv:TE}
def Qs(hu:X.A.units+1<Cz)(ho:PE X o td)(hi:PE X i ty)(hs:BU i):PE X (.Subscript o i pos) (FF td ty):=by
 intro aa s U H Q I h;refine QC PySem.F.slot_dict_getitem.lookup hs (jG (ho aa s U H _ I h) λu s1 x H1 I1 rx q1=>jG (hi aa s1 U H1 _ I1 q1) λiv s2 y H2 I2 ry ⟨a,v,ex,g,q2⟩=>?_);subst ex
 obtain rfl:u=Eb a:=rx
 exact⟨UO I2 g,WN hu I2 g ry λw' s3 I3 rw'=>⟨v,H2,I3,rw',q2⟩⟩
def Tc(hu:X.A.units+1<Cz)(hi:PE X i ty)(ho:PE X o td):PC X .In i o (T4 ty td):=by
 intro aa s U H Q I h;refine jG (hi aa s U H _ I h) λiv s1 y H1 I1 ry q1=>jG (ho aa s1 U H1 _ I1 q1) λu s2 x H2 I2 rx ⟨a,ov,ex,g,q2⟩=>?_;subst ex
 obtain rfl:u=Eb a:=rx
 exact ö hu I2 g ry λs3 I3=>⟨.bl ov.isSome,H2,I3,rfl,q2⟩
def OK(hu:X.A.units+1<Cz)(hi:PE X i ty)(ho:PE X o td):PC X .NotIn i o (JJ ty td):=by
 intro aa s U H Q I h;refine jG (hi aa s U H _ I h) λiv s1 y H1 I1 ry q1=>jG (ho aa s1 U H1 _ I1 q1) λu s2 x H2 I2 rx ⟨a,ov,ex,g,q2⟩=>?_;subst ex
 obtain rfl:u=Eb a:=rx
 exact Ņ hu I2 g ry λs3 I3=>⟨.bl (!ov.isSome),H2,I3,rfl,q2⟩
def ţ(hu:X.A.units+1<Cz)(ho:PE X o td)(hi:PE X i ty)(hv:PE X value tv)(hs:Dz value (some (.Subscript o i aU)) pos.line X.env=Cj false):
  PS X (.Assign [.Subscript o i aU] value pos) (Zx td ty tv):=by
 intro aa s U H D I h;refine wpAny_Assign_Subscript (jG (hv aa s U H _ I h) λr s1 v H1 I1 rv q1=>jG (ho aa s1 U H1 _ I1 q1) λu s2 x H2 I2 rx q2=>jG (hi aa s2 U H2 _ I2 q2) λiv s3 y H3 I3 ry ⟨a,H4,ex,g,q3⟩=>?_) hs;subst ex
 obtain rfl:u=Eb a:=rx
 exact WO hu I3 g ry rv λs4 I4=>⟨U,H4,I4,q3⟩
end
def È(h:Cl)(hb:Ff<h.objs.size):lH P w H (h.push { cls:=.type "dict",data:=.dict #[] }) h.objs.size (.dK []):=
 ⟨Bh _,beq_eq_false_iff_ne.mpr (Cw (At hb)),[],.nil,Cl.DictOf.new h⟩
def ĸ:TE:=λ_ H Q=>∀p,H p=none->Q (.ref p) (upd H p (.dK []))
section
variable{X:Cx}{pos:Gm}
def æ:PE X (.Dict [] [] pos) ĸ:=λaa s U H Q I h=>wpAny_Dict_empty ⟨.ref s.heap.objs.size,_,I.laid (a:=s.heap.objs.size) (o:=.dK []) (t':=s.toks) (λ_ _ q=>A8 _ q) (Ak _) (È s.heap I.big),rfl,h _ (I.hok.fresh (Ak _))⟩
end
end L2
namespace L3
open PySem PySem.Spec PyProof.Rows L2 PySem.SeqAt
def qO:D->Option f7
 | .int i=>some (.inl i)
 | .str x=>some (.inr x)
 |_=>none
def kK:List f7->List D->f7->Option D
 |k::ks,v::vs,j=>if k=j then some v else kK ks vs j
 |_,_,_=>none
def lJ:List f7->List D->f7->D->List f7×List D
 |k::ks,v::vs,j,d=>if k=j then (k::ks,d::vs) else (k::(lJ ks vs j d).1,v::(lJ ks vs j d).2)
 |_,_,j,d=>([j],[d])
def oM:List (f7×V)->f7->V->List (f7×V)
 | [],j,d=>[(j,d)]
 |p::r,j,d=>if p.1=j then (p.1,d)::r else p::oM r j d
theorem CT(j:f7)(d:V):∀kvs:List (f7×V),(kvs.map (·.1)).Nodup->lZ kvs j d=oM kvs j d
 | [],_=>rfl
 |p::r,hn=>by
  rw[Aj,Bm]at hn;have ih:=CT j d r hn.2;unfold oM;by_cases e:p.1=j
  .rw[if_pos e];unfold lZ
   have ha:((p::r).any λkv=>decide (kv.1=j))=true:=by rw[Ek,decide_eq_true e,Md]
   rw[if_pos ha,Aj,if_pos e];congr 1
   have:∀kv∈r,(if kv.1=j then (kv.1,d) else kv)=kv:=λkv hkv=>if_neg λz=>hn.1 (by rw[e,<-z];exact Bq hkv)
   exact(B6 this).trans (Ib _)
  .rw[if_neg e,<-ih];unfold lZ;rw[Ek,decide_eq_false e,El];by_cases h:(r.any λkv=>decide (kv.1=j))=true
   .rw[if_pos h,if_pos h,Aj,if_neg e]
   .rw[if_neg h,if_neg h];rfl
section
variable{K:A5}{H:Hp}
theorem JW:∀{kvs:List (f7×V)} {vs:List D} {j:f7} {d:D},J3 K H vs (kvs.map (·.2))->kK (kvs.map (·.1)) vs j=some d->∃v,lQ kvs j=some v/\i5 K H d v
 | [],vs,j,d,_,e=>by cases vs<;>cases e
 |p::r,vs,j,d,h,e=>by
  cases vs with
  |nil=>cases e
  |cons x xs=>
   obtain⟨v,ws,e1,h1,h2⟩:=j9.mp h;rw[Aj]at e1;cases e1;rw[Aj]at e;unfold kK at e;by_cases z:p.1=j
   .rw[if_pos z]at e;cases e;exact⟨_,zP z,h1⟩
   .rw[if_neg z]at e;obtain⟨v,q1,q2⟩:=JW h2 e;exact⟨v,by rw[zO z];exact q1,q2⟩
theorem yB:∀{kvs:List (f7×V)} {vs:List D} {j:f7},J3 K H vs (kvs.map (·.2))->(kK (kvs.map (·.1)) vs j).isSome=(lQ kvs j).isSome
 | [],vs,j,_=>by cases vs<;>rfl
 |p::r,vs,j,h=>by
  cases vs with
  |nil=>cases K7.mp h
  |cons x xs=>
   obtain⟨v,ws,e1,h1,h2⟩:=j9.mp h;rw[Aj]at e1;cases e1;rw[Aj];unfold kK;by_cases z:p.1=j
   .rw[if_pos z,zP z];rfl
   .rw[if_neg z,zO z];exact yB h2
theorem EG:∀{kvs:List (f7×V)} {vs:List D} {j:f7} {d:D} {v:V},J3 K H vs (kvs.map (·.2))->i5 K H d v->(oM kvs j v).map (·.1)=(lJ (kvs.map (·.1)) vs j d).1/\J3 K H (lJ (kvs.map (·.1)) vs j d).2 ((oM kvs j v).map (·.2))
 | [],vs,j,d,v,h,hd=>by
  obtain rfl:vs=[]:=by cases vs with|nil=>rfl|cons _ _=>obtain⟨_,_,e,_⟩:=j9.mp h;cases e
  exact⟨rfl,J3.one hd⟩
 |p::r,vs,j,d,v,h,hd=>by
  cases vs with
  |nil=>cases K7.mp h
  |cons x xs=>
   obtain⟨y,ws,e1,h1,h2⟩:=j9.mp h;rw[Aj]at e1;cases e1;rw[Aj];unfold oM lJ;by_cases z:p.1=j
   .rw[if_pos z,if_pos z];exact⟨rfl,J3.cons hd h2⟩
   .rw[if_neg z,if_neg z];obtain⟨q1,q2⟩:=EG (j:=j) (d:=d) (v:=v) h2 hd;exact⟨by rw[Aj,q1],J3.cons h1 q2⟩
end
theorem vP{K:A5}{H:Hp}{d:D}{k:f7}{v:V}(e:qO d=some k)(h:i5 K H d v):v=kV k:=by
 cases d with
 |int i=>cases e;exact v8.mp h
 |str x=>cases e;exact l5.mp h
 |_=>cases e
section
variable{X:Cx}{a b e o:Expr}{pos aU p:Gm}{f fa fb:ED}
def pe_or(h1:PE X e t1)(h2:PE X e t2):PE X e (λU H Q=>t1 U H Q\/t2 U H Q):=λaa s U H Q I h=>by
 rcases h with h|h
 .exact h1 aa s U H Q I h
 .exact h2 aa s U H Q I h
def Zs(h1:PT X e t1)(h2:PT X e t2):PT X e (λU H Q=>t1 U H Q\/t2 U H Q):=λaa s U H Q I h=>by
 rcases h with h|h
 .exact h1 aa s U H Q I h
 .exact h2 aa s U H Q I h
def kZ{α:Type}(f g:J5->Option α):J5->Option α:=λY=>match f Y with|some d=>some d|none=>g Y
def Tu(h1:SE X e fa)(h2:SE X e fb):SE X e (kZ fa fb):=u9 (pe_or h1 h2) λU H Q h_=>by
 refine i7 h_ λY d B H0 V0 Z e r q=>?_;unfold kZ at e;split at e
 .rename_i d' h;cases e;exact .inl ⟨Y,_,B,H0,V0,Z,h,r,q⟩
 .exact .inr ⟨Y,_,B,H0,V0,Z,e,r,q⟩
def Tx(h1:xF X e ga)(h2:xF X e gb):xF X e (kZ ga gb):=p8 (Zs h1 h2) λU H Q h_=>by
 refine i7 h_ λY d B H0 V0 Z e r q=>?_;unfold kZ at e;split at e
 .rename_i d' h;cases e;exact .inl ⟨Y,_,B,H0,V0,Z,h,r,q⟩
 .exact .inr ⟨Y,_,B,H0,V0,Z,e,r,q⟩
def oY:GS X (.Dict [] [] pos) (λ_=>some ([],[])):=
 ⟨u9 æ λU H Q ⟨Y,ds,B,H0,V0,Z,e,r,q⟩ p hp=>by
 cases e
 exact q p [] _ (j8 hp) hp v4 rfl J3.nil⟩
def m8(fa fb:ED):ED:=λY=>match fa Y with
 |some (.dct ks vs)=>(match fb Y with|some kd=>(match qO kd with|some k=>kK ks vs k|none=>none)|none=>none)
 |_=>none
def ű(hu:X.A.units+64<Cz)(ho:SE X o fa)(hi:SE X a fb)(hs:BU a:=by exact λ_ _=>rfl):SE X (.Subscript o a pos) (m8 fa fb):=
 u9 (Qs (by omega) ho hi hs) λU H Q h_=>by
  refine i7 h_ λY d B H0 V0 Z e r q=>?_;unfold m8 at e;split at e
  .rename_i ks vs ed;split at e
   .rename_i kd ek;split at e
    .rename_i k hk;refine⟨Y,_,B,H0,V0,Z,ed,r,λx H1 s1 r1=>⟨Y,kd,B,H0,V0,Z,ek,r.mono s1,λy H2 s2 r2=>?_⟩⟩;obtain⟨n,kvs,rfl,h1,h2,h3⟩:=l0.mp (r1.mono (w6 s2));subst h2;obtain⟨v,q1,q2⟩:=JW h3 e
     obtain rfl:=vP hk r2
     refine⟨n,v,rfl,?_,q v H2 (s1.trans s2) q2⟩;rw[<-q1];exact nZ.k (Y7 h1).2
    .cases e
   .cases e
  .cases e
def qF(i:Nat):J5->Option (List f7×List D):=λY=>match Y[i]? with|some (some (.od ks vs))=>some (ks,vs)|_=>none
def vY{d:List f7×List D}(e:qF i Y=some d):Y[i]?=some (some (.od d.1 d.2)):=by
 unfold qF at e;split at e
 .rename_i h;cases e;exact h
 .cases e
def Nl(i:Nat)(fb:ED):ED:=λY=>match qF i Y with
 |some d=>(match fb Y with|some kd=>(match qO kd with|some k=>kK d.1 d.2 k|none=>none)|none=>none)
 |_=>none
def mN(neg:Bool)(fb fa:ED):ED:=λY=>match fb Y with
 |some kd=>(match fa Y with|some (.dct ks vs)=>(match qO kd with|some k=>some (.bl (if neg then !(kK ks vs k).isSome else (kK ks vs k).isSome))|none=>none)|_=>none)
 |none=>none
def yP(neg:Bool)(fb:ED)(i:Nat):ED:=λY=>match fb Y with
 |some kd=>(match qF i Y with|some d=>(match qO kd with|some k=>some (.bl (if neg then !(kK d.1 d.2 k).isSome else (kK d.1 d.2 k).isSome))|none=>none)|_=>none)
 |none=>none
def PY{K:A5}:∀U H Q,tD K (mN false fb fa) U H Q->T4 (tD K fb) (tD K fa) U H Q:=λU H Q h_=>by
 refine i7 h_ λY d B H0 V0 Z e r q=>?_;unfold mN at e;split at e
 .rename_i kd ek;split at e
  .rename_i ks vs ed;split at e
   .rename_i k hk;cases e;refine⟨Y,kd,B,H0,V0,Z,ek,r,λy H1 s1 r1=>⟨Y,_,B,H0,V0,Z,ed,r.mono s1,λx H2 s2 r2=>?_⟩⟩;obtain⟨n,kvs,rfl,h1,h2,h3⟩:=l0.mp r2;subst h2
    obtain rfl:=vP hk r1
    refine⟨n,lQ kvs k,rfl,nZ.k (Y7 h1).2,?_⟩;rw[yB h3]at q;exact q _ H2 (s1.trans s2) (Q3.mpr rfl)
   .cases e
  .cases e
 .cases e
def É{K:A5}:∀U H Q,tD K (mN true fb fa) U H Q->JJ (tD K fb) (tD K fa) U H Q:=λU H Q h_=>by
 refine i7 h_ λY d B H0 V0 Z e r q=>?_;unfold mN at e;split at e
 .rename_i kd ek;split at e
  .rename_i ks vs ed;split at e
   .rename_i k hk;cases e;refine⟨Y,kd,B,H0,V0,Z,ek,r,λy H1 s1 r1=>⟨Y,_,B,H0,V0,Z,ed,r.mono s1,λx H2 s2 r2=>?_⟩⟩;obtain⟨n,kvs,rfl,h1,h2,h3⟩:=l0.mp r2;subst h2
    obtain rfl:=vP hk r1
    refine⟨n,lQ kvs k,rfl,nZ.k (Y7 h1).2,?_⟩;rw[yB h3]at q;exact q _ H2 (s1.trans s2) (Q3.mpr rfl)
   .cases e
  .cases e
 .cases e
def WQ{K:A5}{i:Nat}:∀U H Q,tD K (yP true fb i) U H Q->JJ (tD K fb) (oN i) U H Q:=λU H Q h_=>by
 refine i7 h_ λY d B H0 V0 Z e r q=>?_;unfold yP at e;split at e
 .rename_i kd ek;split at e
  .rename_i dd ed;split at e
   .rename_i k hk;cases e;obtain⟨n,kvs,h1,h2,hb,h3,h4,h5,h6⟩:=r.od i dd.1 dd.2 (vY ed);refine⟨Y,kd,B,H0,V0,Z,ek,r,λy H1 s1 r1=>⟨.ref n,h1,?_⟩⟩
    obtain rfl:=vP hk r1
    refine⟨n,lQ kvs k,rfl,nZ.k (s1 _ _ h4),?_⟩;rw[<-h5,yB h6]at q;exact q _ H1 s1 (Q3.mpr rfl)
   .cases e
  .cases e
 .cases e
def X4(i:Nat){x:Bg}(hu:X.A.units+64<Cz)(hi:ZE X a fb)(hN:X.N[i]?=some x:=by rfl)(hv:mX X.env.scope x:=by first|exact Dg rfl|exact Cp (Dg rfl)|exact Cp (Cp rfl))(hd:(x==("__debug__":Bg))=false:=by decide)(aO:(x==("__classdict__":Bg))=false:=by decide):ZT X (.Compare a [.NotIn] [.Name x p] pos) (y9 (yP true fb i)):=
 ⟨have hi:=hi.h;
 p8 (LW (OK (by omega) hi (nX hN hv hd aO)) rfl) λU H Q h=>WQ _ _ _ (uE U H Q h)⟩
def QH(hu:X.A.units+64<Cz)(ha:ZE X a fb)(hb:ZE X b fa)(hm:Cs .In b=false:=by with_unfolding_all rfl):ZE X (.Compare a [.In] [b] pos) (kZ (jS false fb (d8 fa)) (mN false fb fa)):=
 ⟨have ha:=ha.h;
 have hb:=hb.h;
 Tu (Zy hu ha (FZ hb) hm) (u9 (Ė (Tc (by omega) ha hb) hm) PY)⟩
def EQ(hu:X.A.units+64<Cz)(ha:ZE X a fb)(hb:ZE X b fa)(hm:Cs .In b=false:=by with_unfolding_all rfl):ZT X (.Compare a [.In] [b] pos) (kZ (y9 (jS false fb (d8 fa))) (y9 (mN false fb fa))):=
 ⟨have ha:=ha.h;
 have hb:=hb.h;
 Tx (Sg hu ha (FZ hb) hm) (p8 (LW (Tc (by omega) ha hb) hm) λU H Q h=>PY _ _ _ (uE U H Q h))⟩
def Wv(hu:X.A.units+64<Cz)(ha:ZE X a fb)(hb:ZE X b fa)(hm:Cs .NotIn b=false:=by with_unfolding_all rfl):ZT X (.Compare a [.NotIn] [b] pos) (kZ (y9 (jS true fb (d8 fa))) (y9 (mN true fb fa))):=
 ⟨have ha:=ha.h;
 have hb:=hb.h;
 Tx (Tw hu ha (FZ hb) hm) (p8 (LW (OK (by omega) ha hb) hm) λU H Q h=>É _ _ _ (uE U H Q h))⟩
def nK(i:Nat)(fk fv:ED):EO:=λY=>match fv Y with
 |some v=>(match qF i Y with
  |some d=>(match fk Y with
   |some kd=>(match qO kd with|some k=>if d.1.Nodup/\d.1.length<f9 then some (.nx (Y.set i (some (.od (lJ d.1 d.2 k v).1 (lJ d.1 d.2 k v).2)))) else none|none=>none)
   |none=>none)
  |none=>none)
 |none=>none
def BJ{i:Nat}{x:Bg}(hu:X.A.units+64<Cz)(hi:ZE X a fb)(cx:ZE X b fa)(hN:X.N[i]?=some x:=by rfl)(hv:mX X.env.scope x:=by first|exact Dg rfl|exact Cp (Dg rfl)|exact Cp (Cp rfl))(hd:(x==("__debug__":Bg))=false:=by decide)(aO:(x==("__classdict__":Bg))=false:=by decide)(hs:Dz b (some (.Subscript (.Name x p) a aU)) pos.line X.env=Cj false:=by rfl):ZS X (.Assign [.Subscript (.Name x p) a aU] b pos) (nK i fb fa):=
 ⟨have hi:=hi.h;
 have cx:=cx.h;
 nJ (ţ (by omega) (nX hN hv hd aO) hi cx hs) λE U H h_=>by
  refine i7 h_ λY o B H0 V0 Z e r q=>?_;unfold nK at e;split at e
  .rename_i v ev;split at e
   .rename_i dd ed;split at e
    .rename_i kd ek;split at e
     .rename_i k hk;split at e
      .rename_i hz;cases e;obtain⟨n,kvs,h1,h2,hb,h3,h4,h5,h6⟩:=r.od i dd.1 dd.2 (vY ed);refine⟨Y,v,B,H0,V0,Z,ev,r,λy H1 s1 r1=>⟨.ref n,h1,Y,kd,B,H0,V0,Z,ek,r.mono s1,λz H2 s2 r2=>?_⟩⟩
       obtain rfl:=vP hk r2
       have ab:kvs.length<sizeLine:=by
        have:kvs.length=dd.1.length:=by rw[<-h5,A0]
        rw[this];exact yG (De hz.2)
       refine⟨n,_,rfl,wY.k (s2 _ _ (s1 _ _ h4)) ab,?_⟩;rw[CT k y kvs (by rw[h5];exact hz.1)]
       have R2:=(r.mono s1).mono s2;obtain⟨p1,p2⟩:=EG (j:=k) (h6.mono (w6 (s1.trans s2))) (r1.mono (w6 s2));rw[h5]at p1 p2;exact q U _ Z (R2.updC (c:=.d dd.1 dd.2) (e:=.d (lJ dd.1 dd.2 k v).1 (lJ dd.1 dd.2 k v).2) (vY ed) h1 ⟨_,rfl,p1,p2⟩)
      .cases e
     .cases e
    .cases e
   .cases e
  .cases e⟩
end
section
variable{prog:By}{w:Cg}{A:C6}{E:VP}{s:Am}{R:Kj->Am->Prop}
def Kp(it S:Aw)(h h':Cl):Prop:=∀b o,b≠it->b≠S->h.get? b=some o->h'.get? b=some o
def Kp.trans(a:Kp it S h h1)(b:Kp it S h1 h2):Kp it S h h2:=λc o n1 n2 e=>b c o n1 n2 (a c o n1 n2 e)
abbrev ϯ:String->Ml->D0:=(λ(f:String->Ml->D0) (_:f "max" .Gt=D0.«max.loop»)=>f) _ rfl
abbrev ϰ:String->D0:=(λ(f:String->D0) (_:f "max" = D0.max)=>f) _ rfl
structure MM(nm nl:String)(op:Ml):Prop where
 el:entryFor table nl=some (ϯ nm op)
 pl:plainId nl=true
 hn:(Jv nm++Jv ".loop":String)=nl
 k:builtinKind nm=none
 p:plainId nm=true
 e:entryFor table nm=some (ϰ nm)
 a:∀a b:Ac,Mg nm { pos:=[a,b] }
def Zi:MM "max" "max.loop" .Gt:=⟨F.entry_max_loop,F.plain_max_loop,by decide,F.kind_max,F.plain_max,F.entry_max,F.args_max2⟩
def Zj:MM "min" "min.loop" .Lt:=⟨F.entry_min_loop,F.plain_min_loop,by decide,F.kind_min,F.plain_min,F.entry_min,F.args_min2⟩
variable{nm nl:String}{op:Ml}
def SZ(M:MM nm nl op){it T S:Aw}{u v x:Ac}{c:Nat}(hh:A.handled=none)(bV:s.heap.IsTupleIter it T 2)(ht:s.heap.IsTuple T #[u,v])(ak:S≠it)(hS:s.heap.get? S=some { cls:=.type "list",dict:=none,data:=.seq #[x,x] c,slots:=#[] })(hR:∀h',Kp it S s.heap h'->R (.ok (.ret x)) { s with heap:=h' }):E8 (B2 prog w) A (.builtin nl ⟨[.ref it,.none,.ref S],[]⟩) R s:=by
 refine codeAny_builtin M.el ?_;rw[Ch M.pl _];show Ar _ A.in1 (Ir (.ref S) >>= _) _ _ s;refine A4 (Eu hS rfl ?_);show Ar _ A.in1 (Fq (Ki (.ref it)) _ >>= _) _ _ s;refine A4 (Dl (Ic hh bV ht (by simp) λh1 k1=>?_));have dW:=k1 S _ ak hS;show Ar _ A.in1 (Is S (λ_=>#[]) >>= _) _ _ _;refine A4 (Gc dW rfl (A4 (G5 (wpAny_pure (hR _ λb o n1 n2 e=>?_)))))
 exact(Bn _ _ (Cw n2)).trans (k1 b o n1 e)
theorem ċ(M:MM nm nl op){it T S:Aw}{u v:Ac}{c:Nat}(hh:A.handled=none)(bV:s.heap.IsTupleIter it T 1)(ht:s.heap.IsTuple T #[u,v])(ak:S≠it)(hTi:T≠it)(hTS:T≠S)(hS:s.heap.get? S=some { cls:=.type "list",dict:=none,data:=.seq #[u,u] c,slots:=#[] })(hc:∀h' (Q:VP) (E:VP),Kp it S s.heap h'->Q (.bool bb) { s with heap:=h' }->Ar (B2 prog w) A.in1 (G0 op v u) Q E { s with heap:=h' })(hR:∀h',Kp it S s.heap h'->R (.ok (.ret (if bb=true then v else u))) { s with heap:=h' }):E8 (B2 prog w) A (.builtin nl ⟨[.ref it,.none,.ref S],[]⟩) R s:=by
 refine codeAny_builtin M.el ?_;rw[Ch M.pl _];show Ar _ A.in1 (Ir (.ref S) >>= _) _ _ s;refine A4 (Eu hS rfl ?_);show Ar _ A.in1 (Fq (Ki (.ref it)) _ >>= _) _ _ s;refine A4 (Dl (Fl bV ht (x:=v) (by simp) λh1 i1 k1=>?_));have gL:Kp it S s.heap h1:=λb o n1 _ e=>(k1.2 b n1).trans e;have dW:=(k1.2 S ak).trans hS
 have hT1:h1.IsTuple T #[u,v]:=ht.extBut k1.extBut hTi;show Ar _ A.in1 (Fq (Gx [v,v] (G0 op v u >>= _)) _ >>= _) _ _ _;refine A4 (Dl (Cu (A4 (hc h1 _ _ gL ?_))));refine A4 (Cu (Cn (A4 (G5 (wpAny_pure ?_)))))
 cases bb with
 |true=>
  simp only[if_true];refine A4 (Gc dW rfl (A4 (G5 ?_)));rw[M.hn];refine wpAny_pure ⟨plainId_quiet M.pl _,SZ M (u:=u) (v:=v) (T:=T) hh ?_ ?_ ak (Gh _ dW rfl) λh2 k2=>hR h2 (gL.trans (Kp.trans (λb o n1 n2 e=>(Bn _ _ (Cw n2)).trans e) k2))⟩
  .obtain⟨o,e,z⟩:=i1;exact⟨o,(Bn _ _ ak).trans e,z⟩
  .obtain⟨o,e,z⟩:=hT1;exact⟨o,(Bn _ _ (Cw hTS)).trans e,z⟩
 |false=>simp only[Es,if_false];refine A4 (G5 ?_);rw[M.hn];exact wpAny_pure ⟨plainId_quiet M.pl _,SZ M (u:=u) (v:=v) hh i1 hT1 ak dW λh2 k2=>hR h2 (gL.trans k2)⟩
def Ċ(M:MM nm nl op){it T S:Aw}{u v:Ac}{c:Nat}(hh:A.handled=none)(bV:s.heap.IsTupleIter it T 0)(ht:s.heap.IsTuple T #[u,v])(ak:S≠it)(hTi:T≠it)(hTS:T≠S)(hS:s.heap.get? S=some { cls:=.type "list",dict:=none,data:=.seq #[] c,slots:=#[] })(hc:∀h' (Q:VP) (E:VP),Kp it S s.heap h'->Q (.bool bb) { s with heap:=h' }->Ar (B2 prog w) A.in1 (G0 op v u) Q E { s with heap:=h' })(hR:∀h',Kp it S s.heap h'->R (.ok (.ret (if bb=true then v else u))) { s with heap:=h' }):E8 (B2 prog w) A (.builtin nl ⟨[.ref it,.none,.ref S],[]⟩) R s:=by
 refine codeAny_builtin M.el ?_;rw[Ch M.pl _];show Ar _ A.in1 (Ir (.ref S) >>= _) _ _ s;refine A4 (Eu hS rfl ?_);show Ar _ A.in1 (Fq (Ki (.ref it)) _ >>= _) _ _ s;refine A4 (Dl (Fl bV ht (x:=u) (by simp) λh1 i1 k1=>?_));have gL:Kp it S s.heap h1:=λb o n1 _ e=>(k1.2 b n1).trans e;have dW:=(k1.2 S ak).trans hS
 have hT1:h1.IsTuple T #[u,v]:=ht.extBut k1.extBut hTi;show Ar _ A.in1 (Is S (λ_=>#[u,u]) >>= _) _ _ _;refine A4 (Gc dW rfl ?_);rw[M.hn];have ku:Kp it S h1 _:=λb o n1 n2 e=>(Bn h1 (Cd λ_=>#[u,u]) (Cw n2)).trans e;refine wpAny_pure ⟨plainId_quiet M.pl _,ċ M (u:=u) (v:=v) (T:=T) (bb:=bb) hh ?_ ?_ ak hTi hTS (Gh _ dW rfl) (λh' Q E k q=>hc h' Q E (gL.trans (ku.trans k)) q) λh2 k2=>hR h2 (gL.trans (ku.trans k2))⟩
 .obtain⟨o,e,z⟩:=i1;exact⟨o,(Bn _ _ ak).trans e,z⟩
 .obtain⟨o,e,z⟩:=hT1;exact⟨o,(Bn _ _ (Cw hTS)).trans e,z⟩
def S0(M:MM nm nl op){Q:VP}(hh:A.handled=none)(hc:∀h' (Q:VP) (E:VP),(∀b o,s.heap.get? b=some o->h'.get? b=some o)->Q (.bool bb) { s with heap:=h' }->Ar (B2 prog w) A.in1 (G0 op v u) Q E { s with heap:=h' })(hQ:∀h',(∀b o,s.heap.get? b=some o->h'.get? b=some o)->Q (if bb=true then v else u) { s with heap:=h' }):Ar (B2 prog w) A (call (.builtin nm) [u,v]) Q E s:=by
 refine call_function_tree M.k M.p M.e (M.a _ _) ?_;show Ar _ A.in1 (Bw nm ["key","default"] 0 ⟨[],[]⟩ >>= _) _ _ s;refine A4 (Ia (show Bw nm ["key","default"] 0 ⟨[],[]⟩=Cj [none,none] from rfl) ?_);show Ar _ A.in1 (newTuple [u,v] >>= _) _ _ s;refine A4 (C4 ?_);generalize h1e:s.heap.push { cls:=D3 "tuple",data:=Jb #[u,v] }=h1
 have k1:∀b o,s.heap.get? b=some o->h1.get? b=some o:=λb o e=>by rw[<-h1e];exact A8 _ e
 have t1:h1.IsTuple s.heap.objs.size #[u,v]:=by rw[<-h1e];exact⟨_,Au _ rfl,rfl,_,rfl⟩
 have z1:h1.objs.size=s.heap.objs.size+1:=by rw[<-h1e,Dy]
 refine A4 (Ep (s:={ s with heap:=h1 }) t1 (A4 (C4 ?_)));generalize h2e:(h1.push { cls:=D3 "tuple_iterator",data:=Data.fields #[.ref s.heap.objs.size,.int 0 0] })=h2
 have k2:∀b o,h1.get? b=some o->h2.get? b=some o:=λb o e=>by rw[<-h2e];exact A8 _ e
 have i2:h2.IsTupleIter h1.objs.size s.heap.objs.size 0:=by rw[<-h2e];exact⟨_,Au _ rfl,rfl,rfl⟩
 have z2:h2.objs.size=h1.objs.size+1:=by rw[<-h2e,Dy]
 rw[M.hn]
 have hs0:s.heap.objs.size<h1.objs.size:=by rw[z1];exact Em _
 have gv:h1.objs.size<h2.objs.size:=by rw[z2];exact Em _
 have k3:∀b o,h2.get? b=some o->(h2.push { cls:=D3 "list",data:=Jb ([]:List Ac).toArray }).get? b=some o:=λb o e=>A8 _ e
 have all:∀{h'},Kp h1.objs.size h2.objs.size (h2.push { cls:=D3 "list",data:=Jb ([]:List Ac).toArray }) h'->∀b o,s.heap.get? b=some o->h'.get? b=some o:=λ{h'} k b o e=>k b o (At (Dp (Ao e) hs0)) (At (Dp (Ao e) (Dp hs0 gv))) (k3 b o (k2 b o (k1 b o e)))
 refine wpAny_pure ⟨plainId_quiet M.pl _,Ċ M (u:=u) (v:=v) (T:=s.heap.objs.size) (bb:=bb) (s:={ s with heap:=h2.push { cls:=D3 "list",data:=Jb ([]:List Ac).toArray } }) hh ?_ ?_ (D4 gv) (At hs0) (At (Dp hs0 gv)) (Au _ rfl) (λh' Q E k q=>hc h' Q E (all k) q) λh' k=>hQ h' (all k)⟩
 .obtain⟨o,e,z⟩:=i2;exact⟨o,k3 _ _ e,z⟩
 .obtain⟨o,e,z⟩:=t1;exact⟨o,k3 _ _ (k2 _ _ e),z⟩
end
section
open HT
def Ru(A:C6)(s:Am)(a:Int)(t:Tok)(c:Int)(u:Tok)(prog:By)(w:Cg)(E:VP)(Q:VP)(h:Q (.bool (decide (c<a))) s):
  Ar (B2 prog w) A (G0 .Gt (.int a t) (.int c u)) Q E s:=
 (PyProof.Rows.gt_int h:Ar (B2 prog w) A (Ce .Gt (.int a t) (.int c u)) Q E s)
open PySem.SeqAt
open PySem.AutoSeq1 (wpAny_loadPart')
open PySem.MeetsSeq PySem.MeetsSeq2 PySem.MeetsSeq3
def VC(l b:Aw)(items al:Array Ac)(n n2:Nat)(dd cv:Option Aw)(sl cJ:Array (Option Ac))(ns ms:List Int)(hi:C2 items.toList ns)(hj:C2 al.toList ms):
  Mu (D0.«tuple.__gt__» ⟨[.ref l,.ref b],[]⟩)
   (λ_ R s=>s.heap.get? l=some { cls:=.type "tuple",dict:=dd,data:=.seq items n,slots:=sl }/\s.heap.get? b=some { cls:=.type "tuple",dict:=cv,data:=.seq al n2,slots:=cJ } /\
    R (.ok (.ret (.bool (lexLt ms ns)))) s):=
 .of_wp λprog w A R s h=>by
  obtain⟨hp,g,d,tk,os⟩:=s;obtain⟨hl,hb,h⟩:=h;have f2:=AutoSeq1.sub_tuple_tuple
  have z1:items.size=ns.length:=by rw[<-hi.length];simp
  have z2:al.size=ms.length:=by rw[<-hj.length];simp
  wp_walk using Ga hl,Ga hb,Kr _ (λrest b s'=>b.1=none/\s'=⟨hp,g,d,tk,os⟩/\∃(vs ws:List Ac) (bH bI:List Int),rest=vs.zip ws /\
   C2 vs bH/\C2 ws bI/\bH.length+al.size=bI.length+items.size/\R (.ok (.ret (.bool (lexLt bI bH)))) ⟨hp,g,d,tk,os⟩) _
  case turn=>
   rintro ⟨y,x⟩ rest b s' ⟨aP,rfl,vs,ws,bH,bI,hz,fI,eN,ab,hR⟩
   cases fI with
   |nil=>rw[List.zip_nil_left]at hz;cases hz
   |cons a t hvi'=>
    cases eN with
    |nil=>rw[Js]at hz;cases hz
    |cons c u hwi'=>
     rw[E5]at hz;injection hz with hyx hrest;injection hyx with hy hx;subst hy hx;rw[lexLt_cons]at hR;simp only[Av]at ab;obtain⟨e,he,dv⟩:=QT A.in1 ⟨hp,g,d,tk,os⟩ a t c u;refine A4 (he prog w _ _ ?_)
     cases e with
     |true=>
      rw[if_pos (dv.mp rfl).symm]at hR
      wp_walk
      exact⟨rfl,rfl,_,_,_,_,hrest,hvi',hwi',by omega,hR⟩
     |false=>
      rw[if_neg (λq=>absurd (dv.mpr q.symm) B0)]at hR;have hri:=Ru A.in1 ⟨hp,g,d,tk,os⟩ a t c u prog w
      wp_walk using hri
      exact⟨_,rfl,by simpa using hR⟩
  case fin=>
   rintro ⟨b1,b2⟩ s' ⟨aP,rfl,vs,ws,bH,bI,hz,fI,eN,ab,hR⟩;simp only at aP;subst aP
   have hv:lexLt bI bH=decide (al.size<items.size):=by
    cases fI with
    |nil=>
     cases eN with
     |nil=>simp only[Bx]at ab;rw[lexLt_nil_nil];exact(decide_eq_false (by omega)).symm
     |cons c u hw=>simp only[Bx,Av]at ab;rw[NO];exact(decide_eq_false (by omega)).symm
    |cons a t hv=>
     cases eN with
     |nil=>simp only[Bx,Av]at ab;rw[NP];exact(decide_eq_true (by omega)).symm
     |cons c u hw=>rw[E5]at hz;cases hz
   rw[hv]at hR
   wp_walk
   exact⟨_,rfl,by simpa [D0.Tuple.tupleCompareSizes] using hR⟩
  case h=>exact⟨rfl,rfl,items.toList,al.toList,ns,ms,rfl,hi,hj,by omega,h⟩
end
section
variable{prog:By}{w:Cg}{A:C6}{E:VP}{s:Am}
def Pa{Q:VP}(hl:Kq s.heap l items)(hb:Kq s.heap b al)(hi:C2 items.toList ns)(hj:C2 al.toList ms)(hu:A.units<Cz)(h:Q (.bool (HT.lexLt ms ns)) s):Ar (B2 prog w) A (G0 .Gt (.ref l) (.ref b)) Q E s:=by
 rcases id hl with⟨⟨cls,dd,data,sl⟩,ho,hc,n,hd⟩;rcases id hb with⟨⟨eI,cv,data2,cJ⟩,bX,bf,n2,bA⟩;simp only at hc hd bf bA;subst hc hd bf bA
 exact richCompare_meets_room (op:=.Gt) ⟨_,ho,rfl⟩ ⟨_,bX,rfl⟩ PySem.F.slot_tuple_gt PySem.F.entry_tuple_gt (PySem.F.args_tuple_gt_2 _ _) (VC l b items al n n2 dd cv sl cJ ns ms hi hj)
  ⟨ho,bX,show M5 (HT.lexLt ms ns)≠Iy/\Q (.bool (HT.lexLt ms ns)) s from ⟨(λx=>nomatch x),h⟩⟩ hu
end
section
variable{X:Cx}{a b:Expr}{fa fb:ED}{p pos:Gm}
def Tk(K:A5):List V->Hp->VK->Prop:=λxs H Q=>∃a b ns ms,xs=[.ref a,.ref b]/\jF K H a (ns.map V.int)/\jF K H b (ms.map V.int)/\Q (if HT.lexLt ns ms=true then .ref b else .ref a) H
def Tl(K:A5):List V->Hp->VK->Prop:=λxs H Q=>∃a b ns ms,xs=[.ref a,.ref b]/\jF K H a (ns.map V.int)/\jF K H b (ms.map V.int)/\Q (if HT.lexLt ms ns=true then .ref b else .ref a) H
def Yj(hc:X.calm=true)(hu:X.A.units+64<Cz):lN X (.builtin "max") (Tk X.K):=by
 intro aa s U H xs us Q I r h;obtain⟨a,b,ns,ms,rfl,ha,hb,q⟩:=h;obtain⟨u,v,rfl,ru,rv⟩:=BR r;cases ru;cases rv;refine S0 Zi (bb:=HT.lexLt ns ms) (I.ok.hd hc) (λh' Q' E' k q'=>?_) λh' k=>?_
 .have I':d4 X aa U H { s with heap:=h' }:=I.kept (t':=s.toks) k;obtain⟨its,r1,p1,_⟩:=I'.tuple ha;obtain⟨aq,r2,p2,_⟩:=I'.tuple hb;exact Pa (s:={ s with heap:=h' }) p2 p1 (show C2 aq.toArray.toList ms from W1 r2) (show C2 its.toArray.toList ns from W1 r1) (by show X.A.units+1<Cz;omega) q'
 .refine⟨_,H,I.kept (t':=s.toks) k,?_,q⟩
  split<;>rfl
def Ym(hc:X.calm=true)(hu:X.A.units+64<Cz):lN X (.builtin "min") (Tl X.K):=by
 intro aa s U H xs us Q I r h;obtain⟨a,b,ns,ms,rfl,ha,hb,q⟩:=h;obtain⟨u,v,rfl,ru,rv⟩:=BR r;cases ru;cases rv;refine S0 Zj (bb:=HT.lexLt ms ns) (I.ok.hd hc) (λh' Q' E' k q'=>?_) λh' k=>?_
 .have I':d4 X aa U H { s with heap:=h' }:=I.kept (t':=s.toks) k;obtain⟨its,r1,p1,_⟩:=I'.tuple ha;obtain⟨aq,r2,p2,_⟩:=I'.tuple hb
  have:=HT.lt_tupInts (prog:=X.prog) (w:=X.w) (A:=X.A.in1) (E:=E') (Q:=Q') (s:={ s with heap:=h' }) p2 p1 (show C2 aq.toArray.toList ms from W1 r2) (show C2 its.toArray.toList ns from W1 r1) (by show X.A.units+1<Cz;omega) q'
  exact this
 .refine⟨_,H,I.kept (t':=s.toks) k,?_,q⟩
  split<;>rfl
def BN:D->Option (List Int)
 | .tup ds=>lE ds
 |_=>none
def MN:LD:=λds=>match ds with|[x,y]=>(match BN x,BN y with|some ns,some ms=>some (if HT.lexLt ns ms=true then y else x)|_,_=>none)|_=>none
def MP:LD:=λds=>match ds with|[x,y]=>(match BN x,BN y with|some ns,some ms=>some (if HT.lexLt ms ns=true then y else x)|_,_=>none)|_=>none
theorem CW{K:A5}{H:Hp}{d:D}{ns:List Int}{v:V}(e:BN d=some ns)(h:i5 K H d v):∃a,v = .ref a/\jF K H a (ns.map V.int):=by
 cases d with
 |tup ds=>have e':lE ds=some ns:=e;obtain⟨a,xs,rfl,h1,h2⟩:=j3.mp h;rw[Z7 e',Y6]at h2;subst h2;exact⟨a,rfl,h1⟩
 |_=>cases e
def ŭ{K:A5}:pX K (Tk K) MN:=by
 intro ds d e Z H vs Q zs rr q;unfold MN at e;split at e
 .rename_i x y;split at e
  .rename_i ns ms e1 e2;cases e;obtain⟨u,v,rfl,h1,h2⟩:=EY rr;obtain⟨a,rfl,g1⟩:=CW e1 h1;obtain⟨b,rfl,g2⟩:=CW e2 h2;refine⟨a,b,ns,ms,rfl,j6 w9 g1,j6 w9 g2,q _ H (J0.refl H) ?_⟩;split
   .exact h2
   .exact h1
  .cases e
 .cases e
def Ů{K:A5}:pX K (Tl K) MP:=by
 intro ds d e Z H vs Q zs rr q;unfold MP at e;split at e
 .rename_i x y;split at e
  .rename_i ns ms e1 e2;cases e;obtain⟨u,v,rfl,h1,h2⟩:=EY rr;obtain⟨a,rfl,g1⟩:=CW e1 h1;obtain⟨b,rfl,g2⟩:=CW e2 h2;refine⟨a,b,ns,ms,rfl,j6 w9 g1,j6 w9 g2,q _ H (J0.refl H) ?_⟩;split
   .exact h2
   .exact h1
  .cases e
 .cases e
def pX.or{K:A5}{r r':List V->Hp->VK->Prop}{F F':LD}(h:pX K r F)(h':pX K r' F'):pX K (λxs H Q=>r xs H Q\/r' xs H Q) (λds=>match F ds with|some d=>some d|none=>F' ds):=by
 intro ds d e Z H vs Q zs rr q;dsimp only at e;split at e
 .rename_i d' hd;cases e;exact .inl (h ds d hd Z H vs Q zs rr q)
 .exact .inr (h' ds d e Z H vs Q zs rr q)
def ML:LD:=λds=>match uZ ds with|some d=>some d|none=>MN ds
def MO:LD:=λds=>match o9 ds with|some d=>some d|none=>MP ds
def Wr(hc:X.calm=true)(hu:X.A.units+64<Cz)(hm:X.mg "max" = none)(ha:ZE X a fa)(hb:ZE X b fb)(hg:Gl X "max":=by rfl)(hv:B7 "max" = some (.builtin "max"):=by decide +kernel)(he:A9 [a,b] X.env=(false,Bz a X.env)::A9 [b] X.env:=by exact u7 rfl)(bS:A9 [b] X.env=(false,Bz b X.env)::A9 [] X.env:=by exact u7 rfl)(ao:(Bu pos (A9 [b] X.env)).any (·.1)=false:=by exact J9 rfl):ZE X (.Call (.Name "max" p) [a,b] [] pos) (x8 ML (z9 fa (z9 fb i3))):=
 ⟨have ha:=ha.h;
 have hb:=hb.h;
 EZ ((Oh hc).or (Yj hc hu)) (Tp.or ŭ) hm hv (rA ha (rA hb yK bS) he) hg (by decide) (by decide) he ao⟩
def Ws(hc:X.calm=true)(hu:X.A.units+64<Cz)(hm:X.mg "min" = none)(ha:ZE X a fa)(hb:ZE X b fb)(hg:Gl X "min":=by rfl)(hv:B7 "min" = some (.builtin "min"):=by decide +kernel)(he:A9 [a,b] X.env=(false,Bz a X.env)::A9 [b] X.env:=by exact u7 rfl)(bS:A9 [b] X.env=(false,Bz b X.env)::A9 [] X.env:=by exact u7 rfl)(ao:(Bu pos (A9 [b] X.env)).any (·.1)=false:=by exact J9 rfl):ZE X (.Call (.Name "min" p) [a,b] [] pos) (x8 MO (z9 fa (z9 fb i3))):=
 ⟨have ha:=ha.h;
 have hb:=hb.h;
 EZ ((Oj hc).or (Ym hc hu)) (Tq.or Ů) hm hv (rA ha (rA hb yK bS) he) hg (by decide) (by decide) he ao⟩
def R9(K:A5)(nm:Bool):List V->Hp->VK->Prop:=λxs H Q=>∃a n ns,xs=[.ref a]/\jE K H a ((n::ns).map V.int)/\∀m,m∈(n::ns)->(∀x∈(n::ns),if nm=true then x<=m else m<=x)->Q (.int m) H
def WI(hc:X.calm=true):lN X (.builtin "max") (R9 X.K true):=by
 intro aa s U H xs us Q I r h;obtain⟨a,n,ns,rfl,ha,q⟩:=h;obtain⟨u,rfl,ru⟩:=nH r;cases ru;obtain⟨its,r1,p1,_⟩:=I.list ha;have i1:C2 its (n::ns):=W1 r1;obtain⟨zs,e⟩:=i1.allInts.items
 have br:(n::ns)=zs.toList.map (·.1):=by rw[<-i1.numsOf,<-nums_intItems,<-e]
 have hsz:0<zs.size:=by
  have:=congrArg Fz br
  rw[A0,B1]at this;simp at this;omega
 have hl:=p1.isList;rw[e]at hl;refine max_intList (I.ok.hd hc) hl hsz λv h' tk hv hk=>?_;obtain⟨t,rfl⟩:=intItems_at hv;obtain⟨h1,h2⟩:=argBest_gt (numAt zs) (zs.size-1);refine⟨.int _,H,I.kept hk,⟨t,rfl⟩,q _ ?_ λx hx=>?_⟩
 .rw[br,Mz];exact getD_mem (by rw[A0,B1];omega)
 .rw[br]at hx;obtain⟨j,hj,rfl⟩:=mem_getD hx;rw[A0,B1]at hj;rw[if_pos rfl,<-Mz];exact h2 j (by omega)
def WJ(hc:X.calm=true):lN X (.builtin "min") (R9 X.K false):=by
 intro aa s U H xs us Q I r h;obtain⟨a,n,ns,rfl,ha,q⟩:=h;obtain⟨u,rfl,ru⟩:=nH r;cases ru;obtain⟨its,r1,p1,_⟩:=I.list ha;have i1:C2 its (n::ns):=W1 r1;obtain⟨zs,e⟩:=i1.allInts.items
 have br:(n::ns)=zs.toList.map (·.1):=by rw[<-i1.numsOf,<-nums_intItems,<-e]
 have hsz:0<zs.size:=by
  have:=congrArg Fz br
  rw[A0,B1]at this;simp at this;omega
 have hl:=p1.isList;rw[e]at hl;refine min_intList (I.ok.hd hc) hl hsz λv h' tk hv hk=>?_;obtain⟨t,rfl⟩:=intItems_at hv;obtain⟨h1,h2⟩:=argBest_lt (numAt zs) (zs.size-1);refine⟨.int _,H,I.kept hk,⟨t,rfl⟩,q _ ?_ λx hx=>?_⟩
 .rw[br,Mz];exact getD_mem (by rw[A0,B1];omega)
 .rw[br]at hx;obtain⟨j,hj,rfl⟩:=mem_getD hx;rw[A0,B1]at hj;rw[if_neg B0,<-Mz];exact h2 j (by omega)
end
def VD(l:Aw)(items:Array Ac)(n:Nat)(dd:Option Aw)(sl:Array (Option Ac))(x:Ac)(e:Ac->Bool)(j:Nat)(hj:j<items.size)(bV:e items[j]=true)(bL:∀m (hm:m<items.size),m<j->e items[m]=false):
  Mu (D0.«tuple.index» ⟨[.ref l,x],[]⟩)
   (λA R s=>s.heap.get? l=some { cls:=.type "tuple",dict:=dd,data:=.seq items n,slots:=sl }/\(∀y,y∈items->Fo A.in1 s y x (e y))/\R (.ok (.ret (.int j s.toks))) { s with toks:=s.toks+1 }):=
 .of_wp λprog w A R s h=>by
  obtain⟨hp,g,d,tk,os⟩:=s;obtain⟨hl,he,h⟩:=h
  wp_walk using Fh hl
  change Ar _ _ (forIn [:Ew items.size items.size] (none,()) (λ(i:Nat) __s=>match items[i]? with
    |some y=>do
     let __do_lift <-eqBool y x
     if __do_lift=true then do
       let __do_lift <-retInt (i:Int)
       Cj (ForInStep.done (some __do_lift,()))
      else Cj (Eg (none,()))
    |x=>Cj (Eg (none,())))) _ _ _
  rw[Std.Legacy.Range.forIn_eq_forIn_range'];refine Kr _ (λrest b s'=>s'=⟨hp,g,d,tk,os⟩/\∃i,i<=j/\rest=List.range' i (items.size-i)) _ ?turn ?fin _ _ ⟨rfl,0,Bh _,by simp[Std.Legacy.Range.size]⟩
  case turn=>
   rintro i0 rest b s' ⟨rfl,i,bB,hr⟩
   have ah:i<items.size:=by omega
   have e0:items.size-i=(items.size-(i+1))+1:=by omega
   rw[e0,List.range'_succ]at hr;cases hr;rw[Array.getElem?_eq_getElem ah];refine A4 (he _ (Array.getElem_mem ah) prog w _ _ ?_);by_cases cy:i0=j
   .subst cy;rw[bV]
    wp_walk
    exact⟨_,rfl,h⟩
   .rw[bL i0 ah (by omega)]
    wp_walk
    exact⟨rfl,i0+1,by omega,rfl⟩
  case fin=>
   rintro ⟨b1,b2⟩ s' ⟨rfl,i,bB,hr⟩
   have:=congrArg Fz hr
   simp at this;omega
def zB(d:D)(ds:List D):Option Nat:=ds.findIdx? λy=>kC y d
def Zv(K:A5):V->List V->Hp->VK->Prop:=λx vs H Q=>∃a xs ds d y j,x = .ref a/\vs=[y]/\jF K H a xs/\J3 K H ds xs/\i5 K H d y/\Z8 ds<=jK/\depth d<=jK/\zB d ds=some j/\Q (.int (j:Nat)) H
section
variable{X:Cx}{a b:Expr}{fa fb:ED}{p pos cj:Gm}
def Xm(hu:X.A.units+64<Cz):xH X "tuple.index" (Zv X.K):=by
 intro aa s U H x vs v us Q I rx rv h;obtain⟨a,xs,ds,d,y,j,rfl,rfl,hq,hr,hd,h1,h2,hj,q⟩:=h;cases rx;obtain⟨u,rfl,ru⟩:=nH rv;obtain⟨its,r1,p1,_⟩:=I.tuple hq;obtain⟨⟨cls,dd,data,sl⟩,ho,hc,n,hdt⟩:=id p1;simp only at hc hdt;subst hc hdt;have l1:=hr.length;have l2:=r1.length;unfold zB at hj;rw[List.findIdx?_eq_some_iff_getElem]at hj;obtain⟨ah,hjt,cW⟩:=hj
 have iF:j<its.toArray.size:=by rw[Ag];omega
 have dG:∀m (hm:m<its.toArray.size),nE ds its d its.toArray[m]=kC (ds[m]'(by rw[Ag]at hm;omega)) d:=λm hm=>by
  have hm':m<its.length:=by rw[Ag]at hm;exact hm
  have e1:its[m]?=some its.toArray[m]:=by rw[A3 hm'];simp
  exact FM I hr r1 e1 (A3 (by omega))
 refine Hs F.slot_tuple_index ⟨_,ho,rfl⟩ F.entry_tuple_index (F.args_tuple_index_2 _ _) (VD a its.toArray n dd sl u (nE ds its d) j iF ?_ ?_) ⟨ho,?_,?_⟩
 .rw[dG j iF];exact hjt
 .intro m hm hmj;rw[dG m hm];exact Ka.mpr (cW m hmj)
 .exact BC I hu hr r1 h1 h2 hd ru
 .exact⟨.int _,H,I.tok _,⟨_,rfl⟩,q⟩
def wO(fa fb:ED):ED:=λY=>match fa Y with
 |some (.tup ds)=>(match fb Y with|some d=>if Z8 ds<=jK/\depth d<=jK then (match zB d ds with|some j=>some (.int (j:Nat))|none=>none) else none|none=>none)
 |_=>none
def OY(hu:X.A.units+64<Cz)(ha:ZE X a fa)(hb:ZE X b fb)(au:Dv a "index" X.env (Bz a X.env)=Bz a X.env:=by rfl) (aS:((Bu pos (A9 [b] X.env)).all (λx=>!x.1)&&(Iz pos (G4 [] X.env)).all (λx=>x.1.isSome)
   && decide (([b]:List Expr).length+([]:List F9).length+(if ([]:List F9).isEmpty then 0 else 1)<30))=true:=by rfl) (ar:(cj.endLine==pos.line)=true:=by rfl) (hs:A9 [b] X.env=(false,Bz b X.env)::A9 [] X.env:=by exact u7 rfl) (ap:(Bu pos (A9 [] X.env)).any (·.1)=false:=by exact J9 rfl):ZE X (.Call (.Attribute a "index" cj) [b] [] pos) (wO fa fb):=
 ⟨have ha:=ha.h;
 have hb:=hb.h;
 u9 (uT PySem.F.plainAttrs_tuple PySem.F.slot_tuple_index PySem.F.type_tuple_index (Xm hu) ha (J7 hb W6 hs) au aS ar hs ap) λU H Q h_=>by
  refine i7 h_ λY d B H0 V0 Z e r q=>?_;unfold wO at e;split at e
  .rename_i ds ea;split at e
   .rename_i d' eb;split at e
    .rename_i hz;split at e
     .rename_i j hj;cases e;refine⟨Y,_,B,H0,V0,Z,ea,r,λx H1 s1 r1=>?_⟩;obtain⟨n,xs,rfl,h1,h2⟩:=j3.mp r1;refine⟨.inr (.inl ⟨rfl,xs,j6 w9 h1⟩),Y,d',B,H0,V0,Z,eb,r.mono s1,λy H2 s2 r2=>?_⟩;exact⟨n,xs,ds,d',y,j,rfl,rfl,j6 (w9.trans s2) h1,h2.mono (w9.trans s2),r2.mono w9,hz.1,hz.2,hj,q _ H2 (s1.trans s2) (v8.mpr rfl)⟩
     .cases e
    .cases e
   .cases e
  .cases e⟩
def tW:Int->List Int->Int
 |n,[]=>n
 |n,m::r=>tW (Ew n m) r
def uR:Int->List Int->Int
 |n,[]=>n
 |n,m::r=>uR (Lh n m) r
theorem KR:∀(ns:List Int) (n:Int),tW n ns∈n::ns/\∀x∈n::ns,tW n ns<=x
 | [],n=>by simp[tW]
 |m::r,n=>by
  obtain⟨h1,h2⟩:=KR r (Ew n m);show tW (Ew n m) r∈_/\∀x∈_,tW (Ew n m) r<=x;have hm:=h2 (Ew n m) A6;constructor
  .rcases Ad.mp h1 with z|z
   .rw[z];rcases L5 n m with q|q
    .rw[Gd q];exact A6
    .rw[Fs q];exact A7 _ A6
   .exact A7 _ (A7 _ z)
  .intro x hx;rcases Ad.mp hx with z|z
   .omega
   .rcases Ad.mp z with z|z
    .omega
    .exact h2 x (A7 _ z)
theorem Rj:∀(ns:List Int) (n:Int),uR n ns∈n::ns/\∀x∈n::ns,x<=uR n ns
 | [],n=>by simp[uR]
 |m::r,n=>by
  obtain⟨h1,h2⟩:=Rj r (Lh n m);show uR (Lh n m) r∈_/\∀x∈_,x<=uR (Lh n m) r;have hm:=h2 (Lh n m) A6;constructor
  .rcases Ad.mp h1 with z|z
   .rw[z];rcases L5 n m with q|q
    .rw[Ft q];exact A7 _ A6
    .rw[Ge q];exact A6
   .exact A7 _ (A7 _ z)
  .intro x hx;rcases Ad.mp hx with z|z
   .omega
   .rcases Ad.mp z with z|z
    .omega
    .exact h2 x (A7 _ z)
def pH(f:EL):ED:=λY=>match f Y with|some ds=>(match lE ds with|some (n::ns)=>some (.int (tW n ns))|_=>none)|none=>none
def wE(f:EL):ED:=λY=>match f Y with|some ds=>(match lE ds with|some (n::ns)=>some (.int (uR n ns))|_=>none)|none=>none
def FB(hc:X.calm=true)(hm:X.mg "min" = none)(h:xD X a f)(hg:Gl X "min":=by rfl)(hv:B7 "min" = some (.builtin "min"):=by decide +kernel)(he:A9 [a] X.env=(false,Bz a X.env)::A9 [] X.env:=by exact u7 rfl)(ao:(Bu pos (A9 [] X.env)).any (·.1)=false:=by exact J9 rfl):ZE X (.Call (.Name "min" p) [a] [] pos) (pH f):=
 ⟨have h:=h.h;
 u9 (uD (WJ hc) hg hm hv (J7 h W6 he) (by decide) (by decide) he ao) λU H Q h_=>by
  refine i7 h_ λY d B H0 V0 Z e r q=>?_;unfold pH at e;split at e
  .rename_i ds aH;split at e
   .rename_i n ns hn;cases e;refine⟨Y,ds,B,H0,V0,Z,aH,r,λl xs H' s hq rr=>⟨l,n,ns,rfl,?_,λm hm hb=>?_⟩⟩
    .rw[Z7 hn,Y6]at rr;rw[<-rr];exact hq
    .obtain⟨h1,h2⟩:=KR ns n;have e1:=hb _ h1;have e2:=h2 _ hm;rw[if_neg B0]at e1
     have:m=tW n ns:=by omega
     rw[this];exact q _ H' s (v8.mpr rfl)
   .cases e
  .cases e⟩
def RK(hc:X.calm=true)(hm:X.mg "max" = none)(h:xD X a f)(hg:Gl X "max":=by rfl)(hv:B7 "max" = some (.builtin "max"):=by decide +kernel)(he:A9 [a] X.env=(false,Bz a X.env)::A9 [] X.env:=by exact u7 rfl)(ao:(Bu pos (A9 [] X.env)).any (·.1)=false:=by exact J9 rfl):ZE X (.Call (.Name "max" p) [a] [] pos) (wE f):=
 ⟨have h:=h.h;
 u9 (uD (WI hc) hg hm hv (J7 h W6 he) (by decide) (by decide) he ao) λU H Q h_=>by
  refine i7 h_ λY d B H0 V0 Z e r q=>?_;unfold wE at e;split at e
  .rename_i ds aH;split at e
   .rename_i n ns hn;cases e;refine⟨Y,ds,B,H0,V0,Z,aH,r,λl xs H' s hq rr=>⟨l,n,ns,rfl,?_,λm hm hb=>?_⟩⟩
    .rw[Z7 hn,Y6]at rr;rw[<-rr];exact hq
    .obtain⟨h1,h2⟩:=Rj ns n;have e1:=hb _ h1;have e2:=h2 _ hm;rw[if_pos rfl]at e1
     have:m=uR n ns:=by omega
     rw[this];exact q _ H' s (v8.mpr rfl)
   .cases e
  .cases e⟩
def yQ(f:EL):EB:=λY=>match f Y with|some ds=>some (!ds.isEmpty)|none=>none
def RM(h:xD X a f)(he:∀aL,isTrue a X.env aL=(do let v <-aL;Jx a.pos;Gx [v] (Mm v)):=by intro _;rfl):ZT X a (yQ f):=
 ⟨have h:=h.h;
 p8 (ï h he) λU H Q h_=>by
  refine i7 h_ λY d B H0 V0 Z e r q=>?_;unfold yQ at e;split at e
  .rename_i ds aH;cases e;refine⟨Y,ds,B,H0,V0,Z,aH,r,λl xs H' s hq rr=>?_⟩;refine⟨!xs.isEmpty,.inl ⟨xs,hq,rfl⟩,?_⟩;have hl:=rr.length
   have:ds.isEmpty=xs.isEmpty:=by cases ds<;>cases xs<;>first|rfl|cases hl
   rw[<-this];exact q H' s
  .cases e⟩
end
end L3
namespace L3
open PySem PySem.Spec PyProof.Rows L2 PySem.SeqAt PySem.W
end L3
namespace L3
open PySem PySem.Spec PyProof.Rows L2 PySem.SeqAt
def MY(K:A5)(w:Cg)(a:Aw)(kvs:List (Bg×Bg)):Prop:=∃es n,K.lookup a=some ⟨.type "dict",none,.dict es n,#[]⟩/\PySem.W.KeysLit w.params es.toList/\∀kv∈kvs,∃t,Ig K a kv.1=some (some (.str kv.2 t))
def MI(kvs:List (Bg×Bg))(f:ED):ED:=λY=>match f Y with
 |some (.str x)=>(match kvs.lookup x with|some y=>some (.str y)|none=>none)
 |_=>none
theorem Pd{x y:Bg}:∀{kvs:List (Bg×Bg)},kvs.lookup x=some y->(x,y)∈kvs
 | [],h=>by cases h
 | (a,b)::r,h=>by
  rw[Bi]at h;split at h
  .rename_i e;cases h;rw[Lr e];exact A6
  .exact A7 _ (Pd h)
section
variable{X:Cx}{i:Expr}{p pos:Gm}{f:ED}
def Wq(hm:X.mg x=some (.ref a))(ht:MY X.K X.w a kvs)(hi:ZE X i f)(hg:Gl X x:=by rfl)(hd:(x==("__debug__":Bg))=false:=by decide)(hs:BU i:=by exact λ_ _=>rfl):ZE X (.Subscript (.Name x p) i pos) (MI kvs f):=
 ⟨have hi:=hi.h;
 λaa s U H Q I h_=>by
 refine i7 h_ λY d B H0 V0 Z e r q=>?_;unfold MI at e;split at e
 .rename_i k hk;split at e
  .rename_i y hy;cases e;obtain⟨es,n,hl,cb,hv⟩:=ht;obtain⟨t,ht⟩:=hv _ (Pd hy);have h0:tC (.ref a) U H (λx H1=>x=V.ref a/\H1=H):=⟨rfl,rfl⟩;refine QC PySem.F.slot_dict_getitem.lookup hs (jG (Ş (pos:=p) hg hm (v:=.ref a) rfl hd aa s U H _ I h0) λu s1 x' H1 I1 rx ⟨ex,eH⟩=>?_);subst ex eH
   obtain rfl:u=Eb a:=rx
   refine jG (hi aa s1 U H1 (λv H'=>J0 H1 H'/\v=V.str k) I1 ⟨Y,_,B,H0,V0,Z,hk,r,λv H' sm rv=>⟨sm,l5.mp rv⟩⟩) λiv s2 y' H2 I2 ry ⟨sm,ey⟩=>?_;subst ey;obtain⟨tk,rfl⟩:=ry;have hm:=PySem.W.mapOf_K (prog:=X.prog) (w:=X.w) I2.kIn hl cb;refine⟨hm.typeIs,wpAny_getItem_of (strKind_is X.prog X.w k tk) hm (PySem.W.find_K hl ht) ⟨.str y,H2,I2.tok _,⟨t,rfl⟩,q _ _ sm (l5.mpr rfl)⟩⟩
  .cases e
 .cases e⟩
end
end L3
namespace L3
open PySem PySem.Spec PyProof.Rows L2
section
variable{X:Cx}
def Qw{i:Nat}{y:Bg}{py aX:Gm}{cap:List (Option Nat)}(hc:X.calm=true)(hi:PI X ae af wi)(hg:∀cl C fp s H,PG (Q7 X N scope cl C fp s H) ae g)(ht:∀cl C fp s H,sV (Q7 X N scope cl C fp s H) ba tt)(he:∀cl C fp s H,PE (Q7 X N scope cl C fp s H) aT te)(hk:scope.kind = .function)(aA:∀y∈scope.names,y.2 = .cell->scope.names.lookup y.1=some .cell)(aW:∀x∈scope.names,x.2 = .local->scope.names.lookup x.1=some .local)(bC:∀x∈scope.names,x.2 = .free->scope.names.lookup x.1=some .free)(cp:∀x∈scope.names,x.2 = .free->X.env.scope.names.lookup x.1=some .cell\/X.env.scope.names.lookup x.1=some .free)(bd:∀(i j:Nat),cap[i]?=some (some j)->∃x,N[i]?=some x/\X.N[j]?=some x/\scope.names.lookup x=some .free)(ab:cap.length=N.length)(hN:X.N.Nodup)(dU:X.N[i]?=some y)(hy:nG X.env.scope y)(hf:X.fn y=true\/X.env.scope.names.lookup y=some .local)(bN:Dz (.ListComp aT [⟨ae,af,ba,0⟩] scope pos) (some (.Name y py)) aX.line X.env=Cj true)(hs:∀x,C3 af X.env x=Cj x:=by intro _;rfl):
  PS X (.Assign [.Name y py] (.ListComp aT [⟨ae,af,ba,0⟩] scope pos) aX) (GB (yV cap wi g tt te) (oT i)):=by
 intro aa s U H D I h;rw[exec_Assign_Name_used _ _ _ _ bN];refine A4 (Gf (A4 ?_));show Ar _ X.A (do let _ <-comprehension (.ListComp aT [⟨ae,af,ba,0⟩] scope pos) scope X.env _ (Mj []) false (Bz af X.env) (some (Li (.Name y py) X.env))) _ _ s;refine A4 (Cc (Oo (use:=some (Li (.Name y py) X.env)) (Qf:=λ_ s'=>SP X aa D .next s') hc hi hg ht he hk aA aW bC cp bd ab hs I h λ{s3 s6 H3 H5 U5 cs fp l r} I3 I6 fO q=>?_) (λ_ s' hq=>wpAny_pure (wpAny_pure hq)) λ_ _ e=>e)
 obtain⟨m6,hn6,_⟩:=I6.loc
 have IX:d4 X aa U H5 s6:=by
  refine I3.call' (s':=s6) (ch:=fp) I6.os ?_ (λb u e=>I6.hok b u e) I6.bare (λb hb=>?_)
  .have u6:Un (oO X.stack) fp H3 H5 s3.heap s6.heap:=I6.base;exact u6
  .obtain⟨_,f1,_,f3,f5,f6⟩:=fO b hb;exact⟨f3,f1,f5,f6⟩
 have ltL:X.env.locals<s3.heap.objs.size:=by obtain⟨m3,hn3,_⟩:=I3.loc;obtain⟨o,_,_,ho,_⟩:=hn3;exact Ao ho
 have ic:∀x c,X.env.cells.lookup x=some c->c<s3.heap.objs.size:=λx c e=>by obtain⟨v,o,ho,_⟩:=I3.cell x c e;exact Ao ho
 show Ar _ X.A (Li (.Name y py) X.env (.ref l)) _ _ s6;refine wpAny_assign_Name (OQ IX hN dU hy (v:=.ref l) rfl (λs7 I7 hsb7=>?_) hf);obtain⟨a7,sb7,ha7⟩:=hsb7
 have neA:s3.heap.objs.size≠a7:=by
  rcases ha7 with rfl|ha7
  .exact Cw (At ltL)
  .exact Cw (At (ic _ _ ha7))
 refine⟨m6,hn6.sameBut sb7 neA,λh' sb=>?_⟩
 have dX:∀b u,H5 b=some u->b≠s3.heap.objs.size:=λb u e z=>by
  subst z
  have:=I6.free
  rw[show H5 s3.heap.objs.size=none from this]at e;cases e
 refine⟨_,H5,?_,q⟩;refine I7.call' (s':={ s7 with heap:=h' }) (ch:=[s3.heap.objs.size]) rfl ?_ (λb u e=>?_) I7.bare (λb hb=>?_)
 .have ex:∀b,b∉[s3.heap.objs.size]->∀o,s7.heap.get? b=some o->h'.get? b=some o:=λb hb o e=>(sb.2 b λz=>hb (by rw[z];exact Ae.mpr rfl)).trans e
  exact⟨λb o e n hb hx=>ex b hx o e,λb o e n hb hx=>⟨o.slots,ex b hx o e⟩,λb o e n hx=>n,λb o e hx=>⟨o,ex b hx o e⟩,λ_ _ e=>e,λ_ _ _ e=>e,λb ps e=>⟨#[],by simpa using e⟩⟩
 .refine(I7.hok b u e).stay (λc v be q'=>(sb.2 c ?_).trans q') (λ_ q'=>q') (λ_ _ q'=>q') λ_ _ _ q'=>q';rcases be with rfl|be
  .exact dX _ _ e
  .exact dX _ _ be
 .obtain rfl:=Ae.mp hb
  refine⟨.inr ?_,Cw (At ltL),λx c e=>At (ic x c e),λp hp=>?_⟩
  .exact I3.sz
  .exact At (Ao (I3.pin p hp).1)
def Wk{i:Nat}{y:Bg}{py aX pos:Gm}(N:List Bg)(cap:List (Option Nat))(hc:X.calm=true)(hi:Np X ae af fi)(hg:∀cl C fp s H,SG (Q7 X N scope cl C fp s H) ae h)(ht:∀cl C fp s H,sV (Q7 X N scope cl C fp s H) ba (tT X.K ft))(he:∀cl C fp s H,SE (Q7 X N scope cl C fp s H) aT fe)(hN:X.N.Nodup)(dU:X.N[i]?=some y)(hy:nG X.env.scope y)(hf:X.fn y=true\/X.env.scope.names.lookup y=some .local)(bN:Dz (.ListComp aT [⟨ae,af,ba,0⟩] scope pos) (some (.Name y py)) aX.line X.env=Cj true)(hok:pZ scope X.env.scope N cap X.N=true)(hs:∀x,C3 af X.env x=Cj x)(himp:∀E U H,tS X.K go E U H->tF X.K (Y2 cap fi h ft fe) U H (λv H1=>E.nx (U.set i (some v)) H1)):
  SS X (.Assign [.Name y py] (.ListComp aT [⟨ae,af,ba,0⟩] scope pos) aX) go:=by
 have c:=yN hok
 exact nJ (Qw (N:=N) (cap:=cap) (wi:=Nh X.K fi) (g:=tG X.K h) (tt:=tT X.K ft) (te:=tD X.K fe) hc hi hg ht he c.kind c.cell c.loc c.fre c.out c.sel c.len hN dU hy hf bN hs)
  λE U H z=>QR (X:=X) c.inj U H _ (himp E U H z)
def uM{i:Nat}{y:Bg}{py aX pos:Gm}(N:List Bg)(cap:List (Option Nat))(hc:X.calm=true)(hi:GQ X ae af fi)(hg:N.Nodup->∀cl C fp s H,ZG (Q7 X N scope cl C fp s H) ae h)(ht:∀cl C fp s H,ZP (Q7 X N scope cl C fp s H) ba ft)(he:∀cl C fp s H,ZE (Q7 X N scope cl C fp s H) aT fe)(hN:X.N.Nodup)(dU:X.N[i]?=some y:=by rfl)(hy:nG X.env.scope y:=by first|exact Dg rfl|exact Cp rfl)(hf:X.fn y=true\/X.env.scope.names.lookup y=some .local:=by first|exact .inl rfl|exact .inr rfl)(bN:Dz (.ListComp aT [⟨ae,af,ba,0⟩] scope pos) (some (.Name y py)) aX.line X.env=Cj true:=by rfl)(hok:pZ scope X.env.scope N cap X.N=true:=by rfl)(hs:∀x,C3 af X.env x=Cj x:=by intro _;rfl)(nd:N.Nodup:=by decide +kernel):ZS X (.Assign [.Name y py] (.ListComp aT [⟨ae,af,ba,0⟩] scope pos) aX) (i8 i (kX (Y2 cap fi h ft fe))):=
 ⟨have hg:=hg nd;
 have hi:=hi.h;
 have hg:=λcl C fp s H=>(hg cl C fp s H).h;
 have ht:=λcl C fp s H=>(ht cl C fp s H).h;
 have he:=λcl C fp s H=>(he cl C fp s H).h;
 Wk N cap hc hi hg ht he hN dU hy hf bN hok hs λE U H h_=>by
  refine i7 h_ λY o B H0 V0 Z e r q=>?_;unfold i8 at e;split at e
  .rename_i d ed;cases e;unfold kX at ed;obtain⟨ds,he,rfl⟩:=Bj.mp ed;refine⟨Y,ds,B,H0,V0,Z,he,r,λa xs H' s hn ha hr=>q _ H' Z ((r.mono s).set (K3.mpr ⟨a,xs,rfl,jE.of ?_,hr.mono (rG λb hb=>A7 _ hb)⟩))⟩;rw[Q6 (r.newer hn)];exact ha
  .cases e⟩
end
end L3
namespace HT
open PySem PyProof.Rows
section
variable{prog:By}{w:Cg}{A:C6}{E:VP}{s:Am}
def getItem_tuple_all{t sl:Aw}{items:Array Ac}{vl vu:Ac}{lo hi:Option Int}{Q:VP}(ht:Kq s.heap t items)(hs:s.heap.IsSliceOf sl vl vu .none)(pl:Jt vl lo)(pu:Jt vu hi)(hw:sIx items.size 0 lo=0/\sIx items.size items.size hi=items.size)(h:Q (.ref t) s)(hsz:items.size<=sizeLine):Ar (B2 prog w) A (If (.ref t) (.ref sl)) Q E s:=by
 have hj:sIx items.size items.size hi<=items.size:=Tt _ _ (Ak _) hi;obtain⟨os,cL,cS,cV⟩:=id hs;have iJ:s.TypeIs (.ref sl) "slice":=⟨os,cL,cS⟩;unfold If
 try with_reducible refine Cu ?_
 first|refine A4 (wpAny_pure ?_)|skip
 refine A4 (Jz ht.typeIs (by decide) ?_)
 refine A4 (Ec (name:=Bk "__getitem__") ht.typeIs Bt
  (Fn Bt ht.typeIs Jk ?_ (Ju _ _)))
 show Ar _ _ (Gr (.ref t) >>= _) _ _ s;refine A4 (M0 ht ?_);refine A4 (Jn iJ ?_);rw[if_pos (by decide)];refine A4 (N3 hs pl pu ?_)
 have hyes:(((sIx items.size 0 lo:Nat):Int)==0&&(1:Int)==1&&(sIx items.size items.size hi-sIx items.size 0 lo)==items.size)=true:=by rw[hw.1,hw.2];simp
 show Ar _ _ (if (((sIx items.size 0 lo:Nat):Int)==0&&(1:Int)==1&&(sIx items.size items.size hi-sIx items.size 0 lo)==items.size)=true then _ else _) _ _ s;rw[if_pos hyes];refine A4 ?_;unfold D0.Tuple.tupleIsExact;refine A4 (Jn ht.typeIs (wpAny_pure ?_));rw[if_pos (by decide)]
 first
  |exact A4 (Hu (wpAny_pure ⟨_,rfl,wpAny_pure h⟩))
  |exact Hu (wpAny_pure ⟨_,rfl,wpAny_pure h⟩)
  |exact A4 (Hu (A4 (wpAny_pure (wpAny_pure ⟨_,rfl,wpAny_pure h⟩))))
end
end HT
namespace L3
open PySem PySem.Spec PyProof.Rows L2 PySem.SeqAt
section
variable{X:Cx}{a:Expr}{fa:ED}{pos:Gm}
def ώ(K:A5):V->Option Int->Option Int->Hp->VK->Prop:=λx lo hi H Q=>∃a xs,x = .ref a/\jF K H a xs /\
 (HT.sIx xs.length 0 lo=0/\HT.sIx xs.length xs.length hi=xs.length)/\Q (.ref a) H
def Ĵ:vF X (ώ X.K):=by
 intro aa s U H x v vl vu lo hi sl Q I rx hs pl pu h;obtain⟨a,xs,rfl,hx,hw,q⟩:=h;cases rx;obtain⟨its,r,ht,hz⟩:=I.tuple hx
 have ab:its.toArray.size=xs.length:=by rw[Ag];exact r.length.symm
 refine⟨"tuple",_,Bt.lookup,ht.typeIs,?_⟩;exact HT.getItem_tuple_all ht hs pl pu (by rw[ab];exact hw) ⟨.ref a,H,I,rfl,q⟩ (by rw[ab];exact hz)
def nT(f:ED)(fl fh:J5->Option (Option Int)):ED:=λY=>match f Y with
 |some (.tup ds)=>(match fl Y with|some lo=>(match fh Y with|some hi=>if HT.sIx ds.length 0 lo=0/\HT.sIx ds.length ds.length hi=ds.length then some (.tup ds) else none|none=>none)|none=>none)
 |_=>none
def ı{lo hi:Option Expr}{p2:Gm}{fl fh:J5->Option (Option Int)}(he:SE X a fa)(hl:SO X lo fl)(hh:SO X hi fh):SE X (.Subscript a (.Slice lo hi none p2) pos) (nT fa fl fh):=
 u9 (Rq Ĵ he hl hh) λU H Q h_=>by
  refine i7 h_ λY d B H0 V0 Z e r q=>?_;unfold nT at e;split at e
  .rename_i ds ex;split at e
   .rename_i l el;split at e
    .rename_i h eh;split at e
     .rename_i hw;cases e;refine⟨Y,_,B,H0,V0,Z,ex,r,λu H1 s1 r1=>⟨Y,l,B,H0,V0,Z,el,r.mono s1,λH2 s2=>⟨Y,h,B,H0,V0,Z,eh,(r.mono s1).mono s2,λH3 s3=>?_⟩⟩⟩;have rx:=r1.mono (w6 (s2.trans s3));obtain⟨p,xs,rfl,h1,h2⟩:=j3.mp rx;exact⟨p,xs,rfl,j6 w9 h1,by rw[<-h2.length];exact hw,q _ H3 (s1.trans (s2.trans s3)) rx⟩
     .cases e
    .cases e
   .cases e
  .cases e
def xR{lo hi:Option Expr}{p2:Gm}{fl fh:J5->Option (Option Int)}(he:ZE X a fa)(hl:ZO X lo fl)(hh:ZO X hi fh):ZE X (.Subscript a (.Slice lo hi none p2) pos) (kZ (l8 fa fl fh) (nT fa fl fh)):=
 ⟨have he:=he.h;
 have hl:=hl.h;
 have hh:=hh.h;
 Tu (Sf he hl hh) (ı he hl hh)⟩
end
end L3
namespace L3
open PySem PySem.Spec PyProof.Rows L2
def qH(K:A5)(cd:Ac)(x:Bg):Bool:=match cd with
 | .ref c=>(match K.lookup c with
  |some ⟨.type "code",_,.fields vs,_⟩=>(match (vs[11]?:Option Ac) with|some (.ref P)=>Iu K c P&&(K.lookup P).isNone|_=>false)&&(match (vs[1]?:Option Ac) with|some (.str q _)=>q==x&&Ra.contains q|_=>false)
  |_=>false)
 |_=>false
def Yy{K:A5}{cd:Ac}{x:Bg}(h:qH K cd x=true):∃c o vs P t,cd = .ref c/\K.lookup c=some o/\o.cls = .type "code"/\o.data = .fields vs/\vs[11]?=some (.ref P)/\vs[1]?=some (.str x t) /\
  Iu K c P=true/\K.lookup P=none/\BB vs=true:=by
 unfold qH at h;split at h
 .rename_i c;split at h
  .rename_i od vs dN hk;rw[Be]at h;obtain⟨h1,h2⟩:=h;split at h1
   .rename_i P hP;rw[Be]at h1;split at h2
    .rename_i q t hq;rw[Be]at h2
     have e:q=x:=by simpa using h2.1
     subst e;exact⟨c,_,vs,P,t,rfl,hk,rfl,rfl,hP,hq,h1.1,by simpa using h1.2,by unfold BB;rw[hq];exact h2.2⟩
    .cases h2
   .cases h1
  .cases h
 .cases h
structure pG(K:A5)(mg:Bg->Option Ac):Prop where
 ex:True
theorem Yd{c v:Ac}(l:List Ac)(h:TriplesOk l)(e:Jq p (l++[rawInt a,rawInt b,c])=some v):Jq p l=some v\/v=c:=by
 fun_induction TriplesOk l with
 |case1=>
  simp only[Le,Jq,rawInt]at e;split at e
  .exact .inr (Bb e).symm
  .cases e
 |case2 i t j u y r ih=>
  simp only[List.cons_append,Jq]at e ⊢;split at e
  .rename_i hc;rw[if_pos hc];exact .inl e
  .rename_i hc;rw[if_neg hc];exact ih h e
 |case3 l h1 h2=>exact h.elim
abbrev AM(qual:Bg)(params:Lt)(body:Expr)(scope:Scope)(cl:List (Bg×Aw))(aB pm:Ac)(c:Aw)(ct:Ac):Jp:=PySem.W.kdv_obj "<lambda>" qual params (.expr body) scope cl .none aB pm c ct
section
variable{X:Cx}{aa:jA}{U:St}{H:Hp}{s:Am}
def d4.pin1{f:Aw}{o:Jp}(I:d4 X aa U H s)(ho:s.heap.get? f=some o)(hn:H f=none)(hl:f≠X.env.locals)(hf:f∉X.fs)(hd:∀v,o.data≠.cell v):d4 X ((f,o)::aa) U H s:=
 I.pins_of λp hp=>by
  rcases Ad.mp hp with z|z
  .subst z;exact⟨ho,hn,hl,hf,hd⟩
  .exact I.pin p (Ab _ z)
theorem SY{A:C6}{E:VP}{params:Lt}{body:Expr}{scope:Scope}{pos:Gm}{cl:List (Bg×Aw)}{x:Bg}{Q:VP}(I:d4 X aa U H s)(tb:TB X.K H)(bm:pG X.K X.mg)(hl:qH X.K X.env.code x=true)(hq:X.env.qual=x++".<locals>.")(az:Mx scope X.env=Cj cl)(bT:L6 params X.env=([],[]))(h:∀f c oc vs t aB pm ct s' H',J0 H H'->d4 X ((f,AM (X.env.qual++"<lambda>") params body scope cl aB pm c ct)::aa) U H' s'->(∃u,H' c=some (.frz oc u))->oc.data = .fields vs->vs[1]?=some (.str (X.env.qual++"<lambda>") t)->Q (.ref f) s'):
  Ar (B2 X.prog X.w) A (Bz (.Lambda params body scope pos) X.env) Q E s:=by
 refine PySem.W.kla_eval bT ?_;rw[makeFunction_eq];simp only[Js,List.filterMap_nil,List.isEmpty_nil,if_true,pure_bind];obtain⟨c,o,vs,P,t0,hc,k1,k2,k3,k4,k5,k6,k7,k8⟩:=Yy hl;obtain⟨q,t,e1,hP⟩:=tb c o vs P k1 k2 k3 k4 k7 k8;rw[k5]at e1;cases e1;obtain⟨qs,hp,ht,jq⟩:=I.hok P _ hP;have CH:PySem.W.CodeHd s.heap c P:=PySem.W.codeHd_of_K I.kIn k6;have hg:s.heap.Ns Cy X.mg:=I.ok.mod.glob.keeps I.bk
 have hgP:Cy≠P:=λz=>by
  obtain⟨og,es,ep,e,_⟩:=I.ok.mod.glob
  have:=(I.bs _ _ e).2
  rw[z,hP]at this;cases this
 obtain⟨bm,ob,b1,b6,b2,b3,b4,b5⟩:=I.ok.mod.bm
 have b7:bm≠Cy:=λz=>by obtain⟨og,es,ep,e,hd,_⟩:=I.ok.mod.glob;rw[<-z,b2]at e;cases e;rw[b5]at hd;cases hd
 have hB:s.heap.BuiltinsAt X.mg P:=⟨bm,ob,b1,b6,b7,(λz=>by
  have:=(I.bs _ _ b2).2
  rw[z,hP]at this
  cases this),I.bk _ _ b2,b3,b4,b5⟩
 have tq:QD #[Lo x 0]=X.env.qual++"<lambda>":=by rw[hq];rfl
 cases hca:Jq pos qs.toList with
 |none=>
  refine PySem.W.kdv_makeTail az I.ok.glob hg hc CH hp ht hca hgP hB λc' ct aB h' tk hx gT ah hrec fK=>?_;obtain⟨c2,oc,ws,t2,e2,fV,hd,hv⟩:=hrec;cases e2;have hcn:H c'=none:=I.hok.fresh gT
  have cne:∀b u,H b=some u->b≠c':=λb u e z=>by rw[z,hcn]at e;cases e
  have sm:J0 H (upd H c' (.frz oc (.own P))):=j8 hcn;have hsz:s.heap.objs.size<=h'.objs.size:=B3 gT (De ah);generalize dE:PySem.W.kdv_obj "<lambda>" (X.env.qual++"<lambda>") params (.expr body) scope cl .none aB ((X.mg "__name__").getD .none) c' ct=fo
  have hok:lB X.prog X.w (upd H c' (.frz oc (.own P))) (h'.push fo):=λb u e=>by
   by_cases hb:b=c'
   .subst hb;rw[v4]at e;cases e;exact⟨A8 _ fV,oc,A8 _ fV⟩
   .rw[v9 hb]at e;by_cases hbP:b=P
    .subst hbP;rw[hP]at e;cases e;refine⟨qs++#[rawInt pos.line,rawInt pos.col,.ref c'],A8 _ fK,?_,λp v cx=>?_⟩
     .have:=TriplesOk_snoc pos.line pos.col (.ref c') qs.toList ht
      simpa using this
     .have fL:Jq p (qs.toList++[rawInt pos.line,rawInt pos.col,.ref c'])=some v:=by simpa using cx
      rcases Yd qs.toList ht fL with z|z
      .obtain⟨c3,oc3,vs3,t3,z1,z2,z3,z4⟩:=jq p v z;exact⟨c3,oc3,vs3,t3,z1,sm _ _ z2,z3,z4⟩
      .exact⟨c',oc,ws,t2,z,v4,hd,by rw[tq];exact hv⟩
    .refine(I.hok b u e).stay (λd v bn r=>A8 _ (hx d v ?_ r)) (λd r=>sm _ _ r) (λd ys r=>sm _ _ r) λd cz ys r=>sm _ _ r;rcases bn with z|z
     .rw[z];exact hbP
     .intro z2;rw[z2,hP]at z;cases z
  have un:Un X.fs [] H (upd H c' (.frz oc (.own P))) s.heap (h'.push fo):=by
   have kp:∀b cz,s.heap.get? b=some cz->H b=none->(h'.push fo).get? b=some cz:=λb cz e n=>A8 _ (hx b cz (λz=>by rw[z,hP]at n;cases n) e)
   refine⟨λb cz e n _ _=>kp b cz e n,λb cz e n _ _=>⟨cz.slots,kp b cz e n⟩,λb cz e n _=>?_,λb cz e _=>?_,λb ys e=>sm _ _ e,λb cz u e=>sm _ _ e,λb ps e=>⟨#[],by rw[sm _ _ e];simp⟩⟩
   .rw[v9]
    .exact n
    .intro z
     have:=Ao e
     rw[z]at this;exact absurd (Ba this gT) (Dk _)
   .by_cases hb:b=P
    .rw[hb];exact⟨_,A8 _ fK⟩
    .exact⟨cz,A8 _ (hx b cz hb e)⟩
  have I2:=I.un (h':=h'.push fo) (t':=tk) un hok;refine h h'.objs.size c' oc ws t2 aB ((X.mg "__name__").getD .none) ct _ _ sm ?_ ⟨_,v4⟩ hd hv;have hf:(h'.push fo).get? h'.objs.size=some fo:=Au _ (by rw[<-dE];rfl)
  rw[<-dE]at hf I2 ⊢;refine d4.pin1 I2 hf ?_ ?_ ?_ ?_
  .rw[v9 (D4 ah)];exact I.hok.fresh hsz
  .exact D4 (Ba I.lt hsz)
  .exact I.nofs hsz
  .intro v z;cases z
 |some v=>
  obtain⟨c',oc,ws,t2,rfl,z2,z3,z4⟩:=jq pos v hca;refine PySem.W.kdv_makeTailHit az I.ok.glob hg hc CH hp ht hca hB λct aB h' tk hx hsz=>?_;rw[tq]at z4;have I2:=I.kept (h':=h'.push (AM (X.env.qual++"<lambda>") params body scope cl aB ((X.mg "__name__").getD .none) c' ct)) (t':=tk) λb u e=>A8 _ (hx b u e);refine h h'.objs.size c' oc ws t2 aB ((X.mg "__name__").getD .none) ct _ H (J0.refl H) ?_ ⟨_,z2⟩ z3 z4
  refine d4.pin1 I2 (Au _ rfl) (I.hok.fresh hsz) (D4 (Ba I.lt hsz)) (I.nofs hsz) ?_;intro v z;cases z
end
abbrev pJ(X:Cx)(A:C6)(N:List Bg)(qual:Bg)(scope:Scope)(cl:List (Bg×Aw))(f:Aw)(cd:Ac)(s:Am)(H:Hp):Cx where
 prog:=X.prog
 w:=X.w
 K:=X.K
 mg:=X.mg
 base:=X.base
 A:=A.deeper (L7 qual scope s.heap.objs.size f cd cl)
 N:=N
 s₀:=s
 H₀:=H
 env:=L7 qual scope s.heap.objs.size f cd cl
 outer:=X.stack
 stack:=L7 qual scope s.heap.objs.size f cd cl::X.stack
 ex:=[]
 fn:=λx=>match scope.names.lookup x with|some .local=>true|_=>false
 calm:=true
 pn:=[]
 xe:=λ_ _=>False
section
variable{X:Cx}{aa:jA}{U:St}{H:Hp}{s:Am}{scope:Scope}{cl:List (Bg×Aw)}{N:List Bg}{cap:List (Option Nat)}{A:C6}{qual p:Bg}{f:Aw}{cd u:Ac}{v:V}
def ŉ{h1:Cl}{tk:Nat}(I:d4 X aa U H s)(hAf:A.frames=some X.stack)(hAh:A.handled=none)(hk:scope.kind = .function)(aA:∀y∈scope.names,y.2≠.cell)(az:∀x c,cl.lookup x=some c->X.env.cells.lookup x=some c/\(x,Bs)∈scope.names)(eU:∀x,(x,Bs)∈scope.names->∃c,cl.lookup x=some c)(bC:∀x∈scope.names,x.2 = .free->scope.names.lookup x.1=some .free)(bd:∀(i j:Nat),cap[i]?=some (some j)->∃x,N[i]?=some x/\X.N[j]?=some x/\scope.names.lookup x=some .free/\(X.env.scope.names.lookup x=some .cell\/X.env.scope.names.lookup x=some .free))(ab:cap.length=N.length)(h0:cap[0]?=some none)(hp:N[0]?=some p)(ao:scope.names.lookup p=some .local)(rv:i6 v u)(br:h1.Ns s.heap.objs.size (λy=>([(p,u)]:List (Bg×Ac)).reverse.lookup y))(keep:∀b o,s.heap.get? b=some o->h1.get? b=some o):
  d4 (pJ X A N qual scope cl f cd s H) [] ((l7 cap U).set 0 (some v)) H { s with heap:=h1,toks:=tk }:=by
 have e0:=I.env0;have eO:∀b:Aw,b∉(pJ X A N qual scope cl f cd s H).ex:=λb z=>absurd (show b∈([]:List Aw) from z) (by simp)
 refine⟨⟨e0.mod,hk,rfl,rfl,Ak _,λx y c e1 e2=>I.ok.inj x y c (az x c e1).1 (az y c e2).1,λx hx=>?_,λx c hx e=>?_,λ_=>hAh,C6.frames_deeper hAf,.inr ⟨rfl,rfl⟩,λb z=>absurd z (eO b),e0.bs,e0.bsz,λb _ _=>eO b,λb z=>absurd z (eO b),e0.funs,e0.frf⟩,
  rfl,e0.bare,Un.kept keep,⟨_,br,λi y w e1 e2 e3=>?_⟩,λx c e=>?_,e0.hok.fresh (Ak _),λx c e=>I.freeC x c (az x c e).1,λq hq=>absurd (show q∈([]:jA) from hq) (by simp),e0.hok.kept keep,?_⟩
 .have hx:scope.names.lookup x=some .cell\/scope.names.lookup x=some .free:=hx;rcases hx with z|z
  .exact absurd rfl (aA _ (C0 z))
  .exact eU x (C0 z)
 .have aG:(match scope.names.lookup x with|some .local=>true|_=>false)=true:=hx
  have:=bC _ (az x c e).2 rfl
  rw[this]at aG;cases aG
 .cases i with
  |zero=>
   have e1':N[0]?=some y:=e1;rw[hp]at e1';cases e1'
   have fP:0<(l7 cap U).length:=by unfold l7;rw[A0];exact(Ax.mp h0).1
   rw[C7 fP]at e2;cases e2;refine⟨u,rv,.inl ⟨ao,?_⟩⟩;simp[Bi]
  |succ i=>
   rw[Bc (by omega)]at e2
   have hc:∃j,cap[i+1]?=some (some j)/\U[j]?=some (some w):=by
    unfold l7 at e2;rw[As]at e2
    cases fT:cap[i+1]? with
    |none=>rw[fT]at e2;cases e2
    |some o=>
     rw[fT]at e2
     cases o with
     |none=>cases e2
     |some j=>
      refine⟨j,rfl,?_⟩;have eu:(U[j]?).bind id=some w:=Bb e2
      cases hs:U[j]? with
      |none=>rw[hs]at eu;cases eu
      |some q=>
       rw[hs]at eu
       have:q=some w:=eu
       rw[this]
   obtain⟨j,hj,hv⟩:=hc;obtain⟨x,n1,n2,n3,n4⟩:=bd (i+1) j hj
   have exy:x=y:=by
    have:N[i+1]?=some y:=e1
    rw[n1]at this;exact Bb this
   subst exy;obtain⟨mm,hm,hl⟩:=I.loc;obtain⟨u',r,cr⟩:=hl j x w n2 hv (.inr n4);refine⟨u',r,.inr ⟨.inr n3,?_⟩⟩;rcases cr with⟨k,_⟩|⟨k,c,e,z⟩
   .have k':X.env.scope.names.lookup x=some .local:=k;rw[k']at n4;rcases n4 with q|q<;>cases q
   .obtain⟨c',be⟩:=eU x (C0 n3)
    have:=(az x c' be).1
    rw[e]at this;cases this;obtain⟨o,ho,hd⟩:=z;exact⟨c,be,o,keep _ _ ho,hd⟩
 .obtain⟨v',o,ho,hd⟩:=I.cell x c (az x c e).1;exact⟨v',o,keep _ _ ho,hd⟩
 .rw[Cm];unfold l7;rw[A0];exact ab
def Rb(I:d4 X aa U H s)(hAf:A.frames=some X.stack)(hr:h9 0 A)(hf:s.heap.get? f=some (AM qual params body scope cl aB pm c ct))(hc:∃u,H c=some (.frz oc u))(hd:oc.data = .fields vs)(hv:vs[1]?=some (.str qual t))(hk:scope.kind = .function)(aA:∀y∈scope.names,y.2≠.cell)(dz:scope.isCoroutine=false)(bP:scope.isGenerator=false)(az:∀x c,cl.lookup x=some c->X.env.cells.lookup x=some c/\(x,Bs)∈scope.names)(eU:∀x,(x,Bs)∈scope.names->∃c,cl.lookup x=some c)(bC:∀x∈scope.names,x.2 = .free->scope.names.lookup x.1=some .free)(bd:∀(i j:Nat),cap[i]?=some (some j)->∃x,N[i]?=some x/\X.N[j]?=some x/\scope.names.lookup x=some .free/\(X.env.scope.names.lookup x=some .cell\/X.env.scope.names.lookup x=some .free))(ab:cap.length=N.length)(h0:cap[0]?=some none)(hp:N[0]?=some p)(ao:scope.names.lookup p=some .local)(rv:i6 v u)(hb:Gp (Ih "<lambda>" qual params (.expr body) scope cl .none aB pm (.ref c) ct) ⟨[u],[]⟩=Cj [(p,u)])(he:PE (pJ X A N qual scope cl f (.ref c) s H) body te)(h:te ((l7 cap U).set 0 (some v)) H Q):
  Ar (B2 X.prog X.w) A (call (.ref f) [u]) (EP X aa U Q) E s:=by
 obtain⟨uu,hc⟩:=hc;have fV:s.heap.get? c=some oc:=(I.hok c _ hc).1;refine Mr (PySem.W.kla_callFunE hr.depth hf rfl dz bP rfl ⟨c,oc,vs,t,rfl,fV,hd,hv⟩ ?_);rw[hb];refine wpAny_pure (wpAny_newFunctionEnv aA (λy hy=>?_) (λh₁ br hsb=>⟨I.nolimit.fresh _ hsb,?_⟩) hk)
 .rw[Ae.mp hy];exact ao
 have keep:∀b o,s.heap.get? b=some o->h₁.get? b=some o:=λb o e=>hsb.extBut b o (At (Ao e)) (A8 _ e);show E8 _ _ (.expr body (L7 qual scope s.heap.objs.size f (.ref c) cl)) _ _
 have I2:d4 (pJ X A N qual scope cl f (.ref c) s H) [] ((l7 cap U).set 0 (some v)) H { s with heap:=h₁,toks:=s.toks+([(p,u)]:List (Bg×Ac)).length }:=ŉ I hAf hr.hd hk aA az eU bC bd ab h0 hp ao rv br keep
 refine PySem.W.kla_codeExpr (Cc (he [] _ _ H Q I2 h) (λx s' hs=>?_) λ_ _ z=>z.elim);obtain⟨w,H',J,r,q⟩:=hs;exact I.after ⟨w,H',J.os,J.bare,J.base,J.hok,r,q⟩
end
end L3
namespace L3
open PySem PySem.Spec PyProof.Rows L2 PySem.SeqAt PySem.W
section
variable{X:Cx}{aa:jA}{U:St}{H:Hp}{s:Am}
def d4.repin{b:Aw}{o o':Jp}{t':Nat}(J:d4 X ((b,o)::aa) U H s)(hk:F6 b s.heap h')(ho:h'.get? b=some o')(h0:X.s₀.heap.objs.size<=b)(hc:∀x c,X.env.cells.lookup x=some c->c≠b)(hp:∀p∈X.pn++aa,p.1≠b)(hd:∀v,o'.data≠.cell v):d4 X ((b,o')::aa) U H { s with heap:=h',toks:=t' }:=by obtain⟨_,p2,p3,p4,_⟩:=J.pin (b,o) (Ab _ A6);have J1:d4 X aa U H s:=J.pins_of λp z=>J.pin p (Ab _ (A7 _ z));exact d4.pin1 (J1.turned (h':=h') (t':=t') (λc u ne e=>(hk.2 c ne).trans e) p2 p3 (.inr h0) hc hp) ho p2 p3 p4 hd
def d4.tail{p:Aw×Jp}(J:d4 X (p::aa) U H s):d4 X aa U H s:=J.pins_of λq z=>J.pin q (Ab _ (A7 _ z))
def d4.told{a b:Aw}{oa ob:Jp}{h':Cl}{t':Nat}(J:d4 X ((b,ob)::(a,oa)::aa) U H s)(hk:∀c u,c≠a->c≠b->s.heap.get? c=some u->h'.get? c=some u)(hb:∃u,h'.get? b=some u)(ha:lH X.prog X.w (upd H a (.lst ys)) h' a (.lst ys))(h0:X.s₀.heap.objs.size<=a)(h1:X.s₀.heap.objs.size<=b)(hc:∀x c,X.env.cells.lookup x=some c->c≠a/\c≠b)(hp:∀p∈X.pn++aa,p.1≠a/\p.1≠b):d4 X aa U (upd H a (.lst ys)) { s with heap:=h',toks:=t' }:=by
 obtain⟨q1,q2,q3,q4,_⟩:=J.pin (b,ob) (Ab _ A6);obtain⟨p1,p2,p3,p4,_⟩:=J.pin (a,oa) (Ab _ (A7 _ A6));have sm:J0 H (upd H a (.lst ys)):=j8 p2;have J1:d4 X aa U H s:=d4.tail (d4.tail J);have nt:∀c u,H c=some u->c≠a/\c≠b:=λc u e=>⟨(λz=>by rw[z,p2]at e;cases e),(λz=>by rw[z,q2]at e;cases e)⟩
 refine J1.step (g':=s.gens) (d':=s.drawn) (ch:=[a,b]) (λc be=>?_) (λc u _ _ hn e _=>hk c u (λz=>hn (by simp[z])) (λz=>hn (by simp[z])) e) (λc u _ _ hn e _=>⟨u.slots,hk c u (λz=>hn (by simp[z])) (λz=>hn (by simp[z])) e⟩)
  (λc u hn e n=>by rw[v9 (λz=>hn (by simp[z]))];exact n) (λc u hn e=>⟨u,hk c u (λz=>hn (by simp[z])) (λz=>hn (by simp[z])) e⟩) (λc xs e=>sm _ _ e) (λc o' u e=>sm _ _ e) (λc ps e=>⟨#[],by rw[sm _ _ e];simp⟩)
  (λm hm=>?_) (λc u e=>?_) J1.bare
 .rcases Ad.mp be with z|z
  .subst z;exact⟨.inr h0,p3,λx c e=>(hc x c e).1,λp z=>(hp p z).1⟩
  .rw[Ae.mp z];exact⟨.inr h1,q3,λx c e=>(hc x c e).2,λp z=>(hp p z).2⟩
 .obtain⟨o',cZ,eZ,bh,r'⟩:=hm;exact⟨o',cZ,eZ,hk _ _ (Cw p3) (Cw q3) bh,r'⟩
 .by_cases aP:c=a
  .subst aP;rw[v4]at e;cases e;exact ha
  .rw[v9 aP]at e;refine(J1.hok c u e).stay (λd v hd r=>?_) (λd r=>sm _ _ r) (λd xs r=>sm _ _ r) λd o' u r=>sm _ _ r;rcases hd with z|z
   .rw[z]at r ⊢;exact hk _ _ (nt c u e).1 (nt c u e).2 r
   .exact hk _ _ (nt _ _ z).1 (nt _ _ z).2 r
variable{A:C6}{E:VP}
def RC{a:Aw}{vs:List Ac}{P:Lw->Am->Prop}{kds:List D}(O:mY lt)(I:d4 X ((a,Bd "list" vs.toArray n)::aa) U H s)(fj:vs.length<64)(hkl:kds.length=vs.length)(rv:W3 us vs)(h0:X.s₀.heap.objs.size<=a)(hc:∀x c,X.env.cells.lookup x=some c->c<a)(hp:∀p∈X.pn++aa,p.1<a)
  (turn:∀(i:Nat) (u:Ac) (d:D),vs[i]?=some u->kds[i]?=some d->∀(more:jA) (H1:Hp) (s1:Am),J0 H H1->d4 X (more++aa) U H1 s1 ->
   Ar (B2 X.prog X.w) A (call f [u]) (EP X (more++aa) U λk H2=>J0 H1 H2/\i5 X.K (K5 Z H2) d k) (λ_ _=>False) s1)
  (dM:∀(more:jA) (H1:Hp) (s1:Am) (ks:List V) (kvs:List Ac),J0 H H1->d4 X (more++aa) U H1 s1->W3 ks kvs->J3 X.K (K5 Z H1) kds ks->2<=kvs.length->∀Q:SortKind->Am->Prop,Q κ s1->Ar (B2 X.prog X.w) A (My kvs.toArray) Q (λ_ _=>False) s1)
  (ah:∀(more:jA) (H1:Hp) (s1:Am) (ks:List V) (kvs:List Ac),J0 H H1->d4 X (more++aa) U H1 s1->W3 ks kvs->J3 X.K (K5 Z H1) kds ks->∀i j,i<kvs.length->j<kvs.length->∀C:Bool->Am->Prop,C (lt i j) s1 ->
   Ar (B2 X.prog X.w) A (keyLt' κ (kvs.getD i C8) (kvs.getD j C8)) C (λ_ _=>False) s1)
  (fin:∀(p:Array Nat) (H1:Hp) (s1:Am),p.size=vs.length->p.Perm (Bl (Aa vs.length))->Up lt p vs.length->J0 H H1->H1 a=none->d4 X aa U (upd H1 a (.lst (p.toList.map λi=>us.getD i .non))) s1->P (.done (.ret .none)) s1):
  Ar (B2 X.prog X.w) A (ksk_tree a f false) P E s:=by
 have ho:s.heap.get? a=some (Bd "list" vs.toArray n):=(I.pin _ (Ab _ A6)).1;have ha:a<s.heap.objs.size:=Ao ho
 have hzz:vs.toArray.size<=sizeLine:=by rw[Ag,C1];omega
 obtain⟨e1,gF⟩:∃e1,(s.heap.update a (Cd λ_=>(#[]:Array Ac))).get? a=some (Bd "list" #[] e1):=⟨_,get?_update_seq ho λ_=>#[]⟩
 have I1:d4 X ((a,Bd "list" #[] e1)::aa) U H { s with heap:=s.heap.update a (Cd λ_=>(#[]:Array Ac)),toks:=s.toks }:=d4.repin I (Di _ _ _) gF h0 (λx c e=>At (hc x c e)) (λp z=>At (hp p z)) (λv z=>by cases z)
 unfold ksk_tree;refine A4 (Jo ho rfl (A4 (Gg ho rfl ?_ hzz (Bh _))));refine A4 (Lk gF rfl (A4 (wpAny_newTuple (A4 (Hn (Cu ?_) (Bh _))) (by show vs.length<=_;rw[C1];omega))))
 generalize hh1:s.heap.update a (Cd λ_=>(#[]:Array Ac))=h1 at I1 gF ⊢
 have gv:s.heap.objs.size=h1.objs.size:=by rw[<-hh1,Gz]
 generalize hkS:(h1.push (Bd "tuple" vs.toArray 0)).objs.size=kS
 have kS1:kS=h1.objs.size+1:=by rw[<-hkS,M8]
 have fW:a<kS:=by rw[kS1,<-gv];exact Ca ha
 have ckS:∀x c,X.env.cells.lookup x=some c->c≠kS:=λx c e=>At (Dp (hc x c e) fW)
 have I2:d4 X ((kS,Bd "list" #[] 0)::(a,Bd "list" #[] e1)::aa) U H { s with heap:=(h1.push (Bd "tuple" vs.toArray 0)).push (Bd "list" #[] 0),toks:=s.toks }:=by have J:=I1.kept (h':=(h1.push (Bd "tuple" vs.toArray 0)).push (Bd "list" #[] 0)) (t':=s.toks) λb u e=>A8 _ (A8 _ e);refine d4.pin1 J (by rw[<-hkS];exact Au _ rfl) (I1.hok.fresh (by rw[kS1];exact Dq _)) (D4 (by rw[kS1];exact Ca I1.lt)) (I1.nofs (by rw[kS1];exact Dq _)) (λv z=>by cases z)
 have pkS:∀p∈X.pn++(a,Bd "list" #[] e1)::aa,p.1≠kS:=λp z=>by
  rcases Aq.mp z with z|z
  .exact At (Dp (hp p (B4 _ z)) fW)
  .rcases Ad.mp z with z|z
   .rw[z];exact At fW
   .exact At (Dp (hp p (Ab _ z)) fW)
 have h0k:X.s₀.heap.objs.size<=kS:=B3 h0 (De fW);show Ar _ _ (ksk_rest a f false vs.toArray e1 (.ref kS)) P E { s with heap:=(h1.push (Bd "tuple" vs.toArray 0)).push (Bd "list" #[] 0) };unfold ksk_rest;refine A4 (Hu ?_);rw[List.forIn_toArray]
 refine A4 (ksk_fold (λi s'=>∃(H1:Hp) (kA:Array Ac) (ks:List V) (e:Nat),d4 X ((kS,Bd "list" kA e)::(a,Bd "list" #[] e1)::aa) U H1 s'/\J0 H H1/\W3 ks kA.toList/\J3 X.K (K5 Z H1) (kds.take i) ks) vs 0 _
  ⟨H,#[],[],0,I2,J0.refl H,.nil,by rw[Ii];exact J3.nil⟩ ?step ?done)
 case step=>
  rintro j x s' hx ⟨H1,kA,ks,e,J,sm,rk,rr⟩;simp only[L8]at rr ⊢;have hj:j<vs.length:=(Ax.mp hx).1;have eJ:kds[j]?=some kds[j]:=A3 (by omega)
  have hz:kA.size<=vs.length:=by have l1:=rk.length;have l2:=rr.length;have l3:kA.toList.length=kA.size:=B1;rw[D7]at l2;omega
  refine A4 (wpAny_attempt (Cc (turn j x _ hx eJ [(kS,Bd "list" kA e),(a,Bd "list" #[] e1)] H1 s' sm J) (λk bu he=>?_) λ_ _ z=>z.elim));obtain⟨kv,H2,J2,rkv,aQ,rd⟩:=he;have J2':d4 X ((kS,Bd "list" kA e)::(a,Bd "list" #[] e1)::aa) U H2 bu:=J2;have hok:bu.heap.get? kS=some (Bd "list" kA e):=(J2'.pin _ (Ab _ A6)).1;obtain⟨e2,fN⟩:∃e2,(bu.heap.update kS (Cd (·.push k))).get? kS=some (Bd "list" (kA.push k) e2):=⟨_,get?_update_seq hok (·.push k)⟩
  try dsimp only
  refine A4 (Gg hok rfl ?_ (by rw[C1];omega) (B3 (Nat.le_of_eq (Array.size_push ..)) (by rw[C1];omega)))
  refine wpAny_pure ⟨rfl,H2,kA.push k,ks++[kv],e2,?_,sm.trans aQ,?_,?_⟩
  .exact d4.repin (t':=bu.toks) J2' (Di _ _ _) fN h0k ckS pkS (λv z=>by cases z)
  .rw[Array.toList_push];exact rk.append (.cons rkv .nil)
  .rw[List.take_add_one,eJ];exact J3.append (rr.mono (w6 aQ)) (J3.one rd)
 case done=>
  rintro s' ⟨H1,kA,ks,e,J,sm,rk,rr⟩
  have rr':J3 X.K (K5 Z H1) kds ks:=by rw[Ij (by omega)]at rr;exact rr
  have lk:kA.size=vs.length:=by have l1:=rk.length;have l2:=rr'.length;have l3:kA.toList.length=kA.size:=B1;omega
  have hok:s'.heap.get? kS=some (Bd "list" kA e):=(J.pin _ (Ab _ A6)).1;have hoa:s'.heap.get? a=some (Bd "list" #[] e1):=(J.pin _ (Ab _ (A7 _ A6))).1
  try dsimp only
  refine A4 (Jo hok rfl ?_);have eK:kA.toList.toArray=kA:=Array.toArray_toList
  have bU:∀(aR:SortSt) (p:Array Nat),p.size=vs.length->p.Perm (Bl (Aa vs.length))->Up lt p vs.length->(arrOf aR).map (·.2)=Bl (p.toList.map λi=>vs.getD i C8)->Mb aR=none ->
    Ar (B2 X.prog X.w) A (ksk_tail a false e1 (.ref kS) aR) P E s':=λaR p h1 h2 h3 h4 h5=>by
   have s1:=Di s'.heap kS (Cd λ_=>(#[]:Array Ac));have na1:(s'.heap.update kS (Cd λ_=>(#[]:Array Ac))).get? a=some (Bd "list" #[] e1):=(s1.2 a (At fW)).trans hoa;unfold ksk_tail
   try dsimp only
   refine A4 (Gg hok rfl ?_ (by rw[lk,C1];omega) (Bh _))
   refine A4 (G5 ?_);refine A4 (Lk na1 rfl ?_);rw[h4,h5]
   refine A4 (Gg na1 rfl ?_ (Bh _) (by
    show (if false=true then _ else Bl (p.toList.map λi=>vs.getD i C8)).size<=sizeLine+1;rw[if_neg B0,Ag,A0,B1,h1,C1]
    omega))
   simp only[bne_self_eq_false,Es,if_false];refine wpAny_pure (fin p H1 _ h1 h2 h3 sm ?_ ?_)
   .exact(J.pin _ (Ab _ (A7 _ A6))).2.1
   .have pl:∀i∈p.toList,i<vs.length:=xO h2;have s2:=Di (s'.heap.update kS (Cd λ_=>(#[]:Array Ac))) a (Cd λ_=>Bl (p.toList.map λi=>vs.getD i C8));refine d4.told (t':=s'.toks) J (λc u n1 n2 e=>(s2.2 c n1).trans ((s1.2 c n2).trans e)) ?_ ?_ h0 h0k (λx c e=>⟨At (hc x c e),ckS x c e⟩) (λq z=>⟨At (hp q z),pkS q ?_⟩)
    .have:(s'.heap.update kS (Cd λ_=>(#[]:Array Ac))).get? kS=some _:=get?_update_seq hok λ_=>#[]
     exact⟨_,(s2.2 kS (D4 fW)).trans this⟩
    .refine⟨?_,p.toList.map λi=>vs.getD i C8,_,MU rv _ λi hi=>by have:=pl i hi;have:=rv.length;omega,get?_update_seq na1 _⟩
     rw[A0,B1,h1,C1];omega
    .rcases Aq.mp z with z|z
     .exact B4 _ z
     .exact Ab _ (A7 _ z)
  unfold ksk_end
  try dsimp only
  simp only[Es,if_false]
  have lks:kA.toList.length=vs.length:=by rw[B1];exact lk
  by_cases h2:vs.toArray.size<2
  .rw[if_pos h2,if_pos h2];refine A4 (wpAny_pure ?_);rw[StateT.run_pure];refine A4 (wpAny_pure ?_);dsimp only;refine bU (SortSt.mk' general' (kA.zip vs.toArray) #[] 7 none) (Bl (Aa vs.length)) (by simp) (F1 _) (λi j bB hj=>?_) ?_ rfl
   .have:i=j:=by rw[Ag]at h2;omega
    subst this;exact O.irr _
   .rw[show (Bl (Aa vs.length)).toList=Aa vs.length from rfl,Ph];apply Array.toList_inj.mp;show ((kA.zip vs.toArray).map (·.2)).toList=vs;apply Iq
    .simp[lk]
    .intro i g1 g2;simp
  .rw[if_neg h2,if_neg h2]
   have cP:2<=vs.length:=by rw[Ag]at h2;omega
   have zk:=dM [(kS,Bd "list" kA e),(a,Bd "list" #[] e1)] H1 s' ks kA.toList sm J rk rr' (by omega) (λκ' bu=>κ'=κ/\bu=s') ⟨rfl,rfl⟩;rw[eK]at zk;refine A4 (Cc zk (λκ' bu hq=>?_) λ_ _ x=>x.elim);obtain⟨fB,gA⟩:=hq;rw[fB,gA];obtain⟨p,ep,p1,p2,p3⟩:=QB O (n:=vs.length) (by omega)
   have kr:=kat_run (prog:=X.prog) (w:=X.w) (A:=A) (s:=s') (E:=λ_ _=>False) (κ:=κ) (ks:=kA.toList) (vs:=vs) (Q:=λaR bu=>∃q,q.size=vs.length/\arrOf aR=q.map (kas_item (kA.toList.toArray.zip vs.toArray))/\Mb aR=none/\q=p/\bu=s') lks cP fj (λq aR bu a1 a2 a3 a4=>⟨q,a1,a2,a3,a4⟩)
    (HC (lt:=lt) (n:=vs.length) (Ok:=λbu=>bu=s') (λi j C bu hi hj hs hC=>by
     rw[hs];unfold kas_ask;have z0:=hC s' rfl
     exact ah [(kS,Bd "list" kA e),(a,Bd "list" #[] e1)] H1 s' ks kA.toList sm J rk rr' i j (by omega) (by omega) C z0) _ s' (QA (by omega)) rfl (λbu hs=>⟨ep,hs⟩))
   rw[eK]at kr;refine A4 (Cc kr ?_ λ_ _ e=>e.elim);rintro ⟨⟨⟩,aR⟩ bu ⟨q,q1,q2,q3,hqp,hqs⟩;rw[hqs];rw[hqp]at q2;rw[<-eK]at q2;exact bU aR p p1 p2 p3 (kat_snds lks q2) q3
end
structure CK(sc outer:Scope)(N:List Bg)(cap:List (Option Nat))(M:List Bg):Prop where
 kind:sc.kind = .function
 cell:∀y∈sc.names,y.2≠.cell
 loc:∀y∈sc.names,y.2 = .local->sc.names.lookup y.1=some .local
 fre:∀y∈sc.names,y.2 = .free->sc.names.lookup y.1=some .free
 out:∀y∈sc.names,y.2 = .free->outer.names.lookup y.1=some .cell\/outer.names.lookup y.1=some .free
 sel:∀(i j:Nat),cap[i]?=some (some j)->∃x,N[i]?=some x/\M[j]?=some x/\sc.names.lookup x=some .free
 len:cap.length=N.length
 inj:∀(i j k:Nat),cap[i]?=some (some k)->cap[j]?=some (some k)->i=j
def QM(hok:yU sc outer N cap M=true):CK sc outer N cap M:=by unfold yU at hok;simp only[Be]at hok;have c:=yN hok.1;have h2:=En.mp hok.2;exact⟨c.kind,λy hy=>by simpa using h2 y hy,c.loc,c.fre,c.out,c.sel,c.len,c.inj⟩
def pB(fb:ED)(Y:J5):List D->Option (List D)
 | []=>some []
 |d::ds=>match fb (Y.set 0 (some (.sh d))) with|some k=>(match pB fb Y ds with|some ks=>some (k::ks)|none=>none)|none=>none
theorem JY:∀{ds ks:List D},pB fb Y ds=some ks->ks.length=ds.length
 | [],ks,e=>by cases e;rfl
 |d::ds,ks,e=>by
  unfold pB at e;split at e
  .split at e
   .rename_i ks' h;cases e;rw[Av,Av,JY h]
   .cases e
  .cases e
theorem JA:∀{ds ks:List D} {i:Nat} {d k:D},pB fb Y ds=some ks->ds[i]?=some d->ks[i]?=some k->fb (Y.set 0 (some (.sh d)))=some k
 | [],ks,i,d,k,_,h,_=>by simp at h
 |d'::ds,ks,i,d,k,e,h1,h2=>by
  unfold pB at e;split at e
  .rename_i k' cb;split at e
   .rename_i ks' h;cases e
    cases i with
    |zero=>simp at h1 h2;subst h1;subst h2;exact cb
    |succ i=>exact JA (i:=i) h (by simpa using h1) (by simpa using h2)
   .cases e
  .cases e
def wM{α:Type}(le:α->α->Bool)(kk:List α)(ds:List D):List D:=((kk.zip ds).mergeSort λa b=>le a.1 b.1).map (·.2)
def qP(a b:Int):Bool:=decide (a<=b)
def FE(ks ds:List D):Option (List D):=if ds.length<64 then
  (match lE ks with
  |some ns=>if ns.Nodup then some (wM qP ns ds) else none
  |none=>(match nI ks with|some nss=>if nss.Nodup then some (wM lL nss ds) else none|none=>none))
 else none
def qV(cap:List (Option Nat))(fa:EL)(fb:ED):EL:=λY=>match fa Y with
 |some ds=>(match pB fb (mE cap Y) ds with|some ks=>FE ks ds|none=>none)
 |none=>none
theorem PK{α:Type}{le:α->α->Prop}:∀{xs ys:List α},(∀a∈xs,∀b∈xs,le a b->le b a->a=b)->xs.Perm ys->xs.Pairwise le->ys.Pairwise le->(∀a,le a a)->xs=ys
 | [],ys,_,p,_,_,_=>(List.nil_perm.mp p).symm
 |x::xs,ys,cC,p,h1,h2,rf=>by
  cases ys with
  |nil=>exact absurd (List.perm_nil.mp p) (by simp)
  |cons y ys=>
   have hx:=D5.mp h1;have hy:=D5.mp h2
   have e:x=y:=by
    have m1:x∈y::ys:=p.mem_iff.mp A6;have m2:y∈x::xs:=p.mem_iff.mpr A6;refine cC x A6 y m2 ?_ ?_
    .rcases Ad.mp m2 with z|z
     .rw[z];exact rf x
     .exact hx.1 y z
    .rcases Ad.mp m1 with z|z
     .rw[z];exact rf y
     .exact hy.1 x z
   subst e;rw[PK (λa ha b hb=>cC a (A7 _ ha) b (A7 _ hb)) (List.perm_cons x |>.mp p) hx.2 hy.2 rf]
theorem QF{α β:Type}:∀{kk:List α} {ds:List β},kk.Nodup->∀a∈kk.zip ds,∀b∈kk.zip ds,a.1=b.1->a=b
 | [],_,_,a,ha,_,_,_=>by simp at ha
 |_::_,[],_,a,ha,_,_,_=>by simp at ha
 |k::kk,d::ds,nd,a,ha,b,hb,e=>by
  rw[E5]at ha hb;have nd':=Bm.mp nd;rcases Ad.mp ha with z|z
  .rcases Ad.mp hb with y|y
   .rw[z,y]
   .exfalso
    have:=(Ho y).1
    rw[<-e,z]at this;exact nd'.1 this
  .rcases Ad.mp hb with y|y
   .exfalso
    have:=(Ho z).1
    rw[e,y]at this;exact nd'.1 this
   .exact QF nd'.2 a z b y e
def Wp{α β:Type}(dk:α)(dd:β):∀{kk:List α} {ds:List β},kk.length=ds.length->∀is:List Nat,(∀i∈is,i<kk.length)->(is.map λi=>(kk.getD i dk,ds.getD i dd))=is.map λi=>(kk.zip ds).getD i (dk,dd):=λ{kk ds} hl is hi=>by
 apply B6;intro i h;have h1:=hi i h
 have h2:i<ds.length:=by omega
 have e1:(kk.zip ds)[i]?=some (kk[i],ds[i]):=by rw[A3 (by rw[List.length_zip];omega),List.getElem_zip]
 rw[Q4 (A3 h1),Q4 (A3 h2),Q4 e1]
def Ro{α:Type}{le:α->α->Bool}(tr:∀a b c,le a b=true->le b c=true->le a c=true)(tot:∀a b,(le a b||le b a)=true)(cC:∀a b,le a b=true->le b a=true->a=b){kk:List α}{ds:List D}{dk:α}(hl:kk.length=ds.length)(nd:kk.Nodup){p:Array Nat}(p1:p.size=kk.length)(p2:p.Perm (Bl (Aa kk.length)))(p3:Up (λi j=>!le (kk.getD j dk) (kk.getD i dk)) p kk.length):(p.toList.map λi=>ds.getD i .non)=wM le kk ds:=by
 have pl:=xO p2
 have e:(p.toList.map λi=>ds.getD i .non)=(p.toList.map λi=>(kk.getD i dk,ds.getD i .non)).map (·.2):=by rw[B8];rfl
 rw[e];unfold wM;congr 1
 have hz:(kk.zip ds).length=kk.length:=by rw[List.length_zip];omega
 have pm:(p.toList.map λi=>(kk.getD i dk,ds.getD i .non)).Perm (kk.zip ds):=by rw[Wp dk D.non hl _ pl];exact MR (us:=kk.zip ds) (by rw[hz];exact p2)
 have up:((kk.zip ds).mergeSort λa b=>le a.1 b.1).Pairwise λa b=>le a.1 b.1=true:=Dr (le:=λa b:α×D=>le a.1 b.1) (λa b c=>tr _ _ _) (λa b=>tot _ _) _
 refine PK (le:=λa b:α×D=>le a.1 b.1=true) (λa ha b hb h1 h2=>QF nd a (pm.mem_iff.mp ha) b (pm.mem_iff.mp hb) (cC _ _ h1 h2)) (pm.trans (Dh _ _).symm) ?_ up (λa=>by
  have:=tot a.1 a.1
  simpa using this)
 rw[Br]
 exact(HN p1 p3).imp λh=>by simpa using h
def SJ(a b c:Int)(h1:qP a b=true)(h2:qP b c=true):qP a c=true:=by
 have:=of_decide_eq_true h1
 have:=of_decide_eq_true h2
 exact decide_eq_true (by omega)
def Qi(a b:Int):(qP a b||qP b a)=true:=by
 unfold qP;by_cases h:a<=b
 .simp[h]
 .simp;omega
def Ó(a b:Int)(h1:qP a b=true)(h2:qP b a=true):a=b:=by
 have:=of_decide_eq_true h1
 have:=of_decide_eq_true h2
 omega
def SK(a b c:List Int)(h1:lL a b=true)(h2:lL b c=true):lL a c=true:=by unfold lL at h1 h2 ⊢;simp only[Fd]at h1 h2 ⊢;exact xV a b c h1 h2
theorem Qj(a b:List Int):(lL a b||lL b a)=true:=by
 unfold lL
 cases h:HT.lexLt b a with
 |false=>rfl
 |true=>rw[CY b a h];rfl
def Ô(a b:List Int)(h1:lL a b=true)(h2:lL b a=true):a=b:=by unfold lL at h1 h2;simp only[Fd]at h1 h2;exact JV a b h2 h1
def Rn{α:Type}{le:α->α->Bool}(tr:∀a b c,le a b=true->le b c=true->le a c=true)(tot:∀a b,(le a b||le b a)=true)(kk:List α)(dk:α):mY (λi j=>!le (kk.getD j dk) (kk.getD i dk)):=by
 refine⟨λi j h=>?_,λi j k h1 h2=>?_⟩
 .simp only[Fd,Bool.not_eq_false']at h ⊢
  have:=tot (kk.getD i dk) (kk.getD j dk)
  rw[h,M2]at this;exact this
 .simp only[Bool.not_eq_false']at h1 h2 ⊢;exact tr _ _ _ h1 h2
def Wm{ag:Array Ac}(aN:ItemsOf (λi v=>∃t,v = .int (0+(i:Int)*1) t) ag n):W3 ((lR 0 n).map V.int) ag.toList:=by
 have hv:∀(n:Nat) (ag:List Ac) (lo:Nat),ag.length=n->(∀(i:Nat) v,ag[i]?=some v->∃t,v = .int ((lo+i:Nat):Int) t)->W3 ((Aa n).map λ(k:Nat)=>V.int ((lo+k:Nat):Int)) ag:=by
  intro n
  induction n with
  |zero=>intro ag lo hl _;cases ag with|nil=>exact .nil|cons _ _=>cases hl
  |succ n ih=>
   intro ag lo hl hg
   cases ag with
   |nil=>cases hl
   |cons x ag=>
    rw[G7,Aj];refine .cons ?_ ?_
    .obtain⟨t,e⟩:=hg 0 x rfl;exact⟨t,e⟩
    .rw[B8]
     refine Eq.mp (congrArg (λl=>W3 l ag) (B6 λk _=>?_)) (ih ag (lo+1) (by simpa using hl) λi v hv=>by
      obtain⟨t,e⟩:=hg (i+1) v (by simpa using hv);refine⟨t,?_⟩;rw[e];congr 2
      omega)
     simp only[Kl];congr 2;omega
 have:=hv n ag.toList 0 (by simpa using aN.1) λi v e=>by obtain⟨t,e'⟩:=aN.2 i v (by simpa using e);exact⟨t,by rw[e'];congr 1;omega⟩
 unfold lR;rw[B8];refine Eq.mp (congrArg (λl=>W3 l ag.toList) (B6 λk _=>?_)) this;simp only[Kl];congr 1
def Ð{A:C6}{s:Am}{R:Kj->Am->Prop}(hh:A.handled=none)(hr:IsRange s.heap r 0 j 1 t u v)(h1 : -(2 ^ 62)<=j)(h2:j<=100000)(S:Aw)(c₀:Nat)(hS:s.heap.get? S=some { cls:=.type "list",data:=.seq #[] c₀ })(hR:∀h' tk aV c',(∀b o,b≠S->s.heap.get? b=some o->h'.get? b=some o)->h'.get? S=some { cls:=.type "list",dict:=none,data:=.seq aV c',slots:=#[] }->ItemsOf (λi v=>∃t,v = .int (0+(i:Int)*1) t) aV j.toNat->R (.ok (.ret (.ref S))) { s with heap:=h',toks:=tk }):
  E8 (B2 prog w) A (.builtin "list.__iadd__" ⟨[.ref S,.ref r],[]⟩) R s:=by
 have hn:Hy 0 j 1=((j.toNat:Nat):Int):=by rw[Ly];split<;>omega
 refine codeAny_builtin F.entry_list_iadd ?_;rw[Ch F.plain_list_iadd _];exact wpAny_extend_range hh hr (small_one (by omega) (by omega) h1 (by omega)) hn (by omega) S (.ref S) c₀ hS hR
def UN{A:C6}{s:Am}{Q:List Ac->Am->Prop}(hh:A.handled=none)(hr:IsRange s.heap r 0 j 1 t u v)(h1 : -(2 ^ 62)<=j)(h2:j<=100000)(hQ:∀its h' tk,W3 ((lR 0 j.toNat).map V.int) its->(∀b o,s.heap.get? b=some o->h'.get? b=some o)->s.heap.objs.size<=h'.objs.size->Q its { s with heap:=h',toks:=tk }):Ar (B2 prog w) A (Mc (.ref r)) Q E s:=by
 unfold Mc;refine A4 (Ll (codeAny_builtin F.entry_proto_collect ?_));rw[Ch F.plain_proto_collect _];show Ar _ A.in1 (Mj [] >>= λl=>Mq (.builtin "list.__iadd__" ⟨[l,.ref r],[]⟩)) _ _ s;refine A4 (C4 ?_);have k1:∀b o,s.heap.get? b=some o->(s.heap.push { cls:=.type "list",data:=.seq ([]:List Ac).toArray }).get? b=some o:=λb o e=>A8 _ e
 refine wpAny_pure ⟨plainId_quiet F.plain_list_iadd _,Ð hh (k1 _ _ hr) h1 h2 s.heap.objs.size 0 (Au _ rfl) λh' tk aV c' hk hS' aN=>?_⟩;show Ar _ A (load s.heap.objs.size >>= _) _ _ _;refine A4 (Mo hS' ?_);exact wpAny_pure (hQ aV.toList h' tk (Wm aN) (λb o e=>hk b o (At (Ao e)) (k1 b o e)) (De (Ao hS')))
def TL(X:Cx)(Z:List Aw)(H:Hp)(a:Aw)(xs:List V):Prop:=jE X.K H a xs\/jF X.K (K5 Z H) a xs\/(X.calm=true/\∃j:Int,H a=some (.rng 0 j)/\-(2 ^ 62)<=j/\j<=100000/\xs=(lR 0 j.toNat).map V.int)
def tV(X:Cx)(f:EL):TE:=λU H Q=>∃Y ds B H0 V0 Z,f Y=some ds/\SR X.K B H0 V0 H Z U Y/\∀(a:Aw) (xs:List V) (H':Hp),J0 H H'->TL X Z H' a xs->J3 X.K (K5 Z H') ds xs->Q (.ref a) H'
abbrev SV(X:Cx)(e:Expr)(f:EL):Prop:=PE X e (tV X f)
def Ϗ(h:SQ X e f):SV X e f:=u9 h λU H Q ⟨Y,ds,B,H0,V0,Z,e1,r,q⟩=>
 ⟨Y,ds,B,H0,V0,Z,e1,r,λa xs H' s hq rr=>q a xs H' s (hq.elim .inl λz=>.inr (.inl z)) rr⟩
def Ķ{X:Cx}{p2 aJ:Gm}(hc:X.calm=true)(dn:X.mg "range" = none)(h:SE X a fa)(jn:Gl X "range":=by rfl)(fL:B7 "range" = some (.type "range"):=by decide +kernel)(he:A9 [a] X.env=(false,Bz a X.env)::A9 [] X.env:=by exact u7 rfl)(ao:(Bu aJ (A9 [] X.env)).any (·.1)=false:=by exact J9 rfl):SV X (.Call (.Name "range" p2) [a] [] aJ) (oX fa):=
 u9 (sP Ps jn dn fL (J7 h W6 he) (by decide) (by decide) he ao) λU H Q h_=>by
  refine i7 h_ λY d B H0 V0 Z e r q=>?_;unfold oX at e;split at e
  .rename_i j ej;split at e
   .rename_i hj;cases e;refine⟨Y,_,B,H0,V0,Z,ej,r,λv H' s rr=>?_⟩
    obtain rfl:=v8.mp rr
    refine⟨j,rfl,λp1 eC=>?_⟩;exact q p1 _ _ (s.trans (j8 eC)) (.inr (.inr ⟨hc,j,v4,hj.1,hj.2,rfl⟩)) (Y6.mpr rfl)
   .cases e
  .cases e
section
variable{X:Cx}{e body:Expr}{params:Lt}{scope:Scope}{lp kp p pos:Gm}{fa:EL}{fb:ED}
def OO{x pn:Bg}{k:Nat}(N:List Bg)(cap:List (Option Nat))(hm:X.mg "sorted" = none)(bm:pG X.K X.mg)(hl:qH X.K X.env.code x=true)(hr:h9 (k+3) X.A)(ha:SV X e fa)(he:∀A' cl f cd s H,h9 k (pJ X A' N (X.env.qual++"<lambda>") scope cl f cd s H).A->SE (pJ X A' N (X.env.qual++"<lambda>") scope cl f cd s H) body fb)(hok:yU scope X.env.scope N cap X.N=true:=by rfl)(h0:cap[0]?=some none:=by rfl)(hp:N[0]?=some pn:=by rfl)(ao:scope.names.lookup pn=some .local:=by rfl)(dz:scope.isCoroutine=false:=by rfl)(bP:scope.isGenerator=false:=by rfl)(hq:X.env.qual=x++".<locals>.":=by rfl)(bT:L6 params X.env=([],[]):=by rfl)(hb:∀(cl:List (Bg×Aw)) (aB pm:Ac) (c:Aw) (ct u:Ac),Gp (Ih "<lambda>" (X.env.qual++"<lambda>") params (.expr body) scope cl .none aB pm (.ref c) ct) ⟨[u],[]⟩=Cj [(pn,u)]:=by intros;rfl)(hg:Gl X "sorted":=by rfl)(hv:B7 "sorted" = some (.builtin "sorted"):=by decide +kernel)(hs:A9 [e] X.env=(false,Bz e X.env)::A9 [] X.env:=by exact u7 rfl):
  SF X (.Call (.Name "sorted" p) [e] [⟨some "key",.Lambda params body scope lp,kp⟩] pos) (qV cap fa fb):=by
 intro aa s U H Q I h;have C:=QM hok;obtain⟨Y,es,B,H0,V0,Z,e1,r,q⟩:=h;unfold qV at e1;split at e1
 .rename_i ds aH;split at e1
  .rename_i ks iU;refine E4 (oW I hg hm hv ?_ (by decide) (by decide))
   have bO:Bu pos (A9 [e] X.env)=(false,Bz e X.env)::Bu pos (A9 [] X.env):=by rw[hs];rfl
   refine Fi ?_ bO (by rw[bO];rfl)
   refine jG (J7 ha W6 hs pos aa s U H (λvs H1=>∃a xs,vs=[.ref a]/\J0 H H1/\TL X Z H1 a xs/\J3 X.K (K5 Z H1) ds xs) I ⟨Y,ds,B,H0,V0,Z,aH,r,λa xs H1 s1 hq rr=>⟨a,xs,rfl,s1,hq,rr⟩⟩) λus s1 vs H1 I1 fG ⟨a,xs,dy,cG,gh,rr⟩=>?_;subst dy;obtain⟨u,rfl,ru⟩:=nH fG;cases ru;have R1:=r.mono cG;obtain⟨cl,az,hc1,bf⟩:=LG (env:=X.env) (scope:=scope) λy hy hf=>I1.ok.has y.1 (C.out y hy hf)
   show Ar _ _ (evalAll ((do let v <-Bz (.Lambda params body scope lp) X.env;Jx pos;Cj v)::[])) _ _ s1
   refine G9 (A4 (SY I1 R1.tb bm hl hq az bT λf c oc ws t aB pm ct s2 H2 aQ I2 hfc hd hws=>A4 (Gf (wpAny_pure (Ik ?_)))));show Ar _ _ (call (.builtin "sorted") [.ref a] [(Bk "key",.ref f)]) _ _ s2;have l1:=rr.length;have l3:=JY iU;unfold FE at e1;split at e1
   .rename_i fj;generalize dE:AM (X.env.qual++"<lambda>") params body scope cl aB pm c ct=fo at I2
    have xl:xs.length<64:=by omega
    have col:∀{E':VP} {Q':List Ac->Am->Prop},(∀its h' tk,W3 xs its->(∀b o,s2.heap.get? b=some o->h'.get? b=some o)->s2.heap.objs.size<=h'.objs.size->Q' its { s2 with heap:=h',toks:=tk })->Ar (B2 X.prog X.w) X.A.in1 (Mc (.ref a)) Q' E' s2:=λ{E' Q'} z=>by
     have ext:∀its:List Ac,(∀b o,s2.heap.get? b=some o->((s2.heap.push (Bd "list" #[] 0)).update s2.heap.objs.size (Cd (·++its.toArray))).get? b=some o)/\s2.heap.objs.size<=((s2.heap.push (Bd "list" #[] 0)).update s2.heap.objs.size (Cd (·++its.toArray))).objs.size:=λits=>
      ⟨λb o y=>(Bn _ _ (Cw (At (Ao y)))).trans (A8 _ y),by rw[Gz,M8];exact Dq _⟩
     rcases gh with y|y|⟨hc,j,hj,j1,j2,rfl⟩
     .obtain⟨its,rv,pl,_⟩:=I2.list (aQ.seq y);have l2:=rv.length;exact collect_list pl.isList (z its _ s2.toks rv (ext its).1 (ext its).2) (by rw[C1];omega)
     .obtain⟨its,rv,pl,_⟩:=I2.tuple (j6 (w9.trans aQ) y);have l2:=rv.length;exact O9 pl (z its _ s2.toks rv (ext its).1 (ext its).2) (by rw[C1];omega)
     .obtain⟨t',u',v',ho⟩:=(show lH X.prog X.w H2 s2.heap a (.rng 0 j) from I2.hok a _ (aQ _ _ hj));exact UN (show X.A.in1.handled=none from I2.ok.hd hc) ho j1 j2 z
    refine PyProof.Rows.call_function_entry_kw kind_sorted plain_sorted entry_sorted (ksk_s1 _ _) ?_;unfold D0.«sorted»;refine A4 (m:=checkCount "sorted" 1 1 _) (wpAny_pure ?_);refine A4 (col λits h' tk rv cb cM=>?_);have l2:=rv.length
    have hz:its.length<=sizeLine:=by rw[C1];omega
    refine A4 (Hn ?_ hz);have g2:(h'.push (Bd "list" its.toArray 0)).get? h'.objs.size=some (Bd "list" its.toArray 0):=Au h' (o:=Bd "list" its.toArray 0) rfl;have g3:∀b o,s2.heap.get? b=some o->(h'.push (Bd "list" its.toArray 0)).get? b=some o:=λb o z=>A8 _ (cb b o z)
    have I3:d4 X ((h'.objs.size,Bd "list" its.toArray 0)::(f,fo)::aa) U H2 { s2 with heap:=h'.push (Bd "list" its.toArray 0),toks:=tk }:=d4.pin1 (I2.kept (t':=tk) g3) g2 (I2.hok.fresh cM) (D4 (Ba I2.lt cM)) (I2.nofs cM) (λv z=>by cases z)
    have jb:∀y c',X.env.cells.lookup y=some c'->c'<h'.objs.size:=λy c' z=>by obtain⟨v,o,ho,_⟩:=I2.cell y c' z;exact Ba (Ao ho) cM
    have ie:∀w∈X.pn++(f,fo)::aa,w.1<h'.objs.size:=λw z=>Ba (Ao (I2.pin w z).1) cM
    have turn:∀(i:Nat) (u:Ac) (d:D),its[i]?=some u->ks[i]?=some d->∀(more:jA) (H3:Hp) (s3:Am),J0 H2 H3->d4 X (more++(f,fo)::aa) U H3 s3 ->
      Ar (B2 X.prog X.w) X.A.in1.in1 (call (.ref f) [u]) (EP X (more++(f,fo)::aa) U λk' H4=>J0 H3 H4/\i5 X.K (K5 Z H4) d k') (λ_ _=>False) s3:=λi u d hu fR more H3 s3 bq I4=>by
     have hi:i<its.length:=(Ax.mp hu).1;have cX:ds[i]?=some ds[i]:=A3 (by omega);obtain⟨v,cx,rv0⟩:=(rr.mono (w6 (aQ.trans bq))).get cX;obtain⟨u',iP,ru⟩:=rv.get cx;rw[hu]at iP;cases iP;have gX:s3.heap.get? f=some fo:=(I4.pin (f,fo) (Ab _ (Ab _ A6))).1;rw[<-dE]at gX;obtain⟨uu,fQ⟩:=hfc;have gJ:h9 (k+1) X.A.in1.in1:=(h9.in1 (h9.in1 hr))
     exact Rb (te:=tD X.K fb) I4 I.ok.frames (gJ.mono (Bh _)) gX ⟨uu,bq _ _ fQ⟩ hd hws C.kind C.cell dz bP hc1 bf C.fre
      (λi j z=>let ⟨y,n1,n2,n3⟩:=C.sel i j z;⟨y,n1,n2,n3,C.out _ (C0 n3) rfl⟩) C.len h0 hp ao ru (hb cl aB pm c ct u) (he _ _ _ _ _ _ (gJ.deeper _))
      ⟨(mE cap Y).set 0 (some (.sh ds[i])),d,B,H0,V0,Z,JA iU cX fR,((BF C.inj (r.mono (cG.trans (aQ.trans bq)))).set rv0),λw H4 gV rw'=>⟨gV,rw'⟩⟩
    have fin:∀{cZ:List D},cZ=es->∀(pp:Array Nat) (H3:Hp) (s3:Am),pp.size=its.length->pp.Perm (Bl (Aa its.length))->(pp.toList.map λi=>ds.getD i .non)=cZ->J0 H2 H3->H3 (h'.objs.size)=none ->
      d4 X ((f,fo)::aa) U (upd H3 (h'.objs.size) (.lst (pp.toList.map λi=>xs.getD i .non))) s3->EP X aa U Q (.ref (h'.objs.size)) s3:=λ{cZ} ee pp H3 s3 z1 z2 z3 bq hn I4=>by
     have pl:=xO z2;have gV:=cG.trans (aQ.trans bq);have hn0:H (h'.objs.size)=none:=gV.free hn;refine⟨.ref (h'.objs.size),_,d4.tail I4,rfl,q _ _ _ (gV.trans (j8 hn)) hn0 v4 ?_⟩;rw[<-ee,<-z3];exact(MT (rr.mono (w6 (aQ.trans bq))) _ λi hi=>by have:=pl i hi;omega).mono (rH hn (j8 hn))
    refine A4 (Cu (wpAny_call_entry_kw slot_list_sort ⟨_,g2,rfl⟩ entry_list_sort ?body (ksk_l1 _ _)))
    case body=>
     show Ar (B2 X.prog X.w) X.A.in1.in1 (D0.«list.sort» ⟨[.ref (h'.objs.size)],[(Bk "key",.ref f)]⟩) _ _ _;rw[ksk_t1];have h0':X.s₀.heap.objs.size<=h'.objs.size:=B3 I2.sz cM;split at e1
     .rename_i ns hn;split at e1
      .rename_i nd;cases e1;have bY:=Z7 hn
       have ip:ns.length=its.length:=by rw[bY,A0]at l3;omega
       refine RC (κ:=oneType') (Rn SJ Qi ns 0) I3 (by omega) (by omega) rv h0' jb ie turn (λmore H3 s3 kx kvs bq I4 rk cU g Q' q'=>?_) (λmore H3 s3 kx kvs bq I4 rk cU i j hi hj C' hC=>?_)
        (λpp H3 s3 z1 z2 z3 bq bj I4=>⟨_,rfl,wpAny_pure ⟨_,rfl,fin rfl pp H3 s3 z1 z2 (Ro SJ Qi Ó (by omega) nd (by omega) (by rw[ip];exact z2) (by rw[ip];exact z3)) bq bj I4⟩⟩)
       .rw[bY,Y6]at cU;subst cU;have hi:C2 kvs ns:=W1 rk;rw[OB hi g];exact wpAny_pure q'
       .rw[bY,Y6]at cU;subst cU;have hI:C2 kvs ns:=W1 rk;obtain⟨ti,ei⟩:=DZ hI hi;obtain⟨tj,ej⟩:=DZ hI hj;rw[ei,ej,keyLt'_oneType];refine oneLt_int ?_
        have:(!qP (ns.getD j 0) (ns.getD i 0))=decide (ns.getD i 0<ns.getD j 0):=by
         unfold qP;by_cases z:ns.getD i 0<ns.getD j 0
         .rw[decide_eq_true z,decide_eq_false (by omega)];rfl
         .rw[decide_eq_false z,decide_eq_true (by omega)];rfl
        rw[this]at hC;exact hC
      .cases e1
     .split at e1
      .rename_i nss hn;split at e1
       .rename_i nd;cases e1;obtain⟨bY,ak⟩:=DH hn
        have ip:nss.length=its.length:=by rw[bY,A0]at l3;omega
        refine RC (κ:=tuples' (D3 "int" != D3 "tuple")) (Rn SK Qj nss []) I3 (by omega) (by omega) rv h0' jb ie turn (λmore H3 s3 kx kvs bq I4 rk cU g Q' q'=>?_) (λmore H3 s3 kx kvs bq I4 rk cU i j hi hj C' hC=>?_)
         (λpp H3 s3 z1 z2 z3 bq bj I4=>⟨_,rfl,wpAny_pure ⟨_,rfl,fin rfl pp H3 s3 z1 z2 (Ro SK Qj Ô (by omega) nd (by omega) (by rw[ip];exact z2) (by rw[ip];exact z3)) bq bj I4⟩⟩)
        .rw[bY]at cU;obtain⟨fs,t1,t2,t3⟩:=LN I4 (λ_ _ z=>z) ak (cU.mono w9) rk;refine kat_kind t1 (by omega) (λv hv=>?_) rfl q';obtain⟨n,t,rfl⟩:=t3 v hv;exact Looks.of_pure rfl
        .rw[bY]at cU;have ik:=cU.mono (w9 (Z:=Z));have lk1:=cU.length;have lk2:=rk.length;rw[A0]at lk1
         have gi:i<nss.length:=by omega
         have gj:j<nss.length:=by omega
         obtain⟨xi,f1,r1⟩:=ik.get (i:=i) (d:=D.tup (nss[i].map D.int)) (by rw[As,A3 gi];rfl)
         obtain⟨xj,f2,r2⟩:=ik.get (i:=j) (d:=D.tup (nss[j].map D.int)) (by rw[As,A3 gj];rfl)
         obtain⟨ui,k1,s1'⟩:=rk.get f1;obtain⟨uj,k2,s2'⟩:=rk.get f2;obtain⟨ai,oi,ji,ni,rfl,iX,fT,hdi,ii⟩:=wU I4 r1 s1';obtain⟨aj,oj,jj,nj,rfl,hoj,hcj,hdj,ij⟩:=wU I4 r2 s2';rw[Q4 k1,Q4 k2];rw[Q4 (A3 gi),Q4 (A3 gj)]at hC
         have:(!lL nss[j] nss[i])=HT.lexLt nss[i] nss[j]:=by unfold lL;rw[Bool.not_not]
         rw[this]at hC;refine kat_lt iX hdi hoj hdj (IZ ii ij 0 _ ?_ hC);have a1:=ii.length;have a2:=ij.length;rw[B1]at a1 a2;rw[a1,a2]
       .cases e1
      .cases e1
   .cases e1
  .cases e1
 .cases e1
def X1{x pn:Bg}{k:Nat}(N:List Bg)(cap:List (Option Nat))(hm:X.mg "sorted" = none)(bm:pG X.K X.mg)(hl:qH X.K X.env.code x=true)(hr:h9 (k+3) X.A)(ha:ZQ X e fa)(he:∀A' cl f cd s H,h9 k (pJ X A' N (X.env.qual++"<lambda>") scope cl f cd s H).A->ZE (pJ X A' N (X.env.qual++"<lambda>") scope cl f cd s H) body fb)(hok:yU scope X.env.scope N cap X.N=true:=by rfl)(h0:cap[0]?=some none:=by rfl)(hp:N[0]?=some pn:=by rfl)(ao:scope.names.lookup pn=some .local:=by rfl)(dz:scope.isCoroutine=false:=by rfl)(bP:scope.isGenerator=false:=by rfl)(hq:X.env.qual=x++".<locals>.":=by rfl)(bT:L6 params X.env=([],[]):=by rfl)(hb:∀(cl:List (Bg×Aw)) (aB pm:Ac) (c:Aw) (ct u:Ac),Gp (Ih "<lambda>" (X.env.qual++"<lambda>") params (.expr body) scope cl .none aB pm (.ref c) ct) ⟨[u],[]⟩=Cj [(pn,u)]:=by intros;rfl)(hg:Gl X "sorted":=by rfl)(hv:B7 "sorted" = some (.builtin "sorted"):=by decide +kernel)(hs:A9 [e] X.env=(false,Bz e X.env)::A9 [] X.env:=by exact u7 rfl):ZF X (.Call (.Name "sorted" p) [e] [⟨some "key",.Lambda params body scope lp,kp⟩] pos) (qV cap fa fb):=
 ⟨have ha:=ha.h;
 have he:=λA' cl f cd s H hr=>(he A' cl f cd s H hr).h;
 OO N cap hm bm hl hr (Ϗ ha) he hok h0 hp ao dz bP hq bT hb hg hv hs⟩
def Zf{x pn:Bg}{k:Nat}{p2 aJ:Gm}(N:List Bg)(cap:List (Option Nat))(iG:X.calm=true)(hm:X.mg "sorted" = none)(dn:X.mg "range" = none)(bm:pG X.K X.mg)(hl:qH X.K X.env.code x=true)(hr:h9 (k+3) X.A)(ha:ZE X a fc)(he:∀A' cl f cd s H,h9 k (pJ X A' N (X.env.qual++"<lambda>") scope cl f cd s H).A->ZE (pJ X A' N (X.env.qual++"<lambda>") scope cl f cd s H) body fb)(hok:yU scope X.env.scope N cap X.N=true:=by rfl)(h0:cap[0]?=some none:=by rfl)(hp:N[0]?=some pn:=by rfl)(ao:scope.names.lookup pn=some .local:=by rfl)(dz:scope.isCoroutine=false:=by rfl)(bP:scope.isGenerator=false:=by rfl)(hq:X.env.qual=x++".<locals>.":=by rfl)(bT:L6 params X.env=([],[]):=by rfl)(hb:∀(cl:List (Bg×Aw)) (aB pm:Ac) (c:Aw) (ct u:Ac),Gp (Ih "<lambda>" (X.env.qual++"<lambda>") params (.expr body) scope cl .none aB pm (.ref c) ct) ⟨[u],[]⟩=Cj [(pn,u)]:=by intros;rfl)(hg:Gl X "sorted":=by rfl)(hv:B7 "sorted" = some (.builtin "sorted"):=by decide +kernel)(jn:Gl X "range":=by rfl)(fL:B7 "range" = some (.type "range"):=by decide +kernel)(bD:A9 [a] X.env=(false,Bz a X.env)::A9 [] X.env:=by exact u7 rfl)(dB:(Bu aJ (A9 [] X.env)).any (·.1)=false:=by exact J9 rfl)(hs:A9 [.Call (.Name "range" p2) [a] [] aJ] X.env=(false,Bz (.Call (.Name "range" p2) [a] [] aJ) X.env)::A9 [] X.env:=by exact u7 rfl):ZF X (.Call (.Name "sorted" p) [.Call (.Name "range" p2) [a] [] aJ] [⟨some "key",.Lambda params body scope lp,kp⟩] pos) (qV cap (oX fc) fb):=
 ⟨have ha:=ha.h;
 have he:=λA' cl f cd s H hr=>(he A' cl f cd s H hr).h;
 OO N cap hm bm hl hr (Ķ iG dn ha jn fL bD dB) he hok h0 hp ao dz bP hq bT hb hg hv hs⟩
end
def W2(gt:Nat->Nat->Bool):Nat->Nat->Nat->Nat
 | 0,_,b=>b
 |r+1,j,b=>W2 gt r (j+1) (if gt j b=true then j else b)
section
variable{X:Cx}{aa:jA}{U:St}{H:Hp}{s:Am}
def d4.swap{p q:Aw×Jp}(J:d4 X (p::q::aa) U H s):d4 X (q::p::aa) U H s:=J.pins_of λr z=>J.pin r (Ab _ (by
 rcases Ad.mp z with z|z
 .rw[z];exact A7 _ A6
 .rcases Ad.mp z with z|z
  .rw[z];exact A6
  .exact A7 _ (A7 _ z)))
def d4.repin'{b:Aw}{o o':Jp}{h':Cl}{t':Nat}(J:d4 X ((b,o)::aa) U H s)(hk:∀c u,c≠b->s.heap.get? c=some u->h'.get? c=some u)(ho:h'.get? b=some o')(h0:X.s₀.heap.objs.size<=b)(hc:∀x c,X.env.cells.lookup x=some c->c≠b)(hp:∀p∈X.pn++aa,p.1≠b)(hd:∀v,o'.data≠.cell v):d4 X ((b,o')::aa) U H { s with heap:=h',toks:=t' }:=by obtain⟨_,p2,p3,p4,_⟩:=J.pin (b,o) (Ab _ A6);exact d4.pin1 ((d4.tail J).turned (h':=h') (t':=t') (λc u ne e=>hk c u ne e) p2 p3 (.inr h0) hc hp) ho p2 p3 p4 hd
def d4.gone{b:Aw}{o:Jp}{h':Cl}{t':Nat}(J:d4 X ((b,o)::aa) U H s)(hk:∀c u,c≠b->s.heap.get? c=some u->h'.get? c=some u)(h0:X.s₀.heap.objs.size<=b)(hc:∀x c,X.env.cells.lookup x=some c->c≠b)(hp:∀p∈X.pn++aa,p.1≠b):d4 X aa U H { s with heap:=h',toks:=t' }:=by obtain⟨_,p2,p3,p4,_⟩:=J.pin (b,o) (Ab _ A6);exact(d4.tail J).turned (h':=h') (t':=t') (λc u ne e=>hk c u ne e) p2 p3 (.inr h0) hc hp
structure No(X:Cx)(aa:jA)(U:St)(H:Hp)(A:C6)(it ax:Aw)(xs:List V)(Φ:Nat->Jp->Prop)(Sx:Nat->Cl->Prop):Prop where
 W:Mp X.prog X.w A it [it,ax] [it] xs.length (λi v=>∃x,xs[i]?=some x/\i6 x v) Sx
 to:∀(i:Nat) (o:Jp) (more:jA) (H1:Hp) (s1:Am),J0 H H1->d4 X (more++aa) U H1 s1->s1.heap.get? it=some o->Φ i o->Sx i s1.heap
 of:∀i h,Sx i h->∃o,h.get? it=some o/\Φ i o
 nc:∀i o v,Φ i o->o.data≠.cell v
variable{A:C6}{E:VP}
def uV(X:Cx)(aa:jA)(U:St)(H:Hp)(A:C6)(Z:List Aw)(aE:Ac)(xs:List V)(kds:List D):Prop:=
 ∀(i:Nat) (x:V) (u:Ac) (d:D),xs[i]?=some x->i6 x u->kds[i]?=some d->∀(more:jA) (H1:Hp) (s1:Am),J0 H H1->d4 X (more++aa) U H1 s1 ->
   Ar (B2 X.prog X.w) A (call aE [u]) (EP X (more++aa) U λk H2=>J0 H1 H2/\i5 X.K (K5 Z H2) d k) (λ_ _=>False) s1
def qX(X:Cx)(aa:jA)(U:St)(H:Hp)(A:C6)(Z:List Aw)(kds:List D)(gt:Nat->Nat->Bool):Prop:=
 ∀(more:jA) (H1:Hp) (s1:Am),J0 H H1->d4 X (more++aa) U H1 s1->∀(i j:Nat) (di dj:D) (x y:V) (u v:Ac),kds[i]?=some di->kds[j]?=some dj->i5 X.K (K5 Z H1) di x->i5 X.K (K5 Z H1) dj y->i6 x u->i6 y v ->
  ∀(Q:VP) (E:VP),Q (.bool (gt i j)) s1->Ar (B2 X.prog X.w) A (G0 .Gt u v) Q E s1
theorem Û{it S ax:Aw}{xs:List V}{Φ:Nat->Jp->Prop}{Sx:Nat->Cl->Prop}{aE:Ac}{kw:List (Bg×Ac)}{kds:List D}{Z:List Aw}{gt:Nat->Nat->Bool}{R:Kj->Am->Prop}(bp:(∃q,aE = .ref q)\/∃id,aE = .builtin id)(ab:kds.length=xs.length)(h0:X.s₀.heap.objs.size<=it)(h1:X.s₀.heap.objs.size<=S)(ak:S≠it)(hc:∀x c,X.env.cells.lookup x=some c->c≠it/\c≠S)(hp:∀p∈X.pn++aa,p.1≠it/\p.1≠S)(src:No X aa U H A.in1 it ax xs Φ Sx)(turn:uV X aa U H A.in1 Z aE xs kds)(cK:qX X aa U H A.in1 Z kds gt)(hR:∀b x v H1 s1,xs[b]?=some x->i6 x v->b=W2 gt (xs.length-1) 1 0->J0 H H1->d4 X aa U H1 s1->R (.ok (.ret v)) s1):
  ∀(r j b:Nat) (H1:Hp) (s1:Am) (xb:V) (vb bw:Ac) (kb:V) (db:D) (c:Nat) (oI:Jp),xs.length-j=r->j<=xs.length->W2 gt r j b=W2 gt (xs.length-1) 1 0->J0 H H1->d4 X ((S,Bd "list" #[vb,bw] c)::(it,oI)::aa) U H1 s1->Φ j oI ->
   xs[b]?=some xb->i6 xb vb->kds[b]?=some db->i5 X.K (K5 Z H1) db kb->i6 kb bw->E8 (B2 X.prog X.w) A (.builtin "max.loop" ⟨[.ref it,aE,.ref S],kw⟩) R s1:=by
 have eT:(Jv "max"++Jv ".loop":String) = "max.loop":=by decide
 have pS:∀(o:Jp),∀p∈X.pn++(it,o)::aa,p.1≠S:=λo p z=>by
  rcases Aq.mp z with z|z
  .exact(hp p (B4 _ z)).2
  .rcases Ad.mp z with z|z
   .rw[z];exact Cw ak
   .exact(hp p (Ab _ z)).2
 have pI:∀(o:Jp),∀p∈X.pn++(S,o)::aa,p.1≠it:=λo p z=>by
  rcases Aq.mp z with z|z
  .exact(hp p (B4 _ z)).1
  .rcases Ad.mp z with z|z
   .rw[z];exact ak
   .exact(hp p (Ab _ z)).1
 intro r
 induction r with
 |zero=>
  intro j b H1 s1 xb vb bw kb db c oI hr hj bv sm J hΦ hvb rxb bG rb rv
  have cW:j=xs.length:=by omega
  have gS:s1.heap.get? S=some (Bd "list" #[vb,bw] c):=(J.pin _ (Ab _ A6)).1;have gI:s1.heap.get? it=some oI:=(J.pin _ (Ab _ (A7 _ A6))).1
  have sx:Sx xs.length s1.heap:=by rw[<-cW];exact src.to j oI [(S,Bd "list" #[vb,bw] c),(it,oI)] H1 s1 sm J gI hΦ
  refine codeAny_builtin Il ?_;rw[Ch D6 _];show Ar _ A.in1 (Ir (.ref S) >>= _) _ _ _;refine A4 (Eu gS rfl ?_);show Ar _ A.in1 (Fq (Ki (.ref it)) _ >>= _) _ _ _;refine A4 (Dl (src.W.done _ _ _ sx λh' dm cb=>?_));have gS':h'.get? S=some (Bd "list" #[vb,bw] c):=cb S _ (by simpa using ak) gS
  have J1:d4 X ((S,Bd "list" #[vb,bw] c)::aa) U H1 { s1 with heap:=h',toks:=dm }:=d4.gone (d4.swap J) (λc u ne e=>cb c u (by simpa using ne) e) h0 (λx c e=>(hc x c e).1) (pI _);show Ar _ A.in1 (Is S (λ_=>#[]) >>= _) _ _ _;refine A4 (Gc gS' rfl (A4 (G5 (wpAny_pure ?_))));have hb0:b=W2 gt (xs.length-1) 1 0:=bv;exact hR b xb vb H1 _ hvb rxb hb0 sm (d4.gone (t':=dm) J1 (λc u ne e=>(Bn _ _ (Cw ne)).trans e) h1 (λx c e=>(hc x c e).2) (λp z=>(hp p z).2))
 |succ r ih=>
  intro j b H1 s1 xb vb bw kb db c oI hr hj bv sm J hΦ hvb rxb bG rb rv
  have ah:j<xs.length:=by omega
  have gS:s1.heap.get? S=some (Bd "list" #[vb,bw] c):=(J.pin _ (Ab _ A6)).1;have gI:s1.heap.get? it=some oI:=(J.pin _ (Ab _ (A7 _ A6))).1;have sx:Sx j s1.heap:=src.to j oI [(S,Bd "list" #[vb,bw] c),(it,oI)] H1 s1 sm J gI hΦ;refine codeAny_builtin Il ?_;rw[Ch D6 _]
  show Ar _ A.in1 (Ir (.ref S) >>= _) _ _ _;refine A4 (Eu gS rfl ?_);show Ar _ A.in1 (Fq (Ki (.ref it)) _ >>= _) _ _ _;refine A4 (Dl (src.W.item j _ _ _ ah sx λv h' dm hP gk cb=>?_));obtain⟨x,hv,rx⟩:=hP;obtain⟨cA,gI',gM⟩:=src.of (j+1) h' gk;have J1:d4 X ((S,Bd "list" #[vb,bw] c)::(it,cA)::aa) U H1 { s1 with heap:=h',toks:=dm }:=d4.swap (d4.repin' (d4.swap J) (λc u ne e=>cb c u (by simpa using ne) e) gI' h0 (λx c e=>(hc x c e).1) (pI _) (λw=>src.nc _ _ w gM))
  have eJ:kds[j]?=some kds[j]:=A3 (by omega);have dO:Ar (B2 X.prog X.w) A.in1 (call aE [v]) (EP X ((S,Bd "list" #[vb,bw] c)::(it,cA)::aa) U λk H2=>J0 H1 H2/\i5 X.K (K5 Z H2) kds[j] k) (λ_ _=>False) { s1 with heap:=h',toks:=dm }:=turn j x v _ hv rx eJ [(S,Bd "list" #[vb,bw] c),(it,cA)] H1 _ sm J1
  have dL:Ar (B2 X.prog X.w) A.in1 (Fq (Gx [v] (call aE [v])) λe=>do
    Is S λ_=>#[]
    letGo ([v]++[vb,bw].reverse) [e]
    throw e) (EP X ((S,Bd "list" #[vb,bw] c)::(it,cA)::aa) U λk H2=>J0 H1 H2/\i5 X.K (K5 Z H2) kds[j] k) (λ_ _=>False) { s1 with heap:=h',toks:=dm }:=
   Dl (Cu (Cc dO (λ_ _ z=>z) λ_ _ z=>z.elim))
  have rest:∀(k:Ac) (s2:Am),EP X ((S,Bd "list" #[vb,bw] c)::(it,cA)::aa) U (λk H2=>J0 H1 H2/\i5 X.K (K5 Z H2) kds[j] k) k s2 ->
    ∀(P:Lw->Am->Prop) (E':VP),(∀s3,E8 (B2 X.prog X.w) A (.builtin "max.loop" ⟨[.ref it,aE,.ref S],kw⟩) R s3->P (.again (.builtin "max.loop" ⟨[.ref it,aE,.ref S],kw⟩)) s3) ->
    Ar (B2 X.prog X.w) A.in1 (do
     let better <-Fq (Gx [v,k] do
       let answer <-G0 .Gt k bw
       let yes <-Gx [answer] (Mm answer)
       letGo [answer]
       Cj yes) λe=>do
      Is S λ_=>#[]
      letGo ([k,v]++[vb,bw].reverse) [e]
      throw e
     if better then
      Is S λ_=>#[v,k]
      letGo [bw,vb]
     else letGo [v,k]
     Cj (Jh (.builtin "max.loop" ⟨[.ref it,aE,.ref S],kw⟩))) P E' s2:=λk s2 he P E' hP=>by
   obtain⟨kx,H2,J2,rk,aQ,rd⟩:=he;refine A4 (Dl (Cu (A4 (cK [(S,Bd "list" #[vb,bw] c),(it,cA)] H2 s2 (sm.trans aQ) J2 j b _ _ kx kb k bw eJ bG rd (rb.mono (w6 aQ)) rk rv _ _ ?_))));refine A4 (Cu (Cn (A4 (G5 (wpAny_pure ?_)))));have iC:s2.heap.get? S=some (Bd "list" #[vb,bw] c):=(J2.pin _ (Ab _ A6)).1
   have aP:W2 gt r (j+1) (if gt j b=true then j else b)=W2 gt (xs.length-1) 1 0:=bv
   cases hg:gt j b with
   |true=>rw[hg,if_pos rfl]at aP;simp only[if_true];obtain⟨c2,bf⟩:∃c2,(s2.heap.update S (Cd λ_=>#[v,k])).get? S=some (Bd "list" #[v,k] c2):=⟨_,get?_update_seq iC λ_=>#[v,k]⟩;refine A4 (Gc iC rfl (A4 (G5 (wpAny_pure (hP _ ?_)))));refine ih (j+1) j H2 _ x v k kx _ c2 cA (by omega) ah aP (sm.trans aQ) ?_ gM hv rx eJ rd rk;exact d4.repin' (t':=s2.toks) J2 (λc u ne e=>(Bn _ _ (Cw ne)).trans e) bf h1 (λx c e=>(hc x c e).2) (pS _) (λw z=>by cases z)
   |false=>rw[hg,if_neg B0]at aP;simp only[Es,if_false];refine A4 (G5 (wpAny_pure (hP _ ?_)));exact ih (j+1) b H2 _ xb vb bw kb db c cA (by omega) ah aP (sm.trans aQ) J2 gM hvb rxb bG (rb.mono (w6 aQ)) rv
  rcases bp with⟨q,rfl⟩|⟨id,rfl⟩
  .show Ar _ A.in1 (Fq (Gx [v] (call (.ref q) [v])) _ >>= _) _ _ _;refine A4 (Cc dL (λk s2 he=>?_) λ_ _ z=>z.elim);refine rest k s2 he _ _ λs3 z=>?_;exact⟨plainId_quiet D6 _,z⟩
  .show Ar _ A.in1 (Fq (Gx [v] (call (.builtin id) [v])) _ >>= _) _ _ _;refine A4 (Cc dL (λk s2 he=>?_) λ_ _ z=>z.elim);refine rest k s2 he _ _ λs3 z=>?_;exact⟨plainId_quiet D6 _,z⟩
end
section
variable{X:Cx}{aa:jA}{U:St}{H:Hp}{s:Am}{A:C6}{E:VP}
theorem Xk{it S ax:Aw}{xs:List V}{Φ:Nat->Jp->Prop}{Sx:Nat->Cl->Prop}{aE:Ac}{kw:List (Bg×Ac)}{kds:List D}{Z:List Aw}{gt:Nat->Nat->Bool}{R:Kj->Am->Prop}{c:Nat}{oI:Jp}(bp:(∃q,aE = .ref q)\/∃id,aE = .builtin id)(ab:kds.length=xs.length)(h0:X.s₀.heap.objs.size<=it)(h1:X.s₀.heap.objs.size<=S)(ak:S≠it)(hc:∀x c,X.env.cells.lookup x=some c->c≠it/\c≠S)(hp:∀p∈X.pn++aa,p.1≠it/\p.1≠S)(src:No X aa U H A.in1 it ax xs Φ Sx)(turn:uV X aa U H A.in1 Z aE xs kds)(cK:qX X aa U H A.in1 Z kds gt)(hR:∀b x v H1 s1,xs[b]?=some x->i6 x v->b=W2 gt (xs.length-1) 1 0->J0 H H1->d4 X aa U H1 s1->R (.ok (.ret v)) s1)(hE:xs=[]->∃x d,kw=[(x,d)]/\∀s1,d4 X aa U H s1->R (.ok (.ret d)) s1)(J:d4 X ((S,Bd "list" #[] c)::(it,oI)::aa) U H s)(hΦ:Φ 0 oI):E8 (B2 X.prog X.w) A (.builtin "max.loop" ⟨[.ref it,aE,.ref S],kw⟩) R s:=by
 have eT:(Jv "max"++Jv ".loop":String) = "max.loop":=by decide
 have pS:∀(o:Jp),∀p∈X.pn++(it,o)::aa,p.1≠S:=λo p z=>by
  rcases Aq.mp z with z|z
  .exact(hp p (B4 _ z)).2
  .rcases Ad.mp z with z|z
   .rw[z];exact Cw ak
   .exact(hp p (Ab _ z)).2
 have pI:∀(o:Jp),∀p∈X.pn++(S,o)::aa,p.1≠it:=λo p z=>by
  rcases Aq.mp z with z|z
  .exact(hp p (B4 _ z)).1
  .rcases Ad.mp z with z|z
   .rw[z];exact ak
   .exact(hp p (Ab _ z)).1
 have gS:s.heap.get? S=some (Bd "list" #[] c):=(J.pin _ (Ab _ A6)).1;have gI:s.heap.get? it=some oI:=(J.pin _ (Ab _ (A7 _ A6))).1;have sx:Sx 0 s.heap:=src.to 0 oI [(S,Bd "list" #[] c),(it,oI)] H s (J0.refl H) J gI hΦ;refine codeAny_builtin Il ?_;rw[Ch D6 _]
 show Ar _ A.in1 (Ir (.ref S) >>= _) _ _ _;refine A4 (Eu gS rfl ?_);show Ar _ A.in1 (Fq (Ki (.ref it)) _ >>= _) _ _ _
 cases gw:xs with
 |nil=>
  obtain⟨x,d,rfl,hd⟩:=hE gw
  have sx':Sx xs.length s.heap:=by rw[gw];exact sx
  refine A4 (Dl (src.W.done _ _ _ sx' λh' dm cb=>?_));have J1:d4 X ((S,Bd "list" #[] c)::aa) U H { s with heap:=h',toks:=dm }:=d4.gone (d4.swap J) (λc u ne e=>cb c u (by simpa using ne) e) h0 (λx c e=>(hc x c e).1) (pI _);refine A4 (Hu (wpAny_pure ?_));exact hd _ (d4.tail J1)
 |cons v0 vr=>
  have hn:0<xs.length:=by rw[gw];exact Nat.succ_pos _
  refine A4 (Dl (src.W.item 0 _ _ _ hn sx λv h' dm hP gk cb=>?_));obtain⟨x,hv,rx⟩:=hP;obtain⟨cA,gI',gM⟩:=src.of (0+1) h' gk;have J1:d4 X ((S,Bd "list" #[] c)::(it,cA)::aa) U H { s with heap:=h',toks:=dm }:=d4.swap (d4.repin' (d4.swap J) (λc u ne e=>cb c u (by simpa using ne) e) gI' h0 (λx c e=>(hc x c e).1) (pI _) (λw=>src.nc _ _ w gM));have eJ:kds[0]?=some kds[0]:=A3 (by omega)
  have dO:Ar (B2 X.prog X.w) A.in1 (call aE [v]) (EP X ((S,Bd "list" #[] c)::(it,cA)::aa) U λk H2=>J0 H H2/\i5 X.K (K5 Z H2) kds[0] k) (λ_ _=>False) { s with heap:=h',toks:=dm }:=turn 0 x v _ hv rx eJ [(S,Bd "list" #[] c),(it,cA)] H _ (J0.refl H) J1
  have dL:Ar (B2 X.prog X.w) A.in1 (Fq (Gx [v] (call aE [v])) λe=>do
    Is S λ_=>#[]
    letGo ([v]++[].reverse) [e]
    throw e) (EP X ((S,Bd "list" #[] c)::(it,cA)::aa) U λk H2=>J0 H H2/\i5 X.K (K5 Z H2) kds[0] k) (λ_ _=>False) { s with heap:=h',toks:=dm }:=
   Dl (Cu (Cc dO (λ_ _ z=>z) λ_ _ z=>z.elim))
  have rest:∀(k:Ac) (s2:Am),EP X ((S,Bd "list" #[] c)::(it,cA)::aa) U (λk H2=>J0 H H2/\i5 X.K (K5 Z H2) kds[0] k) k s2 ->
    ∀(P:Lw->Am->Prop) (E':VP),(∀s3,E8 (B2 X.prog X.w) A (.builtin "max.loop" ⟨[.ref it,aE,.ref S],kw⟩) R s3->P (.again (.builtin "max.loop" ⟨[.ref it,aE,.ref S],kw⟩)) s3) ->
    Ar (B2 X.prog X.w) A.in1 (do
     Is S λ_=>#[v,k]
     Cj (Jh (.builtin "max.loop" ⟨[.ref it,aE,.ref S],kw⟩))) P E' s2:=λk s2 he P E' hP=>by
   obtain⟨kx,H2,J2,rk,aQ,rd⟩:=he;have iC:s2.heap.get? S=some (Bd "list" #[] c):=(J2.pin _ (Ab _ A6)).1;obtain⟨c2,bf⟩:∃c2,(s2.heap.update S (Cd λ_=>#[v,k])).get? S=some (Bd "list" #[v,k] c2):=⟨_,get?_update_seq iC λ_=>#[v,k]⟩;refine A4 (Gc iC rfl (wpAny_pure (hP _ ?_)));refine Û bp ab h0 h1 ak hc hp src turn cK hR (xs.length-1) 1 0 H2 _ x v k kx _ c2 cA rfl hn rfl aQ ?_ gM hv rx eJ rd rk
   exact d4.repin' (t':=s2.toks) J2 (λc u ne e=>(Bn _ _ (Cw ne)).trans e) bf h1 (λx c e=>(hc x c e).2) (pS _) (λw z=>by cases z)
  rcases bp with⟨q,rfl⟩|⟨id,rfl⟩
  .show Ar _ A.in1 (Fq (Gx [v] (call (.ref q) [v])) _ >>= _) _ _ _;refine A4 (Cc dL (λk s2 he=>?_) λ_ _ z=>z.elim);refine rest k s2 he _ _ λs3 z=>?_;exact⟨plainId_quiet D6 _,z⟩
  .show Ar _ A.in1 (Fq (Gx [v] (call (.builtin id) [v])) _ >>= _) _ _ _;refine A4 (Cc dL (λk s2 he=>?_) λ_ _ z=>z.elim);refine rest k s2 he _ _ λs3 z=>?_;exact⟨plainId_quiet D6 _,z⟩
def Zc{it ax:Aw}{xs:List V}(hh:A.handled=none)(ak:ax≠it):Mp X.prog X.w A.in1 it [it,ax] [it] xs.length (λi v=>∃x,xs[i]?=some x/\i6 x v) (λi h=>h.IsListIter it ax i/\∃its:List Ac,W3 xs its/\h.IsList ax its.toArray) where
 sub:=λb hb=>by simp at hb;simp[hb]
 frame:=λ_ _ _ st hk=>⟨st.1.at λo e=>hk it (by simp) o e,let ⟨its,rv,hl⟩:=st.2;⟨its,rv,hl.at λo e=>hk ax (by simp) o e⟩⟩
 item:=λi s Q E hi st hQ=>by
  obtain⟨dP,its,rv,hl⟩:=st;have l:=rv.length
  have bo:i<its.length:=by omega
  obtain⟨u,hu,ru⟩:=rv.get (A3 hi);refine wpAny_pyNext_list_item dP hl (x:=u) (by simpa using hu) λh' fH cQ=>?_;exact hQ _ h' s.toks ⟨_,A3 hi,ru⟩ ⟨fH,its,rv,hl.extBut cQ.extBut ak⟩ λb o hb e=>cQ.extBut b o (λh=>hb (by simp[h])) e
 done:=λs Q E st hQ=>by obtain⟨dP,its,rv,hl⟩:=st;have l:=rv.length;exact wpAny_pyNext_list_end (A:=A.in1) hh dP hl (by simp[l]) λh' fD=>hQ h' s.toks λb o hb e=>fD b o (λh=>hb (by simp[h])) e
 self:=λ_ _ _ _ st hQ=>wpAny_pyIter_listiter st.1 hQ
def XX{it ax:Aw}{xs:List V}(hh:A.handled=none)(ak:ax≠it):Mp X.prog X.w A.in1 it [it,ax] [it] xs.length (λi v=>∃x,xs[i]?=some x/\i6 x v) (λi h=>h.IsTupleIter it ax i/\∃its:List Ac,W3 xs its/\h.IsTuple ax its.toArray) where
 sub:=λb hb=>by simp at hb;simp[hb]
 frame:=λ_ _ _ st hk=>⟨st.1.at λo e=>hk it (by simp) o e,let ⟨its,rv,hl⟩:=st.2;⟨its,rv,hl.at λo e=>hk ax (by simp) o e⟩⟩
 item:=λi s Q E hi st hQ=>by
  obtain⟨dP,its,rv,hl⟩:=st;have l:=rv.length
  have bo:i<its.length:=by omega
  obtain⟨u,hu,ru⟩:=rv.get (A3 hi);refine Fl dP hl (x:=u) (by simpa using hu) λh' fH cQ=>?_;exact hQ _ h' s.toks ⟨_,A3 hi,ru⟩ ⟨fH,its,rv,hl.extBut cQ.extBut ak⟩ λb o hb e=>cQ.extBut b o (λh=>hb (by simp[h])) e
 done:=λs Q E st hQ=>by obtain⟨dP,its,rv,hl⟩:=st;have l:=rv.length;exact Ic (A:=A.in1) hh dP hl (by simp[l]) λh' fD=>hQ h' s.toks λb o hb e=>fD b o (λh=>hb (by simp[h])) e
 self:=λ_ _ _ _ st hQ=>wpAny_pyIter_tupleiter st.1 hQ
def LR{ax:Aw}{xs:List V}{aE:Ac}{kw:List (Bg×Ac)}{kds:List D}{Z:List Aw}{gt:Nat->Nat->Bool}{R:Kj->Am->Prop}{P:Lw->Am->Prop}(bp:(∃q,aE = .ref q)\/∃id,aE = .builtin id)(hh:A.handled=none)(I:d4 X aa U H s)(ab:kds.length=xs.length)(cR:(∀(more:jA) (H1:Hp) (s1:Am),J0 H H1->d4 X (more++aa) U H1 s1->∃its:List Ac,W3 xs its/\s1.heap.IsList ax its.toArray)\/(∀(more:jA) (H1:Hp) (s1:Am),J0 H H1->d4 X (more++aa) U H1 s1->∃its:List Ac,W3 xs its/\s1.heap.IsTuple ax its.toArray))(turn:uV X aa U H A.in1 Z aE xs kds)(cK:qX X aa U H A.in1 Z kds gt)(hR:∀b x v H1 s1,xs[b]?=some x->i6 x v->b=W2 gt (xs.length-1) 1 0->J0 H H1->d4 X aa U H1 s1->R (.ok (.ret v)) s1)(hE:xs=[]->∃x d,kw=[(x,d)]/\∀s1,d4 X aa U H s1->R (.ok (.ret d)) s1)(hP:∀c' s',c'.quiet=true->E8 (B2 X.prog X.w) A c' R s'->P (.again c') s'):
  Ar (B2 X.prog X.w) A.in1 (do
   let it <-Mn (.ref ax)
   let l <-Mj []
   Cj (Jh (.builtin "max.loop" ⟨[it,aE,l],kw⟩))) P E s:=by
 have axlt:ax<s.heap.objs.size:=by
  rcases cR with h|h
  .obtain⟨_,_,o,e,_⟩:=h [] H s (J0.refl H) I;exact Ao e
  .obtain⟨_,_,o,e,_⟩:=h [] H s (J0.refl H) I;exact Ao e
 have jb:∀y c',X.env.cells.lookup y=some c'->c'<s.heap.objs.size:=λy c' z=>by obtain⟨v,o,ho,_⟩:=I.cell y c' z;exact Ao ho
 have ie:∀w∈X.pn++aa,w.1<s.heap.objs.size:=λw z=>Ao (I.pin w z).1
 have go:∀(oI:Jp) (Φ:Nat->Jp->Prop) (Sx:Nat->Cl->Prop),(∀v,oI.data≠.cell v)->oI.isFreed=false->Φ 0 oI->No X aa U H A.in1 s.heap.objs.size ax xs Φ Sx ->
   Ar (B2 X.prog X.w) A.in1 (do
    let l <-Mj []
    Cj (Jh (.builtin "max.loop" ⟨[.ref s.heap.objs.size,aE,l],kw⟩))) P E { s with heap:=s.heap.push oI }:=λoI Φ Sx hnc bC hΦ src=>by
  have z1:(s.heap.push oI).objs.size=s.heap.objs.size+1:=Dy ..;refine A4 (Hn (wpAny_pure (hP _ _ (plainId_quiet D6 _) ?_)) (Bh _));show E8 _ _ (.builtin "max.loop" ⟨[.ref s.heap.objs.size,aE,.ref (s.heap.push oI).objs.size],kw⟩) R { s with heap:=(s.heap.push oI).push (Bd "list" #[] 0) };rw[z1]
  have I1:d4 X ((s.heap.objs.size,oI)::aa) U H { s with heap:=s.heap.push oI,toks:=s.toks }:=d4.pin1 (I.kept (h':=s.heap.push oI) (t':=s.toks) λb u e=>A8 _ e) (Au _ bC) (I.hok.fresh (Ak _)) (D4 I.lt) (I.nofs (Ak _)) hnc
  have I2:d4 X ((s.heap.objs.size+1,Bd "list" #[] 0)::(s.heap.objs.size,oI)::aa) U H { s with heap:=(s.heap.push oI).push (Bd "list" #[] 0),toks:=s.toks }:=by have g:=Au (s.heap.push oI) (o:=Bd "list" #[] 0) rfl;rw[z1]at g;exact d4.pin1 (I1.kept (h':=(s.heap.push oI).push (Bd "list" #[] 0)) (t':=s.toks) λb u e=>A8 _ e) g (I.hok.fresh (Dq _)) (D4 (Ca I.lt)) (I.nofs (Dq _)) (λv z=>by cases z)
  exact Xk (S:=s.heap.objs.size+1) bp ab I.sz (Nat.le_succ_of_le I.sz) (D4 (Em _)) (λx c e=>⟨At (jb x c e),At (Ca (jb x c e))⟩)
   (λp z=>⟨At (ie p z),At (Ca (ie p z))⟩) src turn cK hR hE I2 hΦ
 have iS:ax≠s.heap.objs.size:=At axlt;rcases cR with hs|hs
 .obtain⟨its,rv,hl⟩:=hs [] H s (J0.refl H) I;refine A4 (Jy hl ?_)
  refine go { cls:=.type "list_iterator",data:=.fields #[.ref ax,.int 0 0] } (λi o=>o.cls = .type "list_iterator"/\o.data = .fields #[.ref ax,.int i 0]) (λi h=>h.IsListIter s.heap.objs.size ax i/\∃its:List Ac,W3 xs its/\h.IsList ax its.toArray) (λv z=>by cases z) rfl ⟨rfl,rfl⟩
   ⟨Zc hh iS,λi o more H1 s1 sm J g hΦ=>⟨⟨o,g,hΦ.1,hΦ.2⟩,hs more H1 s1 sm J⟩,λi h z=>let ⟨o,g,a,b⟩:=z.1;⟨o,g,a,b⟩,λi o v hΦ z=>by rw[hΦ.2]at z;cases z⟩
 .obtain⟨its,rv,hl⟩:=hs [] H s (J0.refl H) I;refine A4 (Ep hl ?_)
  refine go { cls:=.type "tuple_iterator",data:=.fields #[.ref ax,.int 0 0] } (λi o=>o.cls = .type "tuple_iterator"/\o.data = .fields #[.ref ax,.int i 0]) (λi h=>h.IsTupleIter s.heap.objs.size ax i/\∃its:List Ac,W3 xs its/\h.IsTuple ax its.toArray) (λv z=>by cases z) rfl ⟨rfl,rfl⟩
   ⟨XX hh iS,λi o more H1 s1 sm J g hΦ=>⟨⟨o,g,hΦ.1,hΦ.2⟩,hs more H1 s1 sm J⟩,λi h z=>let ⟨o,g,a,b⟩:=z.1;⟨o,g,a,b⟩,λi o v hΦ z=>by rw[hΦ.2]at z;cases z⟩
def WD(a v:Ac):Mg "max" ⟨[a],[(Bk "key",v)]⟩:=by unfold Mg;kernel_rfl
def Yf(a v d:Ac):Mg "max" ⟨[a],[(Bk "key",v),(Bk "default",d)]⟩:=by unfold Mg;kernel_rfl
def Ye(a b v:Ac):Mg "max" ⟨[a,b],[(Bk "key",v)]⟩:=by unfold Mg;kernel_rfl
variable{ax:Aw}{xs:List V}{aE:Ac}{kds:List D}{Z:List Aw}{gt:Nat->Nat->Bool}{Q:VP}
def Oi(bp:(∃q,aE = .ref q)\/∃id,aE = .builtin id)(hh:A.handled=none)(I:d4 X aa U H s)(ab:kds.length=xs.length)(cR:(∀(more:jA) (H1:Hp) (s1:Am),J0 H H1->d4 X (more++aa) U H1 s1->∃its:List Ac,W3 xs its/\s1.heap.IsList ax its.toArray)\/(∀(more:jA) (H1:Hp) (s1:Am),J0 H H1->d4 X (more++aa) U H1 s1->∃its:List Ac,W3 xs its/\s1.heap.IsTuple ax its.toArray))(turn:uV X aa U H A.in1 Z aE xs kds)(cK:qX X aa U H A.in1 Z kds gt)(hn:xs≠[])(hR:∀b x v H1 s1,xs[b]?=some x->i6 x v->b=W2 gt (xs.length-1) 1 0->J0 H H1->d4 X aa U H1 s1->Q v s1):
  Ar (B2 X.prog X.w) A (call (.builtin "max") [.ref ax] [(Bk "key",aE)]) Q E s:=by
 have eT:(Jv "max"++Jv ".loop":String) = "max.loop":=by decide
 refine kmk_tree Kw Kd Ke (WD _ _) ?_
 have fin:=LR (E:=E) (P:=λfin s'=>match fin with
   | .done f=>(match (N1 f:Kj) with|.ok (.ret v)=>Q v s'|.ok _=>False|.error e=>E e s')
   | .again c'=>c'.quiet=true/\E8 (B2 X.prog X.w) A c' (λr s'=>match r with|.ok (.ret v)=>Q v s'|.ok _=>False|.error e=>E e s') s') (kw:=[]) bp hh I ab cR turn cK (λb x v H1 s1 a0 a1 a2 a3 a4=>hR b x v H1 s1 a0 a1 a2 a3 a4) (λz=>absurd z hn) (λc' s' h1 h2=>⟨h1,h2⟩)
 rcases bp with⟨q,rfl⟩|⟨id,rfl⟩
 .show Ar _ A.in1 (Bw "max" ["key","default"] 0 ⟨[],[(Bk "key",.ref q)]⟩ >>= _) _ _ s;refine A4 (Ia (show Bw "max" ["key","default"] 0 ⟨[],[(Bk "key",.ref q)]⟩=Cj [some (.ref q),none] from rfl) ?_);refine A4 (wpAny_pure ?_);exact fin
 .show Ar _ A.in1 (Bw "max" ["key","default"] 0 ⟨[],[(Bk "key",.builtin id)]⟩ >>= _) _ _ s;refine A4 (Ia (show Bw "max" ["key","default"] 0 ⟨[],[(Bk "key",.builtin id)]⟩=Cj [some (.builtin id),none] from rfl) ?_);refine A4 (wpAny_pure ?_);exact fin
def Yl{id:String}{d:Ac}(hh:A.handled=none)(I:d4 X aa U H s)(ab:kds.length=xs.length)(cR:(∀(more:jA) (H1:Hp) (s1:Am),J0 H H1->d4 X (more++aa) U H1 s1->∃its:List Ac,W3 xs its/\s1.heap.IsList ax its.toArray)\/(∀(more:jA) (H1:Hp) (s1:Am),J0 H H1->d4 X (more++aa) U H1 s1->∃its:List Ac,W3 xs its/\s1.heap.IsTuple ax its.toArray))(turn:uV X aa U H A.in1 Z (.builtin id) xs kds)(cK:qX X aa U H A.in1 Z kds gt)(hE:xs=[]->∀s1,d4 X aa U H s1->Q d s1)(hR:∀b x v H1 s1,xs[b]?=some x->i6 x v->b=W2 gt (xs.length-1) 1 0->J0 H H1->d4 X aa U H1 s1->Q v s1):
  Ar (B2 X.prog X.w) A (call (.builtin "max") [.ref ax] [(Bk "key",.builtin id),(Bk "default",d)]) Q E s:=by
 refine kmk_tree Kw Kd Ke (Yf _ _ _) ?_
 have fin:=LR (E:=E) (P:=λfin s'=>match fin with
   | .done f=>(match (N1 f:Kj) with|.ok (.ret v)=>Q v s'|.ok _=>False|.error e=>E e s')
   | .again c'=>c'.quiet=true/\E8 (B2 X.prog X.w) A c' (λr s'=>match r with|.ok (.ret v)=>Q v s'|.ok _=>False|.error e=>E e s') s') (kw:=[("default",d)]) (.inr ⟨id,rfl⟩) hh I ab cR turn cK (λb x v H1 s1 a0 a1 a2 a3 a4=>hR b x v H1 s1 a0 a1 a2 a3 a4) (λz=>⟨_,d,rfl,λs1 J=>hE z s1 J⟩) (λc' s' h1 h2=>⟨h1,h2⟩)
 show Ar _ A.in1 (Bw "max" ["key","default"] 0 ⟨[],[(Bk "key",.builtin id),(Bk "default",d)]⟩ >>= _) _ _ s;refine A4 (Ia (show Bw "max" ["key","default"] 0 ⟨[],[(Bk "key",.builtin id),(Bk "default",d)]⟩=Cj [some (.builtin id),some d] from rfl) ?_);refine A4 (wpAny_pure ?_);exact fin
def Yk{id:String}{x y:V}{u v:Ac}(ru:i6 x u)(rv:i6 y v)(hh:A.handled=none)(I:d4 X aa U H s)(ab:kds.length=2)(turn:∀(o:Jp) (t:Nat),uV X ((s.heap.objs.size,o)::aa) U H A.in1 Z (.builtin id) [x,y] kds)(cK:∀(o:Jp),qX X ((s.heap.objs.size,o)::aa) U H A.in1 Z kds gt)(hR:∀w H1 s1,i6 (if gt 1 0=true then y else x) w->J0 H H1->d4 X aa U H1 s1->Q w s1):
  Ar (B2 X.prog X.w) A (call (.builtin "max") [u,v] [(Bk "key",.builtin id)]) Q E s:=by
 refine kmk_tree Kw Kd Ke (Ye _ _ _) ?_;show Ar _ A.in1 (Bw "max" ["key","default"] 0 ⟨[],[(Bk "key",.builtin id)]⟩ >>= _) _ _ s;refine A4 (Ia (show Bw "max" ["key","default"] 0 ⟨[],[(Bk "key",.builtin id)]⟩=Cj [some (.builtin id),none] from rfl) ?_);show Ar _ A.in1 (newTuple [u,v] >>= _) _ _ s
 refine A4 (C4 ?_)
 have I1:d4 X ((s.heap.objs.size,{ cls:=D3 "tuple",data:=Jb #[u,v] })::aa) U H { s with heap:=s.heap.push { cls:=D3 "tuple",data:=Jb #[u,v] },toks:=s.toks }:=d4.pin1 (I.kept (t':=s.toks) λb u e=>A8 _ e) (Au _ rfl) (I.hok.fresh (Ak _)) (D4 I.lt) (I.nofs (Ak _)) (λv z=>by cases z)
 exact LR (E:=E) (ax:=s.heap.objs.size) (xs:=[x,y]) (P:=λfin s'=>match fin with
   | .done f=>(match (N1 f:Kj) with|.ok (.ret v)=>Q v s'|.ok _=>False|.error e=>E e s')
   | .again c'=>c'.quiet=true/\E8 (B2 X.prog X.w) A c' (λr s'=>match r with|.ok (.ret v)=>Q v s'|.ok _=>False|.error e=>E e s') s') (kw:=[]) (.inr ⟨id,rfl⟩) hh I1 ab
  (.inr λmore H1 s1 sm J=>⟨[u,v],.cons ru (.cons rv .nil),_,(J.pin (s.heap.objs.size,{ cls:=D3 "tuple",data:=Jb #[u,v] }) (Ab _ (Ab _ A6))).1,rfl,_,rfl⟩) (turn _ 0) (cK _) (λb z w H1 s1 a1 a0 a2 a3 a4=>by
   have e:b=if gt 1 0=true then 1 else 0:=a2
   refine hR w H1 s1 ?_ a3 (d4.tail a4)
   cases hg:gt 1 0 with
   |true=>rw[hg,if_pos rfl]at e;rw[if_pos rfl];subst e;cases a1;exact a0
   |false=>
    rw[hg,if_neg B0]at e;rw[if_neg B0];subst e;cases a1
    exact a0) (λz=>by cases z) (λc' s' h1 h2=>⟨h1,h2⟩)
end
def BX:D->Option Int
 | .tup xs=>some xs.length
 | .lst xs=>some xs.length
 |_=>none
def pK:List D->Option (List Int)
 | []=>some []
 |d::ds=>match BX d with|some n=>(match pK ds with|some ns=>some (n::ns)|none=>none)|none=>none
theorem OE:∀{ds:List D} {ns:List Int},pK ds=some ns->ns.length=ds.length
 | [],ns,e=>by cases e;rfl
 |d::ds,ns,e=>by
  unfold pK at e;split at e
  .split at e
   .rename_i h;cases e;rw[Av,Av,OE h]
   .cases e
  .cases e
theorem Re:∀{ds:List D} {ns:List Int} {i:Nat} {d:D} {n:Int},pK ds=some ns->ds[i]?=some d->ns[i]?=some n->BX d=some n
 | [],_,i,d,n,_,h,_=>by simp at h
 |d'::ds,ns,i,d,n,e,h1,h2=>by
  unfold pK at e;split at e
  .rename_i m hm;split at e
   .rename_i bH h;cases e
    cases i with
    |zero=>simp at h1 h2;subst h1;subst h2;exact hm
    |succ i=>exact Re (i:=i) h (by simpa using h1) (by simpa using h2)
   .cases e
  .cases e
def tE(ns:List Int)(i j:Nat):Bool:=decide (ns.getD j 0<ns.getD i 0)
def xB(nss:List (List Int))(i j:Nat):Bool:=HT.lexLt (nss.getD j []) (nss.getD i [])
def rE(gt:Nat->Nat->Bool)(ds:List D):Option D:=ds[W2 gt (ds.length-1) 1 0]?
section
variable{X:Cx}{aa:jA}{U:St}{H:Hp}{s:Am}{A:C6}{Z:List Aw}{ds:List D}{xs:List V}
theorem QZ{ns:List Int}(rr:J3 X.K (K5 Z H) ds xs)(hn:pK ds=some ns):uV X aa U H A Z (.builtin "len") xs (ns.map D.int):=by
 intro i x u d hx ru hd more H1 s1 sm I;rw[As]at hd
 cases il:ns[i]? with
 |none=>rw[il]at hd;cases hd
 |some n=>
  rw[il]at hd;cases hd;have rr1:=rr.mono (w6 sm);obtain⟨dd,dY,rd⟩:=rr1.at hx;have hl:=Re hn dY il;have h63:=yH
  cases dd with
  |tup es=>have e:(es.length:Int)=n:=Bb hl;obtain⟨a,ys,rfl,hq,r2⟩:=j3.mp rd;cases ru;obtain⟨its,r',pl,hz⟩:=I.tuple (j6 w9 hq);have ab:=r'.length;have du:=r2.length;exact len_tuple pl (by simp only[Ag]<;>omega) ⟨.int n,H1,I.tok _,⟨s1.toks+1,by rw[Ag,<-ab,<-du,e]⟩,J0.refl _,v8.mpr rfl⟩
  |lst es=>have e:(es.length:Int)=n:=Bb hl;obtain⟨a,ys,rfl,hq,r2⟩:=K3.mp rd;cases ru;obtain⟨its,r',pl,hz⟩:=I.list (w9.seq hq);have ab:=r'.length;have du:=r2.length;exact Calls.call_len_list pl.isList (by simp only[Ag]<;>omega) ⟨.int n,H1,I.tok _,⟨s1.toks+1,by rw[Ag,<-ab,<-du,e]⟩,J0.refl _,v8.mpr rfl⟩
  |non=>cases hl
  |bl _=>cases hl
  |int _=>cases hl
  |str _=>cases hl
  |dct _ _=>cases hl
theorem HB(ns:List Int):qX X aa U H A Z (ns.map D.int) (tE ns):=by
 intro more H1 s1 sm I i j di dj x y u v hi hj rx ry ru rv Q E q;rw[As]at hi hj
 cases ei:ns[i]? with
 |none=>rw[ei]at hi;cases hi
 |some a=>
  cases ej:ns[j]? with
  |none=>rw[ej]at hj;cases hj
  |some b=>rw[ei]at hi;rw[ej]at hj;cases hi;cases hj;rw[v8]at rx ry;subst rx;subst ry;obtain⟨t,rfl⟩:=ru;obtain⟨t',rfl⟩:=rv;refine Ru A s1 a t b t' X.prog X.w E Q ?_;unfold tE at q;rw[Q4 ei,Q4 ej]at q;exact q
theorem Ys(nss:List (List Int))(hu:A.units<Cz):qX X aa U H A Z (nss.map λns=>D.tup (ns.map D.int)) (xB nss):=by
 intro more H1 s1 sm I i j di dj x y u v hi hj rx ry ru rv Q E q;rw[As]at hi hj
 cases ei:nss[i]? with
 |none=>rw[ei]at hi;cases hi
 |some a=>
  cases ej:nss[j]? with
  |none=>rw[ej]at hj;cases hj
  |some b=>rw[ei]at hi;rw[ej]at hj;cases hi;cases hj;obtain⟨p1,o1,i1,n1,rfl,g1,c1,d1,ia1⟩:=wU I (rx.mono w9) ru;obtain⟨p2,o2,i2,n2,rfl,g2,c2,d2,ia2⟩:=wU I (ry.mono w9) rv;unfold xB at q;rw[Q4 ei,Q4 ej]at q;exact Pa ⟨o1,g1,c1,n1,d1⟩ ⟨o2,g2,c2,n2,d2⟩ ia1 ia2 hu q
def JI(gh:jE X.K H a xs\/jF X.K (K5 Z H) a xs):(∀(more:jA) (H1:Hp) (s1:Am),J0 H H1->d4 X (more++aa) U H1 s1->∃its:List Ac,W3 xs its/\s1.heap.IsList a its.toArray) \/
  (∀(more:jA) (H1:Hp) (s1:Am),J0 H H1->d4 X (more++aa) U H1 s1->∃its:List Ac,W3 xs its/\s1.heap.IsTuple a its.toArray):=by
 rcases gh with z|z
 .exact .inl λmore H1 s1 sm I=>let ⟨its,rv,pl,_⟩:=I.list (sm.seq z);⟨its,rv,pl.isList⟩
 .exact .inr λmore H1 s1 sm I=>let ⟨its,rv,pl,_⟩:=I.tuple (j6 (w9.trans sm) z);⟨its,rv,pl⟩
end
section
variable{X:Cx}{e body dflt ea eb:Expr}{params:Lt}{scope:Scope}{lp kp kp2 p pos:Gm}{fa:EL}{fb fd f1 f2:ED}
def yI(ds:List D)(d0:D):Option D:=match pK ds with|some ns=>(match ds with|[]=>some d0|_::_=>rE (tE ns) ds)|none=>none
def AW(fa:EL)(fd:ED):ED:=λY=>match fa Y with|some ds=>(match fd Y with|some d0=>yI ds d0|none=>none)|none=>none
def Pn(hc:X.calm=true)(hm:X.mg "max" = none)(hml:X.mg "len" = none)(ha:ZQ X e fa)(hd:ZE X dflt fd)(hg:Gl X "max":=by rfl)(jh:Gl X "len":=by rfl)(hv:B7 "max" = some (.builtin "max"):=by decide +kernel)(hvl:B7 "len" = some (.builtin "len"):=by decide +kernel)(hs:A9 [e] X.env=(false,Bz e X.env)::A9 [] X.env:=by exact u7 rfl):ZE X (.Call (.Name "max" p) [e] [⟨some "key",.Name "len" lp,kp⟩,⟨some "default",dflt,kp2⟩] pos) (AW fa fd):=by
 have ha:=ha.h;have hd:=hd.h;refine⟨?_⟩;intro aa s U H Q I h;obtain⟨Y,d,B,H0,V0,Z,e1,r,q⟩:=h;unfold AW at e1;split at e1
 .rename_i ds aH;split at e1
  .rename_i d0 ed0;refine E4 (oW I hg hm hv ?_ (by decide) (by decide))
   have bO:Bu pos (A9 [e] X.env)=(false,Bz e X.env)::Bu pos (A9 [] X.env):=by rw[hs];rfl
   refine Fi ?_ bO (by rw[bO];rfl)
   refine jG (J7 ha W6 hs pos aa s U H (λvs H1=>∃a xs,vs=[.ref a]/\J0 H H1/\(jE X.K H1 a xs\/jF X.K (K5 Z H1) a xs)/\J3 X.K (K5 Z H1) ds xs) I ⟨Y,ds,B,H0,V0,Z,aH,r,λa xs H1 s1 hq rr=>⟨a,xs,rfl,s1,hq,rr⟩⟩) λus s1 vs H1 I1 fG ⟨a,xs,dy,cG,gh,rr⟩=>?_;subst dy;obtain⟨u,rfl,ru⟩:=nH fG;cases ru;have R1:=r.mono cG;show Ar _ _ (evalAll ((do let v <-Bz (.Name "len" lp) X.env;Jx pos;Cj v)::(do let v <-Bz dflt X.env;Jx pos;Cj v)::[])) _ _ s1
   refine G9 (A4 (oW I1 jh hml hvl (A4 (Gf (wpAny_pure ?_))) (by decide) (by decide)));refine G9 (A4 (jG (hd aa s1 U H1 (λv H2=>J0 H1 H2/\i5 X.K (K5 Z H2) d0 v) I1 ⟨Y,d0,B,H0,V0,Z,ed0,R1,λv H2 s2 r2=>⟨s2,r2⟩⟩) λw s2 v0 H2 I2 rw0 ⟨aQ,rd0⟩=>A4 (Gf (wpAny_pure (Ik ?_)))));show Ar _ _ (call (.builtin "max") [.ref a] [(Bk "key",.builtin "len"),(Bk "default",w)]) _ _ s2
   have gZ:=rr.mono (w6 aQ);have eR:jE X.K H2 a xs\/jF X.K (K5 Z H2) a xs:=gh.imp aQ.seq (j6 (w6 aQ));unfold yI at e1;split at e1
   .rename_i ns hn;have l1:=rr.length;have l2:=OE hn;refine Yl (I2.ok.hd hc) I2 (by rw[A0];omega) (JI eR) (QZ gZ hn) (HB ns) (λhx s3 I3=>?_) (λb x v H3 s3 hb rb bv bq I3=>?_)
    .have:ds=[]:=by rw[hx]at l1;exact List.length_eq_zero_iff.mp l1
     subst this;cases e1;exact⟨v0,H2,I3,rw0,q v0 H2 (cG.trans aQ) rd0⟩
    .have rr3:=gZ.mono (w6 bq);obtain⟨dd,dY,rd⟩:=rr3.at hb
     have:dd=d:=by
      have ak:ds≠[]:=λz=>by rw[z]at dY;simp at dY
      split at e1
      .exact absurd rfl ak
      .unfold rE at e1;rw[l1,<-bv,dY]at e1;exact Bb e1
     subst this;exact⟨x,H3,I3,rb,q x H3 (cG.trans (aQ.trans bq)) rd⟩
   .cases e1
  .cases e1
 .cases e1
def xN(a b:D):Option D:=match BX a with|some n=>(match BX b with|some m=>some (if n<m then b else a)|none=>none)|none=>none
def U1(hc:X.calm=true)(hm:X.mg "max" = none)(hml:X.mg "len" = none)(ha:ZE X ea f1)(hb:ZE X eb f2)(hg:Gl X "max":=by rfl)(jh:Gl X "len":=by rfl)(hv:B7 "max" = some (.builtin "max"):=by decide +kernel)(hvl:B7 "len" = some (.builtin "len"):=by decide +kernel)(hs:A9 [ea,eb] X.env=(false,Bz ea X.env)::A9 [eb] X.env:=by exact u7 rfl)(bD:A9 [eb] X.env=(false,Bz eb X.env)::A9 [] X.env:=by exact u7 rfl):ZE X (.Call (.Name "max" p) [ea,eb] [⟨some "key",.Name "len" lp,kp⟩] pos) (d2 xN f1 f2):=by
 have ha:=ha.h;have hb:=hb.h;refine⟨?_⟩;intro aa s U H Q I h;obtain⟨Y,d,B,H0,V0,Z,e1,r,q⟩:=h;obtain⟨x0,y0,ex,ey,e1⟩:=PX e1;refine E4 (oW I hg hm hv ?_ (by decide) (by decide))
 have bO:Bu pos (A9 [ea,eb] X.env)=(false,Bz ea X.env)::Bu pos (A9 [eb] X.env):=by rw[hs];rfl
 have hst2:(Bu pos (A9 [eb] X.env)).any (·.1)=false:=by rw[bD];rfl
 refine Fi ?_ bO (by rw[bO,Ek,hst2];rfl)
 refine jG (J7 ha (J7 hb W6 bD) hs pos aa s U H (λvs H1=>∃x y,vs=[x,y]/\J0 H H1/\i5 X.K (K5 Z H1) x0 x/\i5 X.K (K5 Z H1) y0 y) I
  ⟨Y,x0,B,H0,V0,Z,ex,r,λx H1 s1 rx=>⟨Y,y0,B,H0,V0,Z,ey,r.mono s1,λy H2 s2 ry=>⟨x,y,rfl,s1.trans s2,rx.mono (w6 s2),ry⟩⟩⟩) λus s1 vs H1 I1 fG ⟨x,y,dy,cG,rx,ry⟩=>?_
 subst dy
 obtain⟨u,v,rfl,ru,rv⟩:∃u v,us=[u,v]/\i6 x u/\i6 y v:=by
  cases fG with
  |cons a b=>
   cases b with
   |cons c d=>cases d;exact⟨_,_,rfl,a,c⟩
 show Ar _ _ (evalAll ((do let v <-Bz (.Name "len" lp) X.env;Jx pos;Cj v)::[])) _ _ s1
 refine G9 (A4 (oW I1 jh hml hvl (A4 (Gf (wpAny_pure (Ik ?_)))) (by decide) (by decide)));show Ar _ _ (call (.builtin "max") [u,v] [(Bk "key",.builtin "len")]) _ _ s1;unfold xN at e1;split at e1
 .rename_i n hn;split at e1
  .rename_i m hm'
   have hl:pK [x0,y0]=some [n,m]:=by unfold pK;rw[hn];dsimp only;unfold pK;rw[hm'];rfl
   have rr:J3 X.K (K5 Z H1) [x0,y0] [x,y]:=J3.cons rx (J3.one ry);refine Yk (kds:=[D.int n,D.int m]) (gt:=tE [n,m]) ru rv (I1.ok.hd hc) I1 rfl (λo t=>QZ rr hl) (λo=>HB [n,m]) (λw H2 s2 rw' aQ I2=>?_);have g:tE [n,m] 1 0=decide (n<m):=rfl;rw[g]at rw';by_cases dH:n<m
   .rw[if_pos dH]at e1;cases e1;rw[decide_eq_true dH,if_pos rfl]at rw';exact⟨y,H2,I2,rw',q y H2 (cG.trans aQ) (ry.mono (w6 aQ))⟩
   .rw[if_neg dH]at e1;cases e1;rw[decide_eq_false dH,if_neg B0]at rw';exact⟨x,H2,I2,rw',q x H2 (cG.trans aQ) (rx.mono (w6 aQ))⟩
  .cases e1
 .cases e1
def FX(ks ds:List D):Option D:=match ds with
 | []=>none
 |_::_=>(match lE ks with
  |some ns=>rE (tE ns) ds
  |none=>(match nI ks with|some nss=>rE (xB nss) ds|none=>none))
def EA(cap:List (Option Nat))(fa:EL)(fb:ED):ED:=λY=>match fa Y with
 |some ds=>(match pB fb (mE cap Y) ds with|some ks=>FX ks ds|none=>none)
 |none=>none
def Ze{x pn:Bg}{k:Nat}(N:List Bg)(cap:List (Option Nat))(hc:X.calm=true)(hm:X.mg "max" = none)(bm:pG X.K X.mg)(hl:qH X.K X.env.code x=true)(hr:h9 (k+3) X.A)(ha:ZQ X e fa)(he:∀A' cl f cd s H,h9 k (pJ X A' N (X.env.qual++"<lambda>") scope cl f cd s H).A->ZE (pJ X A' N (X.env.qual++"<lambda>") scope cl f cd s H) body fb)(hok:yU scope X.env.scope N cap X.N=true:=by rfl)(h0:cap[0]?=some none:=by rfl)(hp:N[0]?=some pn:=by rfl)(ao:scope.names.lookup pn=some .local:=by rfl)(dz:scope.isCoroutine=false:=by rfl)(bP:scope.isGenerator=false:=by rfl)(hq:X.env.qual=x++".<locals>.":=by rfl)(bT:L6 params X.env=([],[]):=by rfl)(hb:∀(cl:List (Bg×Aw)) (aB pm:Ac) (c:Aw) (ct u:Ac),Gp (Ih "<lambda>" (X.env.qual++"<lambda>") params (.expr body) scope cl .none aB pm (.ref c) ct) ⟨[u],[]⟩=Cj [(pn,u)]:=by intros;rfl)(hg:Gl X "max":=by rfl)(hv:B7 "max" = some (.builtin "max"):=by decide +kernel)(hs:A9 [e] X.env=(false,Bz e X.env)::A9 [] X.env:=by exact u7 rfl):ZE X (.Call (.Name "max" p) [e] [⟨some "key",.Lambda params body scope lp,kp⟩] pos) (EA cap fa fb):=by
 have ha:=ha.h;have he:=λA' cl f cd s H hr=>(he A' cl f cd s H hr).h;refine⟨?_⟩;intro aa s U H Q I h;have C:=QM hok;obtain⟨Y,d,B,H0,V0,Z,e1,r,q⟩:=h;unfold EA at e1;split at e1
 .rename_i ds aH;split at e1
  .rename_i ks iU;refine E4 (oW I hg hm hv ?_ (by decide) (by decide))
   have bO:Bu pos (A9 [e] X.env)=(false,Bz e X.env)::Bu pos (A9 [] X.env):=by rw[hs];rfl
   refine Fi ?_ bO (by rw[bO];rfl)
   refine jG (J7 ha W6 hs pos aa s U H (λvs H1=>∃a xs,vs=[.ref a]/\J0 H H1/\(jE X.K H1 a xs\/jF X.K (K5 Z H1) a xs)/\J3 X.K (K5 Z H1) ds xs) I ⟨Y,ds,B,H0,V0,Z,aH,r,λa xs H1 s1 hq rr=>⟨a,xs,rfl,s1,hq,rr⟩⟩) λus s1 vs H1 I1 fG ⟨a,xs,dy,cG,gh,rr⟩=>?_;subst dy;obtain⟨u,rfl,ru⟩:=nH fG;cases ru;have R1:=r.mono cG;obtain⟨cl,az,hc1,bf⟩:=LG (env:=X.env) (scope:=scope) λy hy hf=>I1.ok.has y.1 (C.out y hy hf)
   show Ar _ _ (evalAll ((do let v <-Bz (.Lambda params body scope lp) X.env;Jx pos;Cj v)::[])) _ _ s1
   refine G9 (A4 (SY I1 R1.tb bm hl hq az bT λf c oc ws t aB pm ct s2 H2 aQ I2 hfc hd hws=>A4 (Gf (wpAny_pure (Ik ?_)))));show Ar _ _ (call (.builtin "max") [.ref a] [(Bk "key",.ref f)]) _ _ s2;have gZ:=rr.mono (w6 aQ);have eR:jE X.K H2 a xs\/jF X.K (K5 Z H2) a xs:=gh.imp aQ.seq (j6 (w6 aQ));have l1:=rr.length;have l3:=JY iU
   generalize dE:AM (X.env.qual++"<lambda>") params body scope cl aB pm c ct=fo at I2;have gJ:h9 (k+2) X.A.in1:=h9.in1 hr
   have turn:uV X ((f,fo)::aa) U H2 X.A.in1 Z (.ref f) xs ks:=λi x u d hx ru fR more H3 s3 bq I4=>by
    obtain⟨di,cX,rd⟩:=(gZ.mono (w6 bq)).at hx;have gX:s3.heap.get? f=some fo:=(I4.pin (f,fo) (Ab _ (Ab _ A6))).1;rw[<-dE]at gX;obtain⟨uu,fQ⟩:=hfc
    exact Rb (te:=tD X.K fb) I4 I.ok.frames (gJ.mono (Bh _)) gX ⟨uu,bq _ _ fQ⟩ hd hws C.kind C.cell dz bP hc1 bf C.fre
     (λi j z=>let ⟨y,n1,n2,n3⟩:=C.sel i j z;⟨y,n1,n2,n3,C.out _ (C0 n3) rfl⟩) C.len h0 hp ao ru (hb cl aB pm c ct u) (he _ _ _ _ _ _ ((gJ.mono (Dq _)).deeper _))
     ⟨(mE cap Y).set 0 (some (.sh di)),d,B,H0,V0,Z,JA iU cX fR,((BF C.inj (r.mono (cG.trans (aQ.trans bq)))).set rd),λw H4 gV rw'=>⟨gV,rw'⟩⟩
   have fin:∀{gt:Nat->Nat->Bool},rE gt ds=some d->∀b x v H3 s3,xs[b]?=some x->i6 x v->b=W2 gt (xs.length-1) 1 0->J0 H2 H3->d4 X ((f,fo)::aa) U H3 s3->EP X aa U Q v s3:=λ{gt} hpk b x v H3 s3 aP rb bv bq I3=>by obtain⟨dd,dY,rd⟩:=(gZ.mono (w6 bq)).at aP;unfold rE at hpk;rw[l1,<-bv,dY]at hpk;cases hpk;exact⟨x,H3,d4.tail I3,rb,q x H3 (cG.trans (aQ.trans bq)) rd⟩
   unfold FX at e1;split at e1
   .cases e1
   .rename_i dh dr
    have ak:xs≠[]:=λz=>by rw[z]at l1;simp at l1
    split at e1
    .rename_i ns hn;have bY:=Z7 hn
     have gr:qX X ((f,fo)::aa) U H2 X.A.in1 Z ks (tE ns):=by rw[bY];exact HB ns
     exact Oi (.inl ⟨f,rfl⟩) (I2.ok.hd hc) I2 (by omega) (JI eR) turn gr ak (fin e1)
    .split at e1
     .rename_i nss hn;obtain⟨bY,_⟩:=DH hn
      have gr:qX X ((f,fo)::aa) U H2 X.A.in1 Z ks (xB nss):=by rw[bY];exact Ys nss gJ.units0
      exact Oi (.inl ⟨f,rfl⟩) (I2.ok.hd hc) I2 (by omega) (JI eR) turn gr ak (fin e1)
     .cases e1
  .cases e1
 .cases e1
end
end L3
namespace L3
open PySem PySem.Spec PyProof.Rows L2
abbrev vG(xs:Array Nat):Prop:=xs.toList.Pairwise (· < ·)
def JH(h:vG xs){i k:Nat}(hik:i<k)(hk:k<xs.size)(j:Nat):xs.getD i j<xs.getD k j:=by
 have hi:i<xs.size:=Dp hik hk
 have e1:xs.getD i j=xs.toList[i]'(by simpa using hi):=by simp[L4,hi]
 have e2:xs.getD k j=xs.toList[k]'(by simpa using hk):=by simp[L4,hk]
 rw[e1,e2];exact Ey.mp h i k _ _ hik
theorem JS(h:vG xs)(j:Nat):∀(fuel lo hi:Nat),lo<=hi->hi<=xs.size->hi-lo<=fuel->(∀i,i<lo->xs.getD i j<j)->(∀i,hi<=i->i<xs.size->j<=xs.getD i j) ->
  Im xs j fuel lo hi<=xs.size/\(∀i,i<Im xs j fuel lo hi->xs.getD i j<j)/\(∀i,Im xs j fuel lo hi<=i->i<xs.size->j<=xs.getD i j)
 | 0,lo,hi,h1,h2,h3,a,b=>by
  have e:lo=hi:=by omega
  subst e;exact⟨h2,a,b⟩
 |fuel+1,lo,hi,h1,h2,h3,a,b=>by
  unfold Im;by_cases ah:lo<hi
  .rw[if_pos ah];dsimp only
   have hm:(lo+hi) / 2<hi:=by omega
   have dn:lo<=(lo+hi) / 2:=by omega
   by_cases hc:xs.getD ((lo+hi) / 2) j<j
   .rw[if_pos hc];refine JS h j fuel _ hi (by omega) h2 (by omega) (λi bo=>?_) b;by_cases e:i=(lo+hi) / 2
    .rw[e];exact hc
    .exact Dp (JH h (by omega:i<(lo+hi) / 2) (by omega) j) hc
   .rw[if_neg hc];refine JS h j fuel lo _ dn (by omega) (by omega) a (λi bo dq=>?_);by_cases e:i=(lo+hi) / 2
    .rw[e];omega
    .have:=JH h (by omega:(lo+hi) / 2<i) dq j
     omega
  .rw[if_neg ah]
   have e:lo=hi:=by omega
   subst e;exact⟨h2,a,b⟩
def Ã(h:vG xs)(j:Nat):Ck xs j<=xs.size/\(∀i,i<Ck xs j->xs.getD i j<j)/\(∀i,Ck xs j<=i->i<xs.size->j<=xs.getD i j):=JS h j xs.size 0 xs.size (Bh _) (Ak _) (by omega) (λi hi=>absurd hi (F5 _)) (λi h1 h2=>absurd h2 (Nat.not_lt.mpr h1))
def Yu(h:vG xs)(hn:xs[Ck xs j]?≠some j):vG (Df.insertAt xs (Ck xs j) j):=by
 obtain⟨b1,b2,b3⟩:=Ã h j;unfold vG;rw[Df.toList_insertAt]
 have ge:∀(k:Nat) (hk:k<xs.toList.length),xs.getD k j=xs.toList[k]:=λk hk=>by
  have cb:k<xs.size:=by simpa using hk
  simp[L4,cb]
 rw[Cq];refine⟨h.sublist (F7 _ _),D5.mpr ⟨λy hy=>?_,h.sublist (List.drop_sublist _ _)⟩,λx hx y hy=>?_⟩
 .obtain⟨k,hk,rfl⟩:=Dj hy;rw[E7]at hk;rw[List.getElem_drop]
  have fN:Ck xs j+k<xs.toList.length:=by omega
  have jp:Ck xs j+k<xs.size:=by simpa using fN
  have hb:=b3 _ (Kv _ k) jp;rw[ge _ fN]at hb;rcases Nat.lt_or_ge j (xs.toList[Ck xs j+k]) with z|z
  .exact z
  .exfalso
   have e:xs.toList[Ck xs j+k]=j:=by omega
   by_cases k0:k=0
   .subst k0;apply hn
    have hs:Ck xs j<xs.size:=by simpa using jp
    rw[Array.getElem?_eq_getElem hs];simpa using e
   .have hs:Ck xs j<xs.size:=by omega
    have h1:=JH h (by omega:Ck xs j<Ck xs j+k) jp j;rw[ge _ fN,e]at h1;have h2:=b3 _ (Ak _) hs;omega
 .obtain⟨k,hk,rfl⟩:=Dj hx;rw[D7]at hk;rw[List.getElem_take]
  have fN:k<xs.toList.length:=by omega
  have h1:=b2 k (by omega);rw[ge k fN]at h1;rcases Ad.mp hy with z|z
  .rw[z];exact h1
  .obtain⟨m,hm,rfl⟩:=Dj z;rw[E7]at hm;rw[List.getElem_drop]
   have dn:Ck xs j+m<xs.toList.length:=by omega
   have h2:=b3 _ (Kv _ m) (by simpa using dn);rw[ge _ dn]at h2;omega
def OP{t:Df}(h:t.slot j = .empty\/t.slot j = .dummy):t.place[Ck t.place j]?≠some j:=λz=>by unfold Df.slot at h;dsimp only at h;rw[z]at h;simp at h
theorem KC{t:Df}:∀(fuel:Nat) (p:Df.Probe) (j:Nat) (d:Option Nat),(∀d',p.dummy=some d'->t.slot d' = .dummy)->Df.probe.go t f h fuel p=some (.empty j d)->t.slot j = .empty/\∀d',d=some d'->t.slot d' = .dummy
 | 0,p,j,d,_,e=>by cases e
 |fuel+1,p,j,d,hp,e=>by
  have adv:∀q:Df.Probe,(t.advance q).dummy=q.dummy:=λq=>by
   unfold Df.advance
   split<;>rfl
  unfold Df.probe.go at e;split at e
  .rename_i hs;cases e;exact⟨hs,hp⟩
  .rename_i hs;refine KC fuel _ j d (λd' hd=>?_) e;rw[adv]at hd;cases hd;exact hs
  .split at e
   .cases e
   .refine KC fuel _ j d (λd' hd=>?_) e;rw[adv]at hd;exact hp d' hd
def Vv{t:Df}{j:Nat}{b:Bool}(e:t.freeSlot h=some (j,b)):t.place[Ck t.place j]?≠some j:=by
 unfold Df.freeSlot at e;split at e
 .rename_i k d hp
  have:=KC (t:=t) _ _ k d (λd' hd=>by
   unfold Df.probeStart at hd
   cases hd) hp
  cases e
  cases d with
  |none=>exact OP (.inl this.1)
  |some d'=>exact OP (.inr (this.2 d' rfl))
 .cases e
def Tb(L:Bool)(t:Df):Prop:=(t.plain=true->vG t.place)/\t.led=L
def DB(h:Tb L t)(n:Nat):Tb L (t.standIn n):=⟨(λz=>by cases z),h.2⟩
def Xf(hT:Tb L t)(es:Array (Int×Ac))(h:Int)(x:Ac):Tb L (layNew t es h x).2.1:=by
 unfold layNew;split
 .rename_i slot wd hs;dsimp only;unfold Df.orStandIn
  have iB:Tb L (t.put slot).1:=by unfold Df.put;refine⟨λz=>?_,hT.2⟩;exact Yu (hT.1 z) (Vv hs)
  split
  .exact iB
  .exact DB iB _
 .exact DB hT _
def We(hT:Tb L t)(es:Array (Int×Ac))(cE:Nat):Tb L (Lm t es cE).2.1:=by
 unfold Lm;split
 .rename_i t' order hr;dsimp only;split
  .unfold Df.relaid Df.laid at hr
   cases ho:Df.layClean (Df.sizeAbove cE-1) (es.map (·.1)) with
   |none=>rw[ho]at hr;cases hr
   |some owner=>
    rw[ho]at hr;simp only[Option.bind_eq_bind,Option.bind_some,Option.pure_def,Option.some.injEq,Prod.mk.injEq]at hr;obtain⟨rfl,_⟩:=hr;refine⟨λ_=>?_,hT.2⟩;unfold vG;show Kn _ (((Aa (Df.sizeAbove cE-1+1)).filterMap λj=>(owner.getD j none).map (j,·)).map (·.1));rw[Br,List.pairwise_filterMap];refine Ej.imp λ{a b} cN p hp q hq=>?_
    obtain⟨k,_,rfl⟩:=Bj.mp hp;obtain⟨m,_,rfl⟩:=Bj.mp hq;exact cN
  .exact DB hT _
 .exact DB hT _
theorem erase_perm{α:Type}:∀(l:List α) (i:Nat) (h:i<l.length),l.Perm (l[i]::l.eraseIdx i)
 | [],i,h=>absurd h (F5 _)
 |x::l,0,_=>Gu _
 |x::l,i+1,h=>by
  have hi:i<l.length:=by simpa using h
  have ih:=erase_perm l i hi;show (x::l).Perm (l[i]::x::l.eraseIdx i);exact(ih.cons x).trans (Ln _ _ _)
abbrev FI(w:Cg):Bool:=w.params.followText "set-order"
def n5(prog:By)(w:Cg)(h:Cl)(a:Aw)(ms:List Int):Prop:=∃o es ep t,h.get? a=some o/\o.ExactSet/\o.data = .set es ep t/\ElemsOf (Gj prog w) es.toList/\C2 (es.toList.map (·.2)) ms/\ms.Nodup/\es.size<Iv/\t.fits es.size=true/\Tb (!FI w) t
theorem Ox{vs jf:List Ac}(p:jf.Perm vs):∀{ns:List Int},C2 vs ns->∃bH,C2 jf bH/\bH.Perm ns:=by
 induction p with
 |nil=>exact λh=>⟨_,h,Gu _⟩
 |cons x p ih=>
  intro ns h
  cases h with
  |cons n t h'=>obtain⟨bH,h1,h2⟩:=ih h';exact⟨n::bH,.cons n t h1,h2.cons n⟩
 |swap x y l=>
  intro ns h
  cases h with
  |cons n t h'=>
   cases h' with
   |cons m u h''=>exact⟨_,.cons m u (.cons n t h''),Ln _ _ _⟩
 |trans p1 p2 ih1 ih2=>intro ns h;obtain⟨n1,h1,q1⟩:=ih2 h;obtain⟨n2,h2,q2⟩:=ih1 h1;exact⟨n2,h2,q2.trans q1⟩
theorem Oy:∀{vs:List Ac} {ns:List Int},C2 vs ns->C2 (vs++[.int k t]) (ns++[k])
 |_,_,.nil=>.cons k t .nil
 |_,_,.cons n u h=>.cons n u (Oy h)
theorem QY:∀{vs:List Ac} {ns:List Int} {k:Int},C2 vs ns->(k∈ns↔∃t,Gw k t∈vs)
 |_,_,k,.nil=>by simp
 |_,_,k,.cons n t h=>by
  have ih:=QY (k:=k) h;rw[Ad];constructor
  .rintro (z|z)
   .rw[z];exact⟨t,A6⟩
   .obtain⟨u,hu⟩:=ih.mp z;exact⟨u,A7 _ hu⟩
  .rintro ⟨u,hu⟩;rcases Ad.mp hu with z|z
   .cases z;exact .inl rfl
   .exact .inr (ih.mpr ⟨u,z⟩)
section
variable{prog:By}{w:Cg}{A:C6}{E:VP}{s:Am}
def SC{es:List (Int×Ac)}(hi:C2 (es.map (·.2)) ms):(∃e∈es,(Gj prog w).is k e.2=true)↔k∈ms:=by
 rw[QY hi];constructor
 .rintro ⟨e,he,hk⟩;have hm:e.2∈es.map (·.2):=Bq he;obtain⟨n,t,hn⟩:∃n t,e.2=Gw n t:=hi.all _ hm
  have:k=n:=(Gj prog w).inj e.2 k n hk (by rw[hn];exact intKind_is _ _ _ _)
  subst this;exact⟨t,by rw[<-hn];exact hm⟩
 .rintro ⟨t,ht⟩;obtain⟨e,he,hv⟩:=Ah.mp ht;exact⟨e,he,by rw[hv];exact intKind_is _ _ _ _⟩
theorem Ϙ{k:Int}{Q:Bool->Am->Prop}(hS:n5 prog w s.heap a ms)(hroom:ms.length+1<Iv)(h:∀b h' bI,F6 a s.heap h'->n5 prog w h' a bI->(∀x,x∈bI↔x∈ms\/x=k)->bI.length<=ms.length+1->Q b { s with heap:=h' }):
  Ar (B2 prog w) A (setAddHashed a (.int k tk) ((Gj prog w).hash k)) Q E s:=by
 obtain⟨o,es,ep,t,ho,dg,hd,gH,hi,ay,hb,hf,hT⟩:=hS
 have ab:es.size=ms.length:=by
  have:=hi.length
  rw[A0,B1]at this;exact this
 have bp:(Gj prog w).is k (.int k tk)=true:=intKind_is _ _ _ _;unfold setAddHashed setAddHashedIn;refine Cu (A4 (wpAny_setState_of ho hd hf ?_));dsimp only;rw[byScan_of (knd:=Gj prog w) rfl hb gH];simp only[↓reduceIte];unfold setAddByScan;refine A4 (A4 (Hu (A4 (wpAny_setScan_of bp ho hd hf gH ?_))))
 cases hr:List.findIdx? (λe=>(Gj prog w).is k e.2) es.toList with
 |some j=>
  dsimp only;obtain⟨hj,hpj,_⟩:=List.findIdx?_eq_some_iff_getElem.mp hr;have hm:k∈ms:=(SC hi).mp ⟨es.toList[j],Bo hj,hpj⟩;refine wpAny_pure (wpAny_pure ?_)
  have e:s={ s with heap:=s.heap }:=by cases s;rfl
  rw[e];exact h _ s.heap ms (F6.refl a s.heap) ⟨o,es,ep,t,ho,dg,hd,gH,hi,ay,hb,hf,hT⟩ (λx=>⟨.inl,λz=>z.elim id λq=>q▸hm⟩) (Dq _)
 |none=>
  dsimp only
  have hm:k∉ms:=λz=>by
   obtain⟨e,he,hp⟩:=(SC (prog:=prog) (w:=w) hi).mpr z
   have:=List.findIdx?_eq_none_iff.mp hr e he
   rw[hp]at this;cases this
  have hgw:∀(b:Bool) {s₁:Am} {Q':Unit->Am->Prop},Q' () s₁->Ar (B2 prog w) A (match b with|true=>rule "set.scan.the-table-gave-way" |false=>Cj ()) Q' E s₁:=λb s₁ Q' hq=>by cases b<;>first|exact wpAny_pure hq|exact Hu hq
  have bK:=layNew_perm t es ((Gj prog w).hash k) (.int k tk);have cH:=layNew_fits t es ((Gj prog w).hash k) (.int k tk);have fK:=Xf hT es ((Gj prog w).hash k) (.int k tk);generalize hL:layNew t es ((Gj prog w).hash k) (.int k tk)=Lx at bK cH fK ⊢;obtain⟨bi,t1,wd,gave⟩:=Lx;dsimp only at bK cH fK ⊢;rw[Array.toList_push]at bK;have hel1:ElemsOf (Gj prog w) bi.toList:=(gH.push bp rfl).perm bK
  obtain⟨gE,cY,eC⟩:∃gE,C2 (bi.toList.map (·.2)) gE/\gE.Perm (ms++[k]):=by have p2:(bi.toList.map (·.2)).Perm ((es.toList++[((Gj prog w).hash k,Gw k tk)]).map (·.2)):=bK.map _;refine Ox p2 ?_;rw[B9];exact Oy hi
  have hnd1:gE.Nodup:=eC.nodup_iff.mpr (C5.mpr ⟨ay,by simp,λx hx y hy z=>hm (by rw[Ae.mp hy]at z;exact z▸hx)⟩)
  have hsz1:bi.size=ms.length+1:=by rw[<-B1,bK.length_eq,Af,B1,ab];rfl
  have gN:bi.size<Iv:=by omega
  have jt:∀x,x∈gE↔x∈ms\/x=k:=λx=>by rw[eC.mem_iff,Aq,Ae]
  have aZ:gE.length<=ms.length+1:=by rw[eC.length_eq,Af];exact Ak _
  have fw:∀{h0:Cl} {o0:Jp} {es0:Array (Int×Ac)} {iZ:Nat} {t0 t2:Df} {cw:Array (Int×Ac)},h0.get? a=some o0->o0.ExactSet->o0.data = .set es0 iZ t0->cw.toList.Perm bi.toList->t2.fits cw.size=true->Tb (!FI w) t2 ->
    (h0.update a (L9 cw t2)).get? a=some { o0 with data:=.set cw (iZ+1) t2 }/\∃cg,n5 prog w (h0.update a (L9 cw t2)) a cg/\(∀x,x∈cg↔x∈ms\/x=k)/\cg.length<=ms.length+1:=λ{h0 o0 es0 iZ t0 t2 cw} g0 x0 d0 p2 f2 b2=>by
   have hg:(h0.update a (L9 cw t2)).get? a=some { o0 with data:=.set cw (iZ+1) t2 }:=by
    have:=Gh (L9 cw t2) g0 (by rw[putSet_of cw t2 d0];rfl)
    rw[putSet_of cw t2 d0]at this;exact this
   obtain⟨cg,dq,fC⟩:=Ox (p2.map (·.2)) cY
   have hsz2:cw.size=bi.size:=by rw[<-B1,p2.length_eq,B1]
   exact⟨hg,cg,⟨_,cw,iZ+1,t2,hg,x0,rfl,hel1.perm p2,dq,fC.nodup_iff.mpr hnd1,by rw[hsz2];exact gN,f2,b2⟩,λx=>by rw[fC.mem_iff];exact jt x,by rw[fC.length_eq];exact aZ⟩
  have tail:∀(t2:Df),t2.fits bi.size=true->Tb (!FI w) t2->∀{R:Option Bool->Am->Prop},(∀h',F6 a s.heap h'->(∃cg,n5 prog w h' a cg/\(∀x,x∈cg↔x∈ms\/x=k)/\cg.length<=ms.length+1)->R (some true) { s with heap:=h' })->∀{g:Bool->Sem Unit},
    (∀(b:Bool) (s₁:Am) (Q':Unit->Am->Prop),Q' () s₁->Ar (B2 prog w) A (g b) Q' E s₁) ->
    Ar (B2 prog w) A (do
     storeSet a bi t2
     if (!wd&&t2.tooFull)=true then do
       g (Lm t2 bi (Fu bi.size)).2.2
       storeSet a (Lm t2 bi (Fu bi.size)).1 (Lm t2 bi (Fu bi.size)).2.1
       Cj (some true)
      else Cj (some true)) R E s:=λt2 f2 b2 {R} hR {g} hg=>by
   refine A4 (wpAny_storeSet_of ho hd ?_ (fits_of_scanBound gN));obtain⟨g1,ms1',G1⟩:=fw ho dg hd (Gu _) f2 b2;have sb1:=Di s.heap a (L9 bi t2);split
   .have hp:=relayAll_perm t2 bi (Fu bi.size);have bC:=relayAll_fits t2 bi (Fu bi.size);have htr:=We b2 bi (Fu bi.size);generalize Lm t2 bi (Fu bi.size)=Rl at hp bC htr ⊢;obtain⟨cw,t3,gave2⟩:=Rl;dsimp only at hp bC htr ⊢
    have hsz:cw.size=bi.size:=by rw[<-B1,hp.length_eq,B1]
    refine A4 (hg _ _ _ (A4 (wpAny_storeSet_of g1 rfl ?_ (fits_of_scanBound (by rw[hsz];exact gN)))))
    obtain⟨_,ms2',G2⟩:=fw g1 dg rfl hp bC htr;exact wpAny_pure (hR _ (sb1.trans (Di _ a _)) ⟨ms2',G2⟩)
   .exact wpAny_pure (hR _ sb1 ⟨ms1',G1⟩)
  refine A4 (hgw _ ?_);have jk:∀h',F6 a s.heap h'->(∃cg,n5 prog w h' a cg/\(∀x,x∈cg↔x∈ms\/x=k)/\cg.length<=ms.length+1)->Q true { s with heap:=h' }:=λh' sb ⟨cg,G,m,l⟩=>h _ h' cg sb G m l;have hgg:∀(b:Bool) (s₁:Am) (Q':Unit->Am->Prop),Q' () s₁->Ar (B2 prog w) A (match b with|true=>rule "set.scan.the-table-gave-way" |false=>Cj ()) Q' E s₁:=λb s₁ Q' q=>hgw b q
  split
  .refine A4 ?_;rw[hashByValue_scannable 8 rfl];refine wpAny_pure ?_;refine tail _ ?_ ?_ (λh' sb z=>?_) hgg
   .exact cH
   .exact fK
   .dsimp only;exact wpAny_pure (jk h' sb z)
  .refine A4 (wpAny_pure ?_);simp only[↓reduceIte];refine tail _ cH fK (λh' sb z=>?_) hgg;dsimp only;exact wpAny_pure (jk h' sb z)
theorem PL{it S:Aw}{val:Nat->Int}{R:Kj->Am->Prop}(W:Mp prog w A.in1 it fp [it] n (λi v=>∃t,v = .int (val i) t) Sx)(gU:S∉fp)(bV:it∈fp)(hb:n+1<Iv):
  ∀(r i:Nat) (s:Am) (ms:List Int),n-i=r->i<=n->Sx i s.heap->n5 prog w s.heap S ms->ms.length<=i ->
   (∀h' tk bI,(∀b o,b≠S->b≠it->s.heap.get? b=some o->h'.get? b=some o)->n5 prog w h' S bI->(∀x,x∈bI↔x∈ms\/∃j,i<=j/\j<n/\x=val j)->R (.ok (.ret .none)) { s with heap:=h',toks:=tk }) ->
   E8 (B2 prog w) A (.builtin "set.update.loop" ⟨[.ref S,.ref it],[]⟩) R s
 | 0,i,s,ms,hr,hi,hx,hS,hl,hR=>by
  have dR:i=n:=by omega
  subst dR;have hSi:S≠it:=λz=>gU (z▸bV);refine codeAny_builtin PyProof.Rows.F.entry_set_update_loop ?_;rw[Ch Eh _];show Ar _ A.in1 (Ki (.ref it) >>= _) _ _ s;refine A4 (W.done s _ _ hx λh' tk hk=>wpAny_pure (hR h' tk ms (λb o _ h2 e=>hk b o (by simpa using h2) e) ?_ λx=>?_))
  .obtain⟨o,es,ep,t,ho,z⟩:=hS;exact⟨o,es,ep,t,hk _ _ (by simpa using hSi) ho,z⟩
  .constructor
   .exact .inl
   .rintro (z|⟨j,h1,h2,_⟩)
    .exact z
    .omega
 |r+1,i,s,ms,hr,hi,hx,hS,hl,hR=>by
  have ah:i<n:=by omega
  have hSi:S≠it:=λz=>gU (z▸bV);refine codeAny_builtin PyProof.Rows.F.entry_set_update_loop ?_;rw[Ch Eh _];show Ar _ A.in1 (Ki (.ref it) >>= _) _ _ s;refine A4 (W.item i s _ _ ah hx λv h1 tk1 hv hx1 hk1=>?_);obtain⟨t,rfl⟩:=hv
  have dW:n5 prog w h1 S ms:=by obtain⟨o,es,ep,t,ho,z⟩:=hS;exact⟨o,es,ep,t,hk1 _ _ (by simpa using hSi) ho,z⟩
  show Ar _ A.in1 (Gx [Gw (val i) t] (setAdd S (.int (val i) t)) >>= _) _ _ _;refine A4 (Cu ?_);unfold setAdd;refine Cu (A4 ((Gj prog w).pyHash (k:=val i) (intKind_is _ _ _ _) ?_));refine Ϙ dW (by omega) λb h2 cg sb hS2 dn hl2=>?_;refine wpAny_pure ⟨plainId_quiet Eh _,PL W gU bV hb r (i+1) _ cg (by omega) ah ?_ hS2 (by omega) λh3 tk3 ms3 jp hS3 hm3=>?_⟩
  .exact W.frame _ _ _ hx1 λb aP o e=>(sb.2 b (λz=>gU (z▸aP))).trans e
  .refine hR h3 tk3 ms3 (λb o n1 n2 e=>jp b o n1 n2 ((sb.2 b n1).trans (hk1 b o (by simpa using n2) e))) hS3 λx=>?_;rw[hm3,dn];constructor
   .rintro ((z|z)|⟨j,h1,h2,h3⟩)
    .exact .inl z
    .exact .inr ⟨i,Ak _,ah,z⟩
    .exact .inr ⟨j,by omega,h2,h3⟩
   .rintro (z|⟨j,h1,h2,h3⟩)
    .exact .inl (.inl z)
    .by_cases e:j=i
     .subst e;exact .inl (.inr h3)
     .exact .inr ⟨j,by omega,h2,h3⟩
end
def UZ:Mh (.type "tuple") (.type "set")=Cj false:=by rw[isSubtype_type];kernel_rfl
def YW:Mh (.type "tuple") (.type "frozenset")=Cj false:=by rw[isSubtype_type];kernel_rfl
section
variable{prog:By}{w:Cg}{A:C6}{E:VP}{s:Am}
abbrev rJ(w:Cg):Jp:={ cls:=.type "set",dict:=none,data:=.set #[] 0 (.fresh 0 0 (!FI w)) }
def ų(a:Ac){Q₁:VP}(h:Q₁ (.ref s.heap.objs.size) { s with heap:=s.heap.push (rJ w) }):
  E8 (B2 prog w) A (.call (.builtin "set.__new__") ⟨[.type "set",a],[]⟩) (wants Q₁ E) s:=by
 refine codeAny_of_tree ?_;show Ar _ A.in1 (do checkBuiltinCall "set.__new__" ⟨[.type "set",a],[]⟩;Mq (.builtin "set.__new__" ⟨[.type "set",a],[]⟩)) _ _ s
 refine A4 (Ia (F.newCall_set_1 a) (wpAny_pure ⟨plainId_quiet F.plain_set_new _,codeAny_builtin F.entry_set_new ?_⟩));rw[Ch F.plain_set_new _];unfold D0.«set.__new__» D0.Frozenset.newClass;have ck:=sub_set_self;obtain⟨hp,g,d,tk,os⟩:=s;dsimp only
 wp_walk
 refine wpAny_askSetting (wpAny_pure ?_);dsimp only;simp only[newObj];exact A4 (wpAny_alloc (wpAny_pure (wpAny_pure h)))
def Ň{h:Cl}{a:Aw}(ho:h.get? a=some (rJ w)):n5 prog w h a []:=
 ⟨_,#[],0,_,ho,⟨rfl,rfl,rfl⟩,rfl,λe he=>by simp at he,.nil,Dm,by decide,by rfl,λ_=>Ed,rfl⟩
theorem QL{l:Aw}{ol:Jp}{val:Nat->Int}{oI:Jp}{Q:VP}(ff:s.heap.get? l=some ol)(az:ol.cls = .type T)(gv:Mh (.type T) (.type "set")=Cj false)(bD:Mh (.type T) (.type "frozenset")=Cj false)(ak:(D3 T==D3 "dict")=false)(hoI:oI.isFreed=false)(iq:∀(A':C6) (E':VP) (s':Am) (Q':VP),s'.heap.get? l=some ol->Q' (.ref s'.heap.objs.size) { s' with heap:=s'.heap.push oI }->Ar (B2 prog w) A' (Mn (.ref l)) Q' E' s')(hW:Mp prog w A.in1.in1.in1 (s.heap.objs.size+1) [s.heap.objs.size+1,l] [s.heap.objs.size+1] n (λi v=>∃t,v = .int (val i) t) Sx)(hx:∀h,h.get? l=some ol->h.get? (s.heap.objs.size+1)=some oI->Sx 0 h)(hb:n+1<Iv)(h:∀(h':Cl) (tk:Nat) (ms:List Int),n5 prog w h' s.heap.objs.size ms->(∀x,x∈ms↔∃j,j<n/\x=val j)->(∀b o,s.heap.get? b=some o->h'.get? b=some o)->Q (.ref s.heap.objs.size) { s with heap:=h',toks:=tk }):
  Ar (B2 prog w) A (call (.type "set") [.ref l]) Q E s:=by
 obtain⟨c,tl,hmro⟩:=F.called_set.mro;have hmade:=F.called_set.made;have ck:=F.called_set.sub;refine Mr (codeAny_of_tree ?_);show Ar _ _ (callAny (.type "set") _) _ _ _;refine wpAny_pure ⟨Code.quiet_builtin _ (by decide +kernel),codeAny_builtin F.entry_type_call ?_⟩;rw[C6.under_plain (weight_type_call_type "set" [.ref l] []) rfl];have h1:=F.called_set.notType;have h2:=F.called_set.canCreate
 have hct:=F.typeCall_set_1 (.ref l)
 repeat (any_goals (first|assumption|wp_step))
 refine Jm (ų (.ref l) (E:=E) (Q₁:=λobj s₁=>obj = .ref s.heap.objs.size/\s₁={ s with heap:=s.heap.push (rJ w) }) ⟨rfl,rfl⟩) λr s₁ hr=>?_
 cases r with
 |error e=>exact hr
 |ok fl=>
  cases fl with
  |ret obj=>
   obtain⟨rfl,rfl⟩:=hr;have hS:(s.heap.push (rJ w)).get? s.heap.objs.size=some (rJ w):=Au _ rfl;have hT:Am.TypeIs { s with heap:=s.heap.push (rJ w) } (.ref s.heap.objs.size) "set":=⟨_,hS,rfl⟩;have hli:=F.called_set.init.lookup;have hbi:=F.called_set.init.bind (.ref s.heap.objs.size)
   repeat (any_goals (first|assumption|wp_step))
   refine Jm (codeAny_call_builtin (R:=wants (λr s₂=>r = .none/\∃h' tk ms,s₂={ s with heap:=h',toks:=tk }/\n5 prog w h' s.heap.objs.size ms/\(∀x,x∈ms↔∃j,j<n/\x=val j) /\
     (∀b o,s.heap.get? b=some o->h'.get? b=some o)) E) F.called_set.init.plain F.entry_set_init (check_set_init_1 hT ?_)) λr₂ s₂ hr₂=>?_
   .obtain⟨ocls,hX,iW,fy⟩:=ol;have hcl':ocls = .type T:=az;subst hcl';have jo:(s.heap.push (rJ w)).get? l=some { cls:=.type T,dict:=hX,data:=iW,slots:=fy }:=A8 _ ff;unfold D0.«set.__init__» noKeywords D0.Frozenset.updateFrom;generalize hPI:Mn=PI
    wp_walk
    subst hPI;refine iq _ _ _ _ jo ?_;have hz:(s.heap.push (rJ w)).objs.size=s.heap.objs.size+1:=Dy ..;rw[hz];refine A4 (Ll ?_);have hlS:l<s.heap.objs.size:=Ao ff
    have gU:s.heap.objs.size∉[s.heap.objs.size+1,l]:=by simp only[Ad,Eo,or_false,not_or];exact⟨At (Em _),D4 hlS⟩
    have gI:((s.heap.push (rJ w)).push oI).get? (s.heap.objs.size+1)=some oI:=by have g:=Au (s.heap.push (rJ w)) (o:=oI) hoI;rw[hz]at g;exact g
    refine PL hW gU A6 hb (n-0) 0 _ [] rfl (Bh _) (hx _ (A8 _ jo) gI) (Ň (A8 _ hS)) (Bh _) λh' tk ms hk hG hm=>?_;refine wpAny_pure (wpAny_pure ⟨rfl,h',tk,ms,rfl,hG,λx=>?_,λb o e=>?_⟩)
    .rw[hm];constructor
     .rintro (z|⟨j,_,z⟩)
      .cases z
      .exact⟨j,z⟩
     .rintro ⟨j,z⟩;exact .inr ⟨j,Bh _,z⟩
    .have gN:=Ao e;exact hk b o (At gN) (At (Ca gN)) (A8 _ (A8 _ e))
   .cases r₂ with
    |error e=>exact hr₂
    |ok fl₂=>
     cases fl₂ with
     |ret r=>
      obtain⟨rfl,h',tk,ms,rfl,hG,hm,hk⟩:=hr₂
      repeat (any_goals (first|assumption|wp_step))
      exact h _ _ _ hG hm hk
     |_=>exact hr₂.elim
  |_=>exact hr.elim
end
end L3
namespace L3
open PySem PySem.Spec PyProof.Rows L2 PySem.SeqAt
def nW:List Int->List Int
 | []=>[]
 |x::xs=>if x∈nW xs then nW xs else x::nW xs
theorem yC:∀{xs:List Int} {y:Int},y∈nW xs↔y∈xs
 | [],y=>Iff.rfl
 |x::xs,y=>by
  unfold nW;by_cases h:x∈nW xs
  .rw[if_pos h,yC,Ad];constructor
   .exact .inr
   .rintro (z|z)
    .rw[z];exact yC.mp h
    .exact z
  .rw[if_neg h,Ad,Ad,yC]
theorem DI:∀xs:List Int,(nW xs).Nodup
 | []=>Dm
 |x::xs=>by
  unfold nW;by_cases h:x∈nW xs
  .rw[if_pos h];exact DI xs
  .rw[if_neg h];exact Bm.mpr ⟨h,DI xs⟩
theorem Rr{α:Type}:∀{xs ys:List α},xs.Nodup->ys.Nodup->(∀a,a∈xs↔a∈ys)->xs.Perm ys
 | [],ys,_,_,h=>by
  cases ys with
  |nil=>exact Gu _
  |cons y ys=>exact absurd ((h y).mpr A6) (by simp)
 |x::xs,ys,hx,hy,h=>by
  have hm:x∈ys:=(h x).mp A6;obtain⟨k,hk,e⟩:=Dj hm;have p:=erase_perm ys k hk;rw[e]at p;have hy':=Bm.mp (p.nodup_iff.mp hy);have aG:=Bm.mp hx;refine(List.Perm.cons x (Rr aG.2 hy'.2 λa=>?_)).trans p.symm;constructor
  .intro ha
   have:=p.mem_iff.mp ((h a).mp (A7 _ ha))
   rcases Ad.mp this with z|z
   .rw[z]at ha;exact absurd ha aG.1
   .exact z
  .intro ha
   have:=(h a).mpr (p.mem_iff.mpr (A7 _ ha))
   rcases Ad.mp this with z|z
   .rw[z]at ha;exact absurd ha hy'.1
   .exact z
section
variable{X:Cx}
abbrev MG(X:Cx)(a:Aw)(ms:List Int):HO:=.ext λh=>n5 X.prog X.w h a ms
def Ų(G:n5 X.prog X.w h a ms):lH X.prog X.w H h a (MG X a ms):=by obtain⟨o,es,ep,t,ho,z⟩:=G;refine⟨⟨o,es,ep,t,ho,z⟩,⟨o,ho⟩,λh1 h2 hz k=>?_⟩;obtain⟨o',cZ,eZ,t',bh,z'⟩:=hz;exact⟨o',cZ,eZ,t',k _ bh,z'⟩
def Ĩ(X:Cx):List V->Hp->VK->Prop:=λxs H Q=>∃(p:Aw) (ns:List Int),xs=[.ref p]/\(jE X.K H p (ns.map V.int)\/jF X.K H p (ns.map V.int))/\ns.length+1<Iv/\∀(a:Aw) (ms:List Int),H a=none->ms.Nodup->(∀x,x∈ms↔x∈ns)->Q (.ref a) (upd H a (MG X a ms))
def Yn(hc:X.calm=true):lN X (.type "set") (Ĩ X):=by
 intro aa s U H xs us Q I r h;obtain⟨p,ns,rfl,hq,hb,q⟩:=h;obtain⟨u,rfl,rx⟩:=nH r;cases rx;have hh:X.A.handled=none:=I.ok.hd hc
 have fin:∀(h':Cl) (tk:Nat) (ms:List Int),n5 X.prog X.w h' s.heap.objs.size ms->(∀x,x∈ms↔∃j,j<ns.length/\x=ns.getD j 0)->(∀b o,s.heap.get? b=some o->h'.get? b=some o)->EP X aa U Q (.ref s.heap.objs.size) { s with heap:=h',toks:=tk }:=λh' tk ms G hm hk=>by
  refine⟨.ref s.heap.objs.size,_,I.laid (t':=tk) hk (Ak _) (Ų G),rfl,q _ ms (I.hok.fresh (Ak _)) ?_ λx=>?_⟩
  .obtain⟨o,es,ep,t,ho,dg,hd,gH,hi,ay,_⟩:=G;exact ay
  .rw[hm];constructor
   .rintro ⟨j,hj,rfl⟩;rw[Q4 (A3 hj)];exact Bo hj
   .intro hx;obtain⟨j,hj,e⟩:=Dj hx;exact⟨j,hj,by rw[Q4 (A3 hj),e]⟩
 rcases hq with hq|hq
 .obtain⟨its,rv,pl,hz⟩:=I.list hq;have hi:C2 its ns:=W1 rv;have hl:=hi.length
  have fZ:its.toArray.size=ns.length:=by simp[hl]
  obtain⟨ol,ff,az,nl,jr⟩:=pl.isList;have ao:p<s.heap.objs.size:=Ao ff;have vn:∀(i:Nat) (v:Ac),its.toArray[i]?=some v->∃t,v = .int (ns.getD i 0) t:=λi v hv=>C2.int_at hi i v (by simpa using hv);have W0:=Mp.list (prog:=X.prog) (w:=X.w) (A:=X.A.in1.in1.in1) hh (s.heap.objs.size+1) p (At (Ca ao)) its.toArray
  refine QL (T:="list") (n:=ns.length) (val:=λi=>ns.getD i 0) (oI:={ cls:=.type "list_iterator",data:=.fields #[.ref p,.int 0 0] }) (Sx:=λi h=>h.IsListIter (s.heap.objs.size+1) p i/\h.IsList p its.toArray) ff az F.sub_list_set F.sub_list_frozenset (by decide) rfl
   (λA' E' s' Q' g q'=>Jy ⟨ol,g,az,nl,jr⟩ q')
   ⟨W0.sub,W0.frame,λi s1 Q1 E1 cY st hQ=>W0.item i s1 Q1 E1 (by simpa [hl] using cY) st λv h' tk hP a b=>hQ v h' tk (vn i v hP) a b,λs1 Q1 E1 st hQ=>W0.done s1 Q1 E1 (by rw[fZ];exact st) hQ,W0.self⟩
   (λh' g1 g2=>⟨⟨_,g2,rfl,rfl⟩,⟨ol,g1,az,nl,jr⟩⟩) hb fin
 .obtain⟨its,rv,pl,hz⟩:=I.tuple hq;have hi:C2 its ns:=W1 rv;have hl:=hi.length
  have fZ:its.toArray.size=ns.length:=by simp[hl]
  obtain⟨ol,ff,az,nl,jr⟩:=pl;have ao:p<s.heap.objs.size:=Ao ff;have vn:∀(i:Nat) (v:Ac),its.toArray[i]?=some v->∃t,v = .int (ns.getD i 0) t:=λi v hv=>C2.int_at hi i v (by simpa using hv);have W0:=Mp.tuple (prog:=X.prog) (w:=X.w) (A:=X.A.in1.in1.in1) hh (s.heap.objs.size+1) p (At (Ca ao)) its.toArray
  refine QL (T:="tuple") (n:=ns.length) (val:=λi=>ns.getD i 0) (oI:={ cls:=.type "tuple_iterator",data:=.fields #[.ref p,.int 0 0] }) (Sx:=λi h=>h.IsTupleIter (s.heap.objs.size+1) p i/\h.IsTuple p its.toArray) ff az UZ YW (by decide) rfl
   (λA' E' s' Q' g q'=>Ep ⟨ol,g,az,nl,jr⟩ q')
   ⟨W0.sub,W0.frame,λi s1 Q1 E1 cY st hQ=>W0.item i s1 Q1 E1 (by simpa [hl] using cY) st λv h' tk hP a b=>hQ v h' tk (vn i v hP) a b,λs1 Q1 E1 st hQ=>W0.done s1 Q1 E1 (by rw[fZ];exact st) hQ,W0.self⟩
   (λh' g1 g2=>⟨⟨_,g2,rfl,rfl⟩,⟨ol,g1,az,nl,jr⟩⟩) hb fin
def ũ(X:Cx):List V->Hp->VK->Prop:=λxs H Q=>∃(a:Aw) (ms:List Int),xs=[.ref a]/\H a=some (MG X a ms)/\Q (.int ms.length) H
def UL:lN X (.builtin "len") (ũ X):=by intro aa s U H xs us Q I r h;obtain⟨a,ms,rfl,hH,q⟩:=h;obtain⟨u,rfl,rx⟩:=nH r;cases rx;obtain⟨o,es,ep,t,ho,dg,hd,gH,hi,ay,hb,hf,hT⟩:n5 X.prog X.w s.heap a ms:=(I.hok a _ hH).1;have hl:=hi.length;rw[A0,B1]at hl;refine call_len_set ho dg hd hf (by unfold Iv at hb;omega) ⟨.int ms.length,H,I.tok _,⟨_,by rw[hl]⟩,q⟩
variable{e:Expr}{fa:EL}{p p2 pos aJ:Gm}
def BZ(fa:EL):EL:=λY=>match fa Y with
 |some ds=>(match lE ds with|some ns=>if ns.length<64 then some ((sU (nW ns)).map D.int) else none|none=>none)
 |none=>none
def t9(fa:EL):ED:=λY=>match fa Y with
 |some ds=>(match lE ds with|some ns=>if ns.length<4000 then some (.int (nW ns).length) else none|none=>none)
 |none=>none
def Ŷ{K:A5}{Z:List Aw}{H:Hp}{a:Aw}{xs:List V}{ns:List Int}(hq:jE K H a xs\/jF K (K5 Z H) a xs)(rr:J3 K (K5 Z H) (ns.map D.int) xs):jE K H a (ns.map V.int)\/jF K H a (ns.map V.int):=by rw[Y6]at rr;subst rr;exact hq.imp id (j6 w9)
def Pm(hc:X.calm=true)(hm:X.mg "len" = none)(hms:X.mg "set" = none)(ha:ZQ X e fa)(hg:Gl X "len":=by rfl)(hgs:Gl X "set":=by rfl)(hv:B7 "len" = some (.builtin "len"):=by decide +kernel)(dy:B7 "set" = some (.type "set"):=by decide +kernel)(he:A9 [e] X.env=(false,Bz e X.env)::A9 [] X.env:=by exact u7 rfl)(ao:(Bu aJ (A9 [] X.env)).any (·.1)=false:=by exact J9 rfl)(bS:A9 [.Call (.Name "set" p2) [e] [] aJ] X.env=(false,Bz (.Call (.Name "set" p2) [e] [] aJ) X.env)::A9 [] X.env:=by exact u7 rfl)(dB:(Bu pos (A9 [] X.env)).any (·.1)=false:=by exact J9 rfl):ZE X (.Call (.Name "len" p) [.Call (.Name "set" p2) [e] [] aJ] [] pos) (t9 fa):=
 ⟨have ha:=ha.h;
 u9 (uD UL hg hm hv (J7 (sP (Yn hc) hgs hms dy (J7 ha W6 he) (by decide) (by decide) he ao) W6 bS) (by decide) (by decide) bS dB) λU H Q h_=>by
  refine i7 h_ λY es B H0 V0 Z e1 r q=>?_;unfold t9 at e1;split at e1
  .rename_i ds aH;split at e1
   .rename_i ns hn;split at e1
    .rename_i fj;cases e1;have cV:=Z7 hn;subst cV;refine⟨Y,_,B,H0,V0,Z,aH,r,λa xs H1 s1 hq rr=>⟨a,ns,rfl,Ŷ hq rr,by unfold Iv;omega,λb ms hb ay aK=>?_⟩⟩
     have pm:ms.Perm (nW ns):=Rr ay (DI ns) λx=>by rw[aK,yC]
     refine⟨b,ms,rfl,v4,q _ _ (s1.trans (j8 hb)) (v8.mpr ?_)⟩;rw[pm.length_eq]
    .cases e1
   .cases e1
  .cases e1⟩
end
end L3
namespace L3
open PySem PySem.Spec PyProof.Rows L2
structure kR(K:A5)(mg:Bg->Option Ac)(x:Bg)(st:Db):Prop where
 ex:∃f fd,rY K x x st f fd/\mg x=some (.ref f)/\qH K fd.code x=true
def ľ{P:By}{w:Cg}{K:A5}{mg:Bg->Option Ac}{base:Cl}{x:Bg}{st:Db}{N ps:List Bg}{k n:Nat}{g:EO}(G:kR K mg x st)(S:jR N ps (u8 st))(hb:∀(kV aB pm:Ac) (an:Option Aw) (am ct:Ac) (us:List Ac),us.length=ps.length->Gp (Do x x (p7 st) (mS st) (u8 st) .none kV aB pm an am ct) ⟨us,[]⟩=Cj (ps.zip us))(hn:ps.length=n) (av:∀(f:Aw) (am:Ac) (A:C6) (outer:List Me) (s:Am) (H:Hp) (E:XK),qH K am x=true->h9 k (A.deeper (Jg x (u8 st) s.heap.objs.size f am)) ->
   ZB (o3 m7 P w K mg base N x (u8 st) f am A outer s H E).nox (mS st) g):jV P w K mg base (k+1) x ps (jM n N g):=by
 have av:=λf am A outer s H E hl hr=>(av f am A outer s H E hl hr).h;obtain⟨f,fd,G1,G2,G3⟩:=G.ex;refine⟨f,fd,?_,G2,G1.kp,G1.binds hb⟩;obtain⟨oc,od,kV,aB,pm,an,am,ct,dN,rfl,lk,aO⟩:=G1.ex;refine RN lk aO S (λvs H Q E h=>?_) λA outer s H vs Q E hr h=>?_
 .obtain⟨Z,ds,d,zs,rr,e,q⟩:=h;rw[<-rr.length];unfold jM at e;split at e
  .rename_i hl;rw[hl,hn]
  .cases e
 .obtain⟨Z,ds,d,zs,rr,e,q⟩:=h
  have e2:lA (g (pP N ds))=some d:=by
   unfold jM at e;split at e
   .exact e
   .cases e
  refine⟨_,(av f am A outer s H E G3 hr).nox,?_⟩
  cases ho:g (pP N ds) with
  |none=>rw[ho]at e2;cases e2
  |some o=>
   refine⟨pP N ds,o,Z,H,K5 Z H,Z,ho,RE zs rr,?_⟩;rw[ho]at e2
   cases o with
   |rt d'=>cases e2;exact λv H' s' rv=>q v H' s' rv
   |nx Y=>cases e2;exact λU H' Z' r'=>q .non H' r'.same (mD.mpr rfl)
   |bk _=>cases e2
   |ct _=>cases e2
def BI:ZB X sts (λ_=>none):=
 ⟨λaa s U H E I h=>by
 obtain⟨Y,o,B,H0,V0,Z,e,_⟩:=h
 cases e⟩
theorem mem_look{α:Type}{b:α}:∀{l:List (Aw×α)},l.lookup a=some b->(a,b)∈l
 | [],h=>by cases h
 | (k,v)::l,h=>by
  rw[Bi]at h
  cases hk:a==k with
  |true=>
   rw[hk]at h
   have e:a=k:=by simpa using hk
   cases h;rw[e];exact A6
  |false=>rw[hk]at h;exact A7 _ (mem_look h)
def wT(K:A5)(ts:List (Aw×Bg)):Bool:=
 (K.all λco=>match co.2 with
  |⟨.type "code",_,.fields vs,_⟩=>(match (vs[11]?:Option Ac) with
   |some (.ref P)=>(K.lookup P).isSome||!BB vs||(match (vs[1]?:Option Ac) with|some (.str q _)=>(match ts.lookup P with|some q'=>q==q'|none=>false)|_=>false)
   |_=>true)
  |_=>true)&&(ts.all λpq=>(K.lookup pq.1).isNone&&K.any λco=>Iu K co.1 pq.1)
def XR{K:A5}{ts:List (Aw×Bg)}(h:wT K ts=true){H:Hp}(hH:∀P q,ts.lookup P=some q->H P=some (.tbl #[.str q 0])):TB K H:=λc o vs P h1 h2 h3 h4 h5 h5'=>by
 unfold wT at h;rw[Be]at h;have h6:=En.mp h.1 (c,o) (mem_look h1);obtain⟨cls,dict,data,sl⟩:=o;simp only at h2 h3;subst h2;subst h3
 have h6:(match (vs[11]?:Option Ac) with
   |some (.ref P)=>(K.lookup P).isSome||!BB vs||(match (vs[1]?:Option Ac) with|some (.str q _)=>(match ts.lookup P with|some q'=>q==q'|none=>false)|_=>false)
   |_=>true)=true:=h6
 rw[h4]at h6;dsimp only at h6;rw[h5,h5']at h6;simp only[Option.isSome_none,El,Bool.not_true]at h6;split at h6
 .rename_i q t hq;split at h6
  .rename_i q' hq'
   have e:q=q':=by simpa using h6
   subst e;exact⟨q,t,hq,hH P q hq'⟩
  .cases h6
 .cases h6
def OR{K:A5}{ts:List (Aw×Bg)}(h:wT K ts=true){P:Aw}{q:Bg}(e:ts.lookup P=some q):K.lookup P=none/\∃c,Iu K c P=true:=by unfold wT at h;rw[Be]at h;have h6:=En.mp h.2 (P,q) (mem_look e);rw[Be]at h6;obtain⟨co,_,hc⟩:=Ku.mp h6.2;exact⟨by simpa using h6.1,co.1,hc⟩
theorem Xe{P:By}{K:A5}{fa a:Aw}{x:Bg}{s₁:Am}{vs:List Ac}(KX:K.In s₁.heap)(br:s₁.heap.Ns Cy mg)(hb:s₁.heap.Ns Hr mb)(hbb:∀x:Bg,x≠"__name__"->mb x=B7 x)(hlim:s₁.heap.NoLimit)(hbm:∃bm ob,mg "__builtins__" = some (.ref bm)/\bm≠Hr/\s₁.heap.get? bm=some ob/\ob.cls = .type "module"/\ob.dict=some Hr/\ob.data = .plain)(hg:s₁.gens = #[])(ha:s₁.heap.get? a=some { cls:=.type "list",data:=.seq vs.toArray })(hi:C2 vs ns)(hl:ns.length<=sizeLine)(hr:h9 k Ls)(hJ:wT K ts=true)(iA:∀P q,ts.lookup P=some q->s₁.heap.get? P=some { cls:=.none,data:=.fields #[] })(F:∀base:Cl,K.In base->base.Ns Cy mg->kY P w K mg base m7 k fa fd [x] sp)(gW:∀(s:Am) (u:Ac),M9 s fd ⟨[u],[]⟩ [(x,u)])(fg:∀H:Hp,TB K H->jE K H a (ns.map V.int)->sp [.ref a] H (λv _=>v = .bl true) λ_ _ _=>False):
  E8 (B2 P w) Ls (.call (.ref fa) ⟨[.ref a],[]⟩) (λr s'=>r = .ok (.ret (.bool true))/\OldK s₁.heap s'.heap/\s'.os=s₁.os/\Jl s'.gens) s₁:=by
 have rv:=OU hi;have lenV:=hi.length
 have nota:∀q,ts.lookup a≠some q:=λq z=>by
  have:=iA a q z
  rw[ha]at this;cases this
 have iD:∀H:Hp,(∀b,(∃q,ts.lookup b=some q/\H b=some (.tbl #[.str q 0]))\/(ts.lookup b=none/\(H b=none\/(b=a/\K.lookup a=none/\H a=some (.frz { cls:=.type "list",data:=.seq vs.toArray } (.lst (ns.map V.int)))))))->jE K H a (ns.map V.int) ->
   E8 (B2 P w) Ls (.call (.ref fa) ⟨[.ref a],[]⟩) (λr s'=>r = .ok (.ret (.bool true))/\OldK s₁.heap s'.heap/\s'.os=s₁.os/\Jl s'.gens) s₁:=λH hH hS=>by
  have hok:lB P w H s₁.heap:=λb u z=>by
   rcases hH b with⟨q,e1,e2⟩|⟨e1,e2|⟨rfl,_,e2⟩⟩
   .rw[e2]at z;cases z;exact⟨#[],iA b q e1,trivial,λp v c=>by cases c⟩
   .rw[e2]at z;cases z
   .rw[e2]at z;cases z;exact⟨ha,by rw[A0];exact hl,vs,_,rv,ha⟩
  have bQ:∀{b:Aw} {o:Jp},s₁.heap.get? b=some o->H b=none->(sY s₁.heap H).get? b=some o:=λe n=>Î e n
  have eO:∀{b:Aw} {o:Jp} {es:Array DictEntry} {ep:Nat},s₁.heap.get? b=some o->o.data = .dict es ep->H b=none:=λ{b o es ep} e d=>by
   rcases hH b with⟨q,e1,e2⟩|⟨e1,e2|⟨rfl,_,e2⟩⟩
   .have:=iA b q e1
    rw[e]at this;cases this;cases d
   .exact e2
   .rw[ha]at e;cases e;cases d
  have noM:∀{b:Aw} {o:Jp},s₁.heap.get? b=some o->o.data = .plain->H b=none:=λ{b o} e d=>by
   rcases hH b with⟨q,e1,e2⟩|⟨e1,e2|⟨rfl,_,e2⟩⟩
   .have:=iA b q e1
    rw[e]at this;cases this;cases d
   .exact e2
   .rw[ha]at e;cases e;cases d
  have nsK:∀{b:Aw} {m:Bg->Option Ac},s₁.heap.Ns b m->(sY s₁.heap H).Ns b m:=λ{b m} ⟨o,es,ep,e,d,r⟩=>⟨o,es,ep,bQ e (eO e d),d,r⟩
  have hKb:K.In (sY s₁.heap H):=λb o e=>bQ (KX b o e) (by
   rcases hH b with⟨q,e1,e2⟩|⟨e1,e2|⟨rfl,e3,e2⟩⟩
   .rw[(OR hJ e1).1]at e;cases e
   .exact e2
   .rw[e3]at e;cases e)
  have hM:Mod K mg (sY s₁.heap H):=⟨hKb,nsK br,⟨mb,nsK hb,hbb⟩,(let ⟨mc,h1,h2⟩:=hlim;⟨mc,nsK h1,h2⟩),let ⟨bm,ob,m1,m2,m3,m4,m5,m6⟩:=hbm;⟨bm,ob,m1,m2,bQ m3 (noM m3 m6),m4,m5,m6⟩⟩
  have e0:tM P w K mg (sY s₁.heap H) Ls [] s₁ H:=⟨rfl,hM,λb o e=>Ŗ e,Nat.le_of_eq (WZ _ _),trivial,λb hb=>absurd (show b∈([]:List Aw) from hb) (by simp),hok,.of_eq hg⟩
  have tb:TB K H:=XR hJ λQ q e=>by
   rcases hH Q with⟨q',e1,e2⟩|⟨e1,_⟩
   .rw[e]at e1;cases e1;exact e2
   .rw[e]at e1;cases e1
  refine Jm ((F _ hKb (nsK br)).run Ls [] s₁ H ⟨[.ref a],[]⟩ [.ref a] [.ref a] _ _ hr e0 (gW s₁ (.ref a)) (.cons rfl .nil) (fg H tb hS)) λr s' h=>?_
  cases r with
  |error e=>exact Fg h
  |ok fl=>
   cases fl with
   |next=>exact Fg h
   |brk=>exact Fg h
   |cont=>exact Fg h
   |ret u=>
    obtain⟨v,H',os,bare,un,ix,r',q⟩:=h;have q':v = .bl true:=q;subst q'
    obtain rfl:u=M5 true:=r'
    refine⟨rfl,⟨λb o e=>?_,λb o e=>un.there b o e (by simp)⟩,os,bare⟩;rcases hH b with⟨q,e1,e2⟩|⟨e1,e2|⟨rfl,_,e2⟩⟩
    .obtain⟨more,z2⟩:=un.tbls b _ e2;obtain⟨qs,z3,_⟩:=ix b _ z2;have e3:=iA b q e1;rw[e]at e3;cases e3;obtain⟨c,hc⟩:=(OR hJ e1).2;have ct:=(PySem.W.CodeHd.tab (PySem.W.codeHd_of_K KX hc) e).isCodeTable;exact .inr (.inl ⟨ct,rfl,#[],qs,rfl,by rw[z3];simp⟩)
    .exact .inl (un.keep b o e e2 (by intro z;exact absurd (show b∈([]:List Aw) from z) (by simp)) (by simp))
    .have z2:=un.frzs b _ _ e2;obtain⟨z3,_⟩:=ix b _ z2;rw[ha]at e;cases e;exact .inl z3
 cases hk:K.lookup a with
 |some o=>
  have e:=KX a o hk;rw[ha]at e;cases e;refine iD (λb=>(ts.lookup b).map λq=>.tbl #[.str q 0]) (λb=>?_) (.inr ⟨_,vs.toArray,_,hk,rfl,rfl,rfl,by rw[Ag,lenV];exact hl,by simpa using rv⟩)
  cases aP:ts.lookup b with
  |none=>exact .inr ⟨rfl,.inl rfl⟩
  |some q=>exact .inl ⟨q,rfl,rfl⟩
 |none=>
  refine iD (λb=>if b=a then some (.frz { cls:=.type "list",data:=.seq vs.toArray } (.lst (ns.map V.int))) else (ts.lookup b).map λq=>.tbl #[.str q 0]) (λb=>?_) (.inl (.inr ⟨{ cls:=.type "list",data:=.seq vs.toArray },if_pos rfl⟩));by_cases hba:b=a
  .subst hba;refine .inr ⟨?_,.inr ⟨rfl,hk,if_pos rfl⟩⟩
   cases aP:ts.lookup b with
   |none=>rfl
   |some q=>exact absurd aP (nota q)
  .cases aP:ts.lookup b with
   |none=>exact .inr ⟨rfl,.inl (if_neg hba)⟩
   |some q=>exact .inl ⟨q,rfl,if_neg hba⟩
def Wn{l:Lf}{n k:Nat}{q:By}{YP:Cg->Cl->Prop}{d:DefRec}{K:Params->A5}{sp:Cg->Sp}{x:Bg}(ts:List (Aw×Bg))(hn:l.most=some n)(hn2:n<=sizeLine)(iM:d.params.defaults=[])(hr:h9 k Ls)(hY:∀(w:Cg) (h:Cl),YP w h->(K w.params).In h)(hT:∀(w:Cg) (h:Cl),YP w h->∀P q,ts.lookup P=some q->h.get? P=some { cls:=.none,data:=.fields #[] })(hK:∀w:Cg,wT (K w.params) ts=true)
  (F:∀(w:Cg) (mg:Bg->Option Ac) (fa:Aw) (h:Cl),(K w.params).In h->h.Ns Cy mg->mg d.name=some (.ref fa) ->
   ∃fd:Go,(∀(s:Am) (u:Ac),M9 s fd ⟨[u],[]⟩ [(x,u)]) /\
    ∀base:Cl,(K w.params).In base->base.Ns Cy mg->kY l.prog w (K w.params) mg base m7 k fa fd [x] (sp w))
  (fg:∀(w:Cg) (H:Hp) (a:Aw) (ns:List Int),ns.length<=n->TB (K w.params) H->jE (K w.params) H a (ns.map V.int)->sp w [.ref a] H (λv _=>v = .bl true) λ_ _ _=>False):
  PySem.W.WalkO q loose XP YP l.row.toRowW d [] (λf vs=>Mw f vs):=by
 refine Att.attach_call hn iM λw s₀ s₁ mg mb fa o pm cd aB a vs ns G ya ho hd aO hV fM dF ab hg=>?_;have KX:=hY w _ ya;obtain⟨fd,hb,hF⟩:=F w mg fa _ KX G.T.g hV;exact Xe KX G.T.g G.T.b G.T.builtins G.T.nolimit G.T.bmain hg fM dF (B3 ab hn2) hr (hK w) (λP q e=>hT w _ ya P q e) hF hb (λH hO hS=>fg w H a ns ab hO hS)
mutual
def sB:D->Bool
 | .tup ds=>uA ds
 | .lst ds=>uA ds
 | .dct _ _=>false
 | .non=>true
 | .bl _=>true
 | .int _=>true
 | .str _=>true
def uA:List D->Bool
 | []=>true
 |d::ds=>sB d&&uA ds
end
def sT(H H':Hp):Prop:=∀b u,H b=some u->H' b=some u\/∃kvs,u=HO.dK kvs
section
variable{K:A5}{H H':Hp}
def sT.lst(e:sT H H')(h:jE K H a xs):jE K H' a xs:=by
 rcases h with (h|⟨o,h⟩)|h
 .rcases e _ _ h with z|⟨kvs,z⟩
  .exact .inl (.inl z)
  .cases z
 .rcases e _ _ h with z|⟨kvs,z⟩
  .exact .inl (.inr ⟨o,z⟩)
  .cases z
 .exact .inr h
def sT.tup(e:sT H H')(h:jF K H a xs):jF K H' a xs:=by
 rcases h with (h|⟨o,h⟩)|h
 .rcases e _ _ h with z|⟨kvs,z⟩
  .exact .inl (.inl z)
  .cases z
 .rcases e _ _ h with z|⟨kvs,z⟩
  .exact .inl (.inr ⟨o,z⟩)
  .cases z
 .exact .inr h
mutual
theorem i5.less(e:sT H H'):∀{d:D} {v:V},sB d=true->i5 K H d v->i5 K H' d v
 | .non,_,_,h=>by rw[mD]at h ⊢;exact h
 | .bl _,_,_,h=>by rw[Q3]at h ⊢;exact h
 | .int _,_,_,h=>by rw[v8]at h ⊢;exact h
 | .str _,_,_,h=>by rw[l5]at h ⊢;exact h
 | .tup ds,_,n,h=>by rw[j3]at h ⊢;obtain⟨a,xs,h1,h2,h3⟩:=h;rw[sB]at n;exact⟨a,xs,h1,e.tup h2,J3.less e n h3⟩
 | .lst ds,_,n,h=>by rw[K3]at h ⊢;obtain⟨a,xs,h1,h2,h3⟩:=h;rw[sB]at n;exact⟨a,xs,h1,e.lst h2,J3.less e n h3⟩
 | .dct ks ds,_,n,h=>by rw[sB]at n;cases n
theorem J3.less(e:sT H H'):∀{ds:List D} {vs:List V},uA ds=true->J3 K H ds vs->J3 K H' ds vs
 | [],_,_,h=>by rw[K7]at h ⊢;exact h
 |d::ds,_,n,h=>by rw[J3]at h ⊢;obtain⟨v,vs,h1,h2,h3⟩:=h;rw[uA,Be]at n;exact⟨v,vs,h1,i5.less e n.1 h2,J3.less e n.2 h3⟩
end
variable{B Z:List Aw}{H0 V0:Hp}{U:St}{Y:J5}
def SR.lend(r:SR K B H0 V0 H Z U Y){i:Nat}(h:Y[i]?=some (some (.od ks vs))):
  ∃a kvs,H a=some (.dK kvs)/\SR K B H0 V0 H (Z.filter λb=>decide (b≠a)) U (Y.set i (some (.sh (.dct ks vs)))):=by
 obtain⟨a,o,h1,h2,h3,h4,h5,h6⟩:=r.own i (.d ks vs) h;obtain⟨kvs,rfl,_,_⟩:=h6;have iy:∀b∈Z.filter (λb=>decide (b≠a)),b∈Z:=λb hb=>(Az.mp hb).1;have jc:∀b,b∈Z->b≠a->b∈Z.filter (λb=>decide (b≠a)):=λb hb ne=>Az.mpr ⟨hb,decide_eq_true ne⟩;have na:a∉Z.filter (λb=>decide (b≠a)):=λz=>(of_decide_eq_true (Az.mp z).2) rfl;have mono:J0 (K5 Z H) (K5 (Z.filter λb=>decide (b≠a)) H):=rG iy
 have hi:i<Y.length:=(Ax.mp h).1;obtain⟨a',o',q1,q2,q3,q4,q5,q6⟩:=r.own i (.d ks vs) h;rw[h1]at q1;cases q1;rw[h5]at q5;cases q5;refine⟨a,kvs,h5,r.same,r.tb,r.vis.trans mono,λb hb=>jc b (r.sub b hb) λz=>h3 (z▸hb),λz hz=>r.zs z (iy z hz),λj d q=>?_,λj c q=>?_,λj k c e b e1 e2 s1 s2=>?_,by rw[Cm];exact r.len⟩
 .rcases mM q with⟨rfl,z,_⟩|⟨hj,q⟩
  .cases z;exact⟨.ref a,h1,(pU.mono mono q6).rep (c:=.d ks vs) (by rw[Q6 na];exact h5)⟩
  .obtain⟨v,e1,e2⟩:=r.sh j d q;exact⟨v,e1,e2.mono mono⟩
 .rcases mM q with⟨_,z,_⟩|⟨hj,q⟩
  .exact(oU z).elim
  .obtain⟨b,u,e1,e2,e3,e4,e5,e6⟩:=r.own j c q;refine⟨b,u,e1,jc b e2 λz=>?_,e3,e4,e5,e6.mono mono⟩;subst z;exact hj (r.inj i j (.d ks vs) c b h q h1 e1)
 .rcases mM e1 with⟨_,z,_⟩|⟨n1,e1⟩
  .exact(oU z).elim
  .rcases mM e2 with⟨_,z,_⟩|⟨n2,e2⟩
   .exact(oU z).elim
   .exact r.inj j k c e b e1 e2 s1 s2
def sT.unlend(h:H a=some (.dK kvs)):sT (K5 (Z.filter λb=>decide (b≠a)) H) (K5 Z H):=λb u e=>by
 obtain⟨h1,h2⟩:=Y7 e;by_cases hb:b∈Z
 .by_cases ha:b=a
  .subst ha;rw[h]at h2;cases h2;exact .inr ⟨_,rfl⟩
  .exact absurd (Az.mpr ⟨hb,decide_eq_true ha⟩) h1
 .rw[Q6 hb];exact .inl h2
end
def pT(i:Nat)(f:ED):ED:=λY=>match Y[i]? with
 |some (some (.od ks vs))=>(match f (Y.set i (some (.sh (.dct ks vs)))) with|some d=>if sB d=true then some d else none|none=>none)
 |_=>none
section
variable{X:Cx}{e:Expr}{f:ED}
def KH(i:Nat)(h:ZE X e f):ZE X e (pT i f):=
 ⟨have h:=h.h;
 u9 h λU H Q h_=>by
  refine i7 h_ λY d B H0 V0 Z e r q=>?_;unfold pT at e;split at e
  .rename_i ks vs hρ;split at e
   .rename_i d' ed;split at e
    .rename_i ay;cases e;obtain⟨a,kvs,ha,r'⟩:=r.lend hρ;exact⟨_,d,B,H0,V0,_,ed,r',λv H' s rr=>q v H' s (rr.less (sT.unlend (s _ _ ha)) ay)⟩
    .cases e
   .cases e
  .cases e⟩
end
def oV:Nat->(EB)->(EO)->EO
 | 0,_,_,_=>none
 |n+1,fc,g,Y=>match fc Y with
  |some true=>(match g Y with
   |some (.nx Y')=>oV n fc g Y'
   |some (.ct Y')=>oV n fc g Y'
   |some (.bk Y')=>some (.nx Y')
   |some (.rt v)=>some (.rt v)
   |none=>none)
  |some false=>some (.nx Y)
  |none=>none
section
variable{X:Cx}{c:Expr}{body:List Db}{fc:EB}{g:EO}{pos:Gm}
def O0(n:Nat)(hp:Lq (B2 X.prog X.w) X.A X.env X.xe)(hc:ZT X c fc)(hb:ZB X body g):ZS X (.While c body [] pos) (oV n fc g):=
 ⟨have hc:=hc.h;
 have hb:=hb.h;
 nJ (í hp hc hb) λE U H h_=>by
  refine i7 h_ λY o B H0 V0 Z e r q=>?_;refine⟨λm U' H'=>∃Y' Z',oV m fc g Y'=some o/\SR X.K B H0 V0 H' Z' U' Y',⟨n,Y,Z,e,r⟩,?_⟩;rintro m U1 H1 ⟨Y1,Z1,e1,r1⟩
  cases m with
  |zero=>cases e1
  |succ m=>
   unfold oV at e1
   cases hf:fc Y1 with
   |none=>rw[hf]at e1;cases e1
   |some b=>
    rw[hf]at e1
    cases b with
    |false=>
     cases e1;exact⟨Y1,false,B,H0,V0,Z1,hf,r1,λH2 s2=>vA (q U1 H2 Z1 (r1.mono s2))⟩
    |true=>
     refine⟨Y1,true,B,H0,V0,Z1,hf,r1,λH2 s2=>sZ ⟨λU' H'=>∃Y' Z',oV m fc g Y'=some o/\SR X.K B H0 V0 H' Z' U' Y',λU' H' ⟨Y',Z',h1,h2⟩=>⟨m,Em m,Y',Z',h1,h2⟩,?_⟩⟩;dsimp only at e1
     cases hg:g Y1 with
     |none=>rw[hg]at e1;cases e1
     |some og=>
      rw[hg]at e1
      cases og with
      |nx Y2=>exact⟨Y1,.nx Y2,B,H0,V0,Z1,hg,r1.mono s2,λU' H' Z' r'=>⟨Y2,Z',e1,r'⟩⟩
      |ct Y2=>exact⟨Y1,.ct Y2,B,H0,V0,Z1,hg,r1.mono s2,λU' H' Z' r'=>⟨Y2,Z',e1,r'⟩⟩
      |bk Y2=>cases e1;exact⟨Y1,.bk Y2,B,H0,V0,Z1,hg,r1.mono s2,λU' H' Z' r'=>q U' H' Z' r'⟩
      |rt v=>
       cases e1
       exact⟨Y1,.rt v,B,H0,V0,Z1,hg,r1.mono s2,λv' H' s' rr=>q v' H' s' rr⟩⟩
def yO(i:Nat)(f:ED):EO:=λY=>match z7 i Y with
 |some (.int a)=>(match f Y with|some (.int b)=>some (.nx (Y.set i (some (.sh (.int (a+b))))))|_=>none)
 |_=>none
def RL{i:Nat}{x:Bg}(he:ZE X e f)(hN:X.N.Nodup)(hi:X.N[i]?=some x:=by rfl)(hx:nG X.env.scope x:=by first|exact Dg rfl|exact Cp rfl)(hf:X.fn x=true\/X.env.scope.names.lookup x=some .local:=by first|exact .inl rfl|exact .inr rfl):ZS X (.AugAssign (.Name x aU) .Add e pos) (yO i f):=
 ⟨have he:=he.h;
 nJ (ġ hN hi hx he ZZ hf) λE U H h_=>by
  refine i7 h_ λY o B H0 V0 Z e r q=>?_;unfold yO at e
  cases hv:z7 i Y with
  |none=>rw[hv]at e;cases e
  |some d=>
   rw[hv]at e
   cases d with
   |int a=>
    dsimp only at e
    cases hf':f Y with
    |none=>rw[hf']at e;cases e
    |some d2=>
     rw[hf']at e
     cases d2 with
     |int b=>
      cases e;obtain⟨v,h1,h2⟩:=r.sh i _ (Op hv)
      obtain rfl:=v8.mp h2
      refine⟨_,h1,Y,.int b,B,H0,V0,Z,hf',r,λy H1 s1 r1=>?_⟩
      obtain rfl:=v8.mp r1
      exact⟨a,b,rfl,rfl,q _ H1 Z ((r.mono s1).set (v8.mpr rfl))⟩
     |non=>cases e
     |bl _=>cases e
     |str _=>cases e
     |tup _=>cases e
     |lst _=>cases e
     |dct _ _=>cases e
   |non=>cases e
   |bl _=>cases e
   |str _=>cases e
   |tup _=>cases e
   |lst _=>cases e
   |dct _ _=>cases e⟩
def Ϛ:List V->Hp->VK->Prop:=λxs H Q=>∃a kvs,xs=[.ref a]/\Rd H a (.dK kvs)/\Q (.int kvs.length) H
theorem WH:lN X (.builtin "len") Ϛ:=by
 intro aa s U H xs vs Q I rv h;obtain⟨a,kvs,rfl,e,q⟩:=h
 cases rv with
 |cons r1 r2=>cases r2;cases r1;exact Ϝ I e λt s' I'=>⟨.int kvs.length,H,I',⟨t,rfl⟩,q⟩
def wD(f:ED):ED:=λY=>match f Y with|some (.dct ks _)=>some (.int ks.length)|_=>none
def RI{p:Gm}(hm:X.mg "len" = none)(h:ZE X a f)(hg:Gl X "len":=by rfl)(he:A9 [a] X.env=(false,Bz a X.env)::A9 [] X.env:=by exact u7 rfl)(ao:(Bu pos (A9 [] X.env)).any (·.1)=false:=by exact J9 rfl):ZE X (.Call (.Name "len" p) [a] [] pos) (wD f):=
 ⟨have h:=h.h;
 u9 (uD WH hg hm PySem.boot_len (J7 h W6 he) (by decide) (by decide) he ao) λU H Q h_=>by
  refine i7 h_ λY d B H0 V0 Z e r q=>?_;unfold wD at e
  cases hf:f Y with
  |none=>rw[hf]at e;cases e
  |some d'=>
   rw[hf]at e
   cases d' with
   |dct ks vs=>cases e;refine⟨Y,_,B,H0,V0,Z,hf,r,λv H' s rr=>?_⟩;obtain⟨a',kvs,rfl,h1,h2,_⟩:=l0.mp rr;exact⟨a',kvs,rfl,.inl (Y7 h1).2,q _ H' s (by rw[<-h2,A0];exact v8.mpr rfl)⟩
   |non=>cases e
   |bl _=>cases e
   |int _=>cases e
   |str _=>cases e
   |tup _=>cases e
   |lst _=>cases e⟩
end
def ū:V->List V->Hp->VK->Prop:=λx xs H Q=>∃a kvs k y,x = .ref a/\xs=[kV k,y]/\H a=some (.dK kvs)/\kvs.length<sizeLine/\(∀v,lQ kvs k=some v->Q v H)/\(lQ kvs k=none->Q y (upd H a (.dK (lZ kvs k y))))
def p6(kvs more:List (f7×V)):List (f7×V):=more.foldl (λag kv=>lZ ag kv.1 kv.2) kvs
def Ŭ:V->List V->Hp->VK->Prop:=λx xs H Q=>∃a b kvs more,x = .ref a/\xs=[.ref b]/\a≠b/\H a=some (.dK kvs)/\H b=some (.dK more)/\kvs.length+more.length<=sizeLine/\Q .non (upd H a (.dK (p6 kvs more)))
theorem NI:∀(more kvs:List (f7×V)),(p6 kvs more).length<=kvs.length+more.length
 | [],kvs=>Ak _
 |p::r,kvs=>by have h1:=NI r (lZ kvs p.1 p.2);have h2:=DG kvs p.1 p.2;show (p6 (lZ kvs p.1 p.2) r).length<=_;rw[Av];omega
theorem KV.merge:∀{more:List (f7×V)} {ms:List (f7×Ac)},KV more ms->∀{kvs:List (f7×V)} {vs:List (f7×Ac)},KV kvs vs->KV (p6 kvs more) (merged vs ms):=λ{more ms} h=>by
 unfold KV at h
 induction h with
 |nil=>intro kvs vs r;exact r
 | @cons p q ps qs hq t ih=>
  intro kvs vs r
  have:=KV.put r p.1 hq.2
  rw[hq.1]at this;show KV (p6 (lZ kvs p.1 p.2) ps) (merged (stored vs q.1 q.2) qs);rw[hq.1];exact ih this
section
variable{X:Cx}
def Xn:xH X "dict.setdefault" ū:=by
 intro aa s U H x xs v us Q I rx rv h;obtain⟨a,kvs,k,y,rfl,rfl,e,hl,q1,q2⟩:=h;cases rx;obtain⟨u1,u2,rfl,r1,r2⟩:=rv.two;obtain⟨z,hd,vs,aC,dd⟩:=rN I.hok e;refine La PySem.F.slot_dict_setdefault dd.typeIs PySem.F.entry_dict_setdefault (PySem.F.args_dict_setdefault_3 _ _ _) (kt_meets_setdefault (mC X.prog X.w) a (wJ r1) hd u2) ⟨vs,dd,by rw[<-aC.length];exact z,λv hv=>?_,λhn h' cT hs=>?_⟩
 .have:=aC.val k
  rw[hv]at this
  cases hk:lQ kvs k with
  |none=>rw[hk]at this;exact this.elim
  |some w'=>rw[hk]at this;exact⟨w',H,I.tok _,this,q1 w' hk⟩
 .have:=aC.val k
  rw[hn]at this
  cases hk:lQ kvs k with
  |some w'=>rw[hk]at this;exact this.elim
  |none=>
   have he:∃q,h'.get? a=some q:=let ⟨q,_,_,hq,_⟩:=cT;⟨q,hq⟩
   have cq:(lZ kvs k y).length<=sizeLine:=by have:=DG kvs k y;omega
   exact⟨y,_,EC I (by rw[e];exact G8) hs he (FJ cq hd (aC.put k r2) cT),r2,q2 hk⟩
def Xo:xH X "dict.update" Ŭ:=by
 intro aa s U H x xs v us Q I rx rv h;obtain⟨a,b,kvs,more,rfl,rfl,cN,e,eb,hl,q⟩:=h;cases rx;obtain⟨u1,rfl,r1⟩:=rv.one;cases r1;obtain⟨z,hd,vs,aC,dd⟩:=rN I.hok e;obtain⟨z2,bA,ms,jd,cv⟩:=rN I.hok eb;refine La PySem.F.slot_dict_update dd.typeIs PySem.F.entry_dict_update (PySem.F.args_dict_update_2 _ _) (meets_dict_update (mC X.prog X.w) a b cN bA) ⟨vs,ms,dd,cv,by rw[<-aC.length,<-jd.length];exact hl,λh' cT _ hs=>?_⟩
 have he:∃q,h'.get? a=some q:=let ⟨q,_,_,hq,_⟩:=cT;⟨q,hq⟩
 have cq:(p6 kvs more).length<=sizeLine:=B3 (NI more kvs) hl;exact⟨.non,_,EC (t':=s.toks) I (by rw[e];exact G8) hs he (FJ cq hd (KV.merge jd aC) cT),rfl,q⟩
end
section
variable{X:Cx}{a b:Expr}{fa fb:ED}{pos:Gm}
def AX(i:Nat)(fk fv:ED):EO:=λY=>match qF i Y with
 |some d=>(match fk Y with
  |some kd=>(match qO kd with
   |some k=>(match fv Y with
    |some v=>if d.1.Nodup/\d.1.length<f9 then (if (kK d.1 d.2 k).isSome=true then some (.nx Y) else some (.nx (Y.set i (some (.od (lJ d.1 d.2 k v).1 (lJ d.1 d.2 k v).2))))) else none
    |none=>none)
   |none=>none)
  |none=>none)
 |none=>none
def Zg{i:Nat}{x:Bg}{p1 p2 p3:Gm}(hk:ZE X a fa)(cx:ZE X b fb)(hN:X.N[i]?=some x:=by rfl)(hv:mX X.env.scope x:=by first|exact Dg rfl|exact Cp (Dg rfl)|exact Cp (Cp rfl))(hd:(x==("__debug__":Bg))=false:=by decide)(aO:(x==("__classdict__":Bg))=false:=by decide)(au:Dv (.Name x p1) "setdefault" X.env (Bz (.Name x p1) X.env)=Bz (.Name x p1) X.env:=by rfl) (aS:((Bu p3 (A9 [a,b] X.env)).all (λx=>!x.1)&&(Iz p3 (G4 [] X.env)).all (λx=>x.1.isSome)
   && decide (([a,b]:List Expr).length+([]:List F9).length+(if ([]:List F9).isEmpty then 0 else 1)<30))=true:=by rfl) (ar:(p2.endLine==p3.line)=true:=by rfl) (hs:A9 [a,b] X.env=(false,Bz a X.env)::A9 [b] X.env:=by exact u7 rfl) (bD:A9 [b] X.env=(false,Bz b X.env)::A9 [] X.env:=by exact u7 rfl) (ap:(Bu p3 (A9 [b] X.env)).any (·.1)=false:=by exact J9 rfl) (bN:Dz (.Call (.Attribute (.Name x p1) "setdefault" p2) [a,b] [] p3) none pos.line X.env=Cj false:=by rfl):ZS X (.Expr (.Call (.Attribute (.Name x p1) "setdefault" p2) [a,b] [] p3) pos) (AX i fa fb):=
 ⟨have hk:=hk.h;
 have cx:=cx.h;
 nJ (BE (uT Fv PySem.F.slot_dict_setdefault PySem.F.type_dict_setdefault Xn (nX hN hv hd aO) (J7 hk (J7 cx W6 bD) hs) au aS ar hs ap) bN) λE U H h_=>by
  refine i7 h_ λY o B H0 V0 Z e r q=>?_;unfold AX at e
  cases ed:qF i Y with
  |none=>rw[ed]at e;cases e
  |some dd=>
   rw[ed]at e;dsimp only at e
   cases ek:fa Y with
   |none=>rw[ek]at e;cases e
   |some kd=>
    rw[ek]at e;dsimp only at e
    cases fR:qO kd with
    |none=>rw[fR]at e;cases e
    |some k=>
     rw[fR]at e;dsimp only at e
     cases ev:fb Y with
     |none=>rw[ev]at e;cases e
     |some v=>
      rw[ev]at e;dsimp only at e;by_cases hz:dd.1.Nodup/\dd.1.length<f9
      .rw[if_pos hz]at e;obtain⟨n,kvs,h1,h2,hb,h3,h4,h5,h6⟩:=r.od i dd.1 dd.2 (vY ed);refine⟨.ref n,h1,.inr (.inr (.inl ⟨rfl,.inl ⟨_,h4⟩⟩)),Y,kd,B,H0,V0,Z,ek,r,λy H1 s1 r1=>⟨Y,v,B,H0,V0,Z,ev,r.mono s1,λz H2 s2 r2=>?_⟩⟩
       obtain rfl:=vP fR r1
       have ab:kvs.length<sizeLine:=by
        have:kvs.length=dd.1.length:=by rw[<-h5,A0]
        rw[this];exact yG (De hz.2)
       have gG:(kK dd.1 dd.2 k).isSome=(lQ kvs k).isSome:=by rw[<-h5];exact yB h6
       have R2:=(r.mono s1).mono s2;refine⟨n,kvs,k,z,rfl,rfl,s2 _ _ (s1 _ _ h4),ab,λw' hw=>?_,λhw=>?_⟩
       .rw[hw]at gG;rw[if_pos (show (kK dd.1 dd.2 k).isSome=true from gG)]at e;cases e;exact q U H2 Z R2
       .rw[hw]at gG;rw[if_neg (show ¬(kK dd.1 dd.2 k).isSome=true by rw[gG];exact B0)]at e
        cases e;show E.nx U (upd H2 n (.dK (lZ kvs k z)));rw[CT k z kvs (by rw[h5];exact hz.1)]
        obtain⟨p1,p2⟩:=EG (j:=k) (h6.mono (w6 (s1.trans s2))) r2;rw[h5]at p1 p2;exact q U _ Z (R2.updC (c:=.d dd.1 dd.2) (e:=.d (lJ dd.1 dd.2 k v).1 (lJ dd.1 dd.2 k v).2) (vY ed) h1 ⟨_,rfl,p1,p2⟩)
      .rw[if_neg hz]at e;cases e⟩
def pO:List f7->List D->List f7->List D->List f7×List D
 |ks,vs,k::r,v::w=>pO (lJ ks vs k v).1 (lJ ks vs k v).2 r w
 |ks,vs,_,_=>(ks,vs)
theorem OM(j:f7)(d:V):∀kvs:List (f7×V),∀y∈(oM kvs j d).map (·.1),y∈kvs.map (·.1)\/y=j
 | [],y,h=>.inr (by simpa [oM] using h)
 |p::r,y,h=>by
  unfold oM at h;by_cases hp:p.1=j
  .rw[if_pos hp]at h;exact .inl h
  .rw[if_neg hp,Aj]at h;rcases Ad.mp h with z|z
   .exact .inl (by rw[z];exact A6)
   .rcases OM j d r y z with q|q
    .exact .inl (A7 _ q)
    .exact .inr q
theorem Pf(j:f7)(d:V):∀kvs:List (f7×V),(kvs.map (·.1)).Nodup->((oM kvs j d).map (·.1)).Nodup
 | [],_=>by simp[oM]
 |p::r,h=>by
  rw[Aj,Bm]at h;unfold oM;by_cases hp:p.1=j
  .rw[if_pos hp];exact Bm.mpr h
  .rw[if_neg hp,Aj,Bm];refine⟨λz=>?_,Pf j d r h.2⟩;rcases OM j d r _ z with q|q
   .exact h.1 q
   .exact hp q
theorem OI{K:A5}{H:Hp}:∀(more kvs:List (f7×V)) (vs eX:List D),J3 K H vs (kvs.map (·.2))->J3 K H eX (more.map (·.2))->(kvs.map (·.1)).Nodup ->
  (p6 kvs more).map (·.1)=(pO (kvs.map (·.1)) vs (more.map (·.1)) eX).1/\J3 K H (pO (kvs.map (·.1)) vs (more.map (·.1)) eX).2 ((p6 kvs more).map (·.2))
 | [],kvs,vs,eX,h1,h2,hn=>by
  have:pO (kvs.map (·.1)) vs (([]:List (f7×V)).map (·.1)) eX=(kvs.map (·.1),vs):=by cases eX<;>rfl
  rw[this];exact⟨rfl,h1⟩
 |p::r,kvs,vs,[],h1,h2,hn=>by cases K7.mp h2
 |p::r,kvs,vs,v::eX,h1,h2,hn=>by
  obtain⟨x,xs,ex,g1,g2⟩:=j9.mp h2;rw[Aj]at ex;obtain⟨e1,e2⟩:=Ko ex;subst e1;rw[<-e2]at g2;obtain⟨p1,p2⟩:=EG (j:=p.1) h1 g1
  have hm:p6 kvs (p::r)=p6 (oM kvs p.1 p.2) r:=by show p6 (lZ kvs p.1 p.2) r=_;rw[CT p.1 p.2 kvs hn]
  have ih:=OI r (oM kvs p.1 p.2) (lJ (kvs.map (·.1)) vs p.1 v).2 eX p2 g2 (Pf _ _ _ hn);rw[p1]at ih;rw[hm];exact ih
def FW(i:Nat)(f:ED):EO:=λY=>match qF i Y with
 |some d=>(match f Y with
  |some (.dct ks vs)=>if d.1.Nodup/\d.1.length+ks.length<=f9 then some (.nx (Y.set i (some (.od (pO d.1 d.2 ks vs).1 (pO d.1 d.2 ks vs).2)))) else none
  |_=>none)
 |none=>none
def À{i:Nat}{x:Bg}{p1 p2 p3:Gm}(h:ZE X a fa)(hN:X.N[i]?=some x:=by rfl)(hv:mX X.env.scope x:=by first|exact Dg rfl|exact Cp (Dg rfl)|exact Cp (Cp rfl))(hd:(x==("__debug__":Bg))=false:=by decide)(aO:(x==("__classdict__":Bg))=false:=by decide)(au:Dv (.Name x p1) "update" X.env (Bz (.Name x p1) X.env)=Bz (.Name x p1) X.env:=by rfl) (aS:((Bu p3 (A9 [a] X.env)).all (λx=>!x.1)&&(Iz p3 (G4 [] X.env)).all (λx=>x.1.isSome)
   && decide (([a]:List Expr).length+([]:List F9).length+(if ([]:List F9).isEmpty then 0 else 1)<30))=true:=by rfl) (ar:(p2.endLine==p3.line)=true:=by rfl) (hs:A9 [a] X.env=(false,Bz a X.env)::A9 [] X.env:=by exact u7 rfl) (ap:(Bu p3 (A9 [] X.env)).any (·.1)=false:=by exact J9 rfl) (bN:Dz (.Call (.Attribute (.Name x p1) "update" p2) [a] [] p3) none pos.line X.env=Cj false:=by rfl):ZS X (.Expr (.Call (.Attribute (.Name x p1) "update" p2) [a] [] p3) pos) (FW i fa):=
 ⟨have h:=h.h;
 nJ (BE (uT Fv PySem.F.slot_dict_update PySem.F.type_dict_update Xo (nX hN hv hd aO) (J7 h W6 hs) au aS ar hs ap) bN) λE U H h_=>by
  refine i7 h_ λY o B H0 V0 Z e r q=>?_;unfold FW at e
  cases ed:qF i Y with
  |none=>rw[ed]at e;cases e
  |some dd=>
   rw[ed]at e;dsimp only at e
   cases ef:fa Y with
   |none=>rw[ef]at e;cases e
   |some d'=>
    rw[ef]at e
    cases d' with
    |dct ks vs=>
     dsimp only at e;by_cases hz:dd.1.Nodup/\dd.1.length+ks.length<=f9
     .rw[if_pos hz]at e;cases e;obtain⟨n,kvs,h1,h2,hb,h3,h4,h5,h6⟩:=r.od i dd.1 dd.2 (vY ed);refine⟨.ref n,h1,.inr (.inr (.inl ⟨rfl,.inl ⟨_,h4⟩⟩)),Y,_,B,H0,V0,Z,ef,r,λy H1 s1 r1=>?_⟩;obtain⟨m,more,rfl,g1,g2,g3⟩:=l0.mp r1;have R1:=r.mono s1
      have dH:n≠m:=λz=>by subst z;exact(Y7 g1).1 h2
      refine⟨n,m,kvs,more,rfl,rfl,dH,s1 _ _ h4,(Y7 g1).2,?_,?_⟩
      .have e1:kvs.length=dd.1.length:=by rw[<-h5,A0]
       have e2:more.length=ks.length:=by rw[<-g2,A0]
       rw[e1,e2];exact wR hz.2
      .obtain⟨p1,p2⟩:=OI more kvs dd.2 vs (h6.mono (w6 s1)) g3 (by rw[h5];exact hz.1)
       rw[h5,g2]at p1 p2;exact q U _ Z (R1.updC (c:=.d dd.1 dd.2) (e:=.d (pO dd.1 dd.2 ks vs).1 (pO dd.1 dd.2 ks vs).2) (vY ed) h1 ⟨_,rfl,p1,p2⟩)
     .rw[if_neg hz]at e;cases e
    |non=>cases e
    |bl _=>cases e
    |int _=>cases e
    |str _=>cases e
    |tup _=>cases e
    |lst _=>cases e⟩
end
section
variable{X:Cx}{a:Expr}{f:ED}{p p2 p3 pos:Gm}
def ϙ:List V->Hp->VK->Prop:=λxs H Q=>∃a kvs,xs=[.ref a]/\H a=some (.dK kvs)/\∀p,H p=none->Q (.ref p) (upd H p (.dK kvs))
def Yh:lN X (.type "dict") ϙ:=by
 intro aa s U H xs vs Q I rv h;obtain⟨a,kvs,rfl,e,q⟩:=h;obtain⟨u,rfl,r1⟩:=rv.one;cases r1;obtain⟨z,hd,ms,aC,dd⟩:=rN I.hok e;refine kt_call_dict hd dd (by rw[<-aC.length];exact z) λh' cT hsb=>?_
 have kp:∀b o,s.heap.get? b=some o->h'.get? b=some o:=λb o e=>hsb.extBut b o (At (Ao e)) (A8 _ e);have hS:(s.heap.objs.size==Ff)=false:=beq_false_of_ne (D4 I.big);exact⟨.ref s.heap.objs.size,_,I.laid (a:=s.heap.objs.size) (o:=.dK kvs) (t':=s.toks) kp (Ak _) (FJ z hS aC cT),rfl,q _ (I.hok.fresh (Ak _))⟩
def wN(f:ED):J5->Option (List f7×List D):=λY=>match f Y with|some (.dct ks vs)=>some (ks,vs)|_=>none
theorem Pu{ds:List f7×List D}(e:wN f Y=some ds):f Y=some (.dct ds.1 ds.2):=by
 unfold wN at e
 cases hf:f Y with
 |none=>rw[hf]at e;cases e
 |some d=>
  rw[hf]at e
  cases d with
  |dct ks vs=>cases e;rfl
  |non=>cases e
  |bl _=>cases e
  |int _=>cases e
  |str _=>cases e
  |tup _=>cases e
  |lst _=>cases e
def OZ(hm:X.mg "dict" = none)(h:ZE X a f)(hg:Gl X "dict":=by rfl)(he:A9 [a] X.env=(false,Bz a X.env)::A9 [] X.env:=by exact u7 rfl)(ao:(Bu pos (A9 [] X.env)).any (·.1)=false:=by exact J9 rfl)(hv:B7 "dict" = some (.type "dict"):=by decide +kernel):GS X (.Call (.Name "dict" p) [a] [] pos) (wN f):=
 ⟨have h:=h.h;
 u9 (sP Yh hg hm hv (J7 h W6 he) (by decide) (by decide) he ao) λU H Q h_=>by
  refine i7 h_ λY ds B H0 V0 Z e r q=>?_;refine⟨Y,_,B,H0,V0,Z,Pu e,r,λv H1 s1 rr=>?_⟩;obtain⟨a',kvs,rfl,g1,g2,g3⟩:=l0.mp rr;refine⟨a',kvs,rfl,(Y7 g1).2,λm hm'=>?_⟩;have sn:=j8 (o:=HO.dK kvs) hm'
  exact q m kvs _ (s1.trans sn) (s1.free hm') v4 g2 (g3.mono (rH hm' sn))⟩
abbrev BG(a:Aw):Jp:={ cls:=.type "dict_values",data:=.fields #[.ref a] }
def Zw:V->List V->Hp->VK->Prop:=λx xs H Q=>∃a kvs,x = .ref a/\xs=[]/\H a=some (.dK kvs)/\∀p,H p=none->Q (.ref p) (upd H p (.frz (BG a) (.own a)))
def œ:xH X "dict.values" Zw:=by
 intro aa s U H x xs v us Q I rx rv h;obtain⟨a,kvs,rfl,rfl,e,q⟩:=h;cases rx
 obtain rfl:=rv.zero
 obtain⟨z,hd,vs,aC,dd⟩:=rN I.hok e;refine La PySem.F.slot_dict_values dd.typeIs PySem.F.entry_dict_values (PySem.F.args_dict_values_1 _) (meets_dict_values (mC X.prog X.w) a hd) ⟨⟨vs,dd⟩,?_⟩;exact⟨.ref s.heap.objs.size,_,I.laid (a:=s.heap.objs.size) (o:=.frz (BG a) (.own a)) (t':=s.toks) (λ_ _ q=>A8 _ q) (Ak _) ⟨Au _ rfl,_,Au _ rfl⟩,rfl,q _ (I.hok.fresh (Ak _))⟩
def ZV:List V->Hp->VK->Prop:=λxs H Q=>∃v a kvs,xs=[.ref v]/\H v=some (.frz (BG a) (.own a))/\H a=some (.dK kvs)/\∀l,H l=none->Q (.ref l) (upd H l (.lst (kvs.map (·.2))))
theorem ō{kvs:List (f7×V)}{vs:List (f7×Ac)}(h:KV kvs vs):W3 (kvs.map (·.2)) (vs.map (·.2)):=by
 unfold KV at h
 induction h with
 |nil=>exact .nil
 |cons hq t ih=>exact .cons hq.2 ih
def Yi(hc:X.calm=true):lN X (.type "list") ZV:=by
 intro aa s U H xs us Q I rv h;obtain⟨v,a,kvs,rfl,ev,e,q⟩:=h;obtain⟨u,rfl,r1⟩:=rv.one;cases r1;obtain⟨z,hd,vs,aC,dd⟩:=rN I.hok e;have hv:s.heap.get? v=some (BG a):=(I.hok v _ ev).1;obtain⟨o,es,ep,ho,h1⟩:=dd;have ab:kvs.length=vs.length:=aC.length;refine PySem.W.kdl_call (PySem.W.kdl_values (knd:=mC X.prog X.w) (kvs:=vs) (ep:=ep)) (I.ok.hd hc) ⟨⟨_,hv,rfl,rfl⟩,⟨o,es,ho,h1⟩⟩ (by rw[<-ab];exact z) λh' tk aV c' kp hget aN=>?_
 have dy:aV.toList=vs.map (·.2):=PySem.W.kdl_vals_eq aV.toList (by rw[B1];exact aN.1) λj w' hw=>aN.2 j w' (by rw[<-Array.getElem?_toList];exact hw)
 refine⟨.ref s.heap.objs.size,_,I.laid (a:=s.heap.objs.size) (o:=.lst (kvs.map (·.2))) (t':=tk) kp (Ak _) ⟨by rw[A0];exact z,aV.toList,c',by rw[dy];exact ō aC,by rw[hget]⟩,rfl,q _ (I.hok.fresh (Ak _))⟩
def BK(f:ED):EL:=λY=>(wN f Y).map (·.2)
def Vk(hc:X.calm=true)(hm:X.mg "list" = none)(h:ZE X a f)(hg:Gl X "list":=by rfl)(au:Dv a "values" X.env (Bz a X.env)=Bz a X.env:=by rfl)(ar:(p2.endLine==p3.line)=true:=by rfl)(he:A9 [.Call (.Attribute a "values" p2) [] [] p3] X.env=(false,Bz (.Call (.Attribute a "values" p2) [] [] p3) X.env)::A9 [] X.env:=by exact u7 rfl)(ao:(Bu pos (A9 [] X.env)).any (·.1)=false:=by exact J9 rfl)(hv:B7 "list" = some (.type "list"):=by decide +kernel):ZF X (.Call (.Name "list" p) [.Call (.Attribute a "values" p2) [] [] p3] [] pos) (BK f):=
 ⟨have h:=h.h;
 u9 (sP (Yi hc) hg hm hv (J7 (ĕ Fv PySem.F.slot_dict_values PySem.F.type_dict_values œ h au ar) W6 he) (by decide) (by decide) he ao) λU H Q h_=>by
  refine i7 h_ λY zs B H0 V0 Z e r q=>?_;unfold BK at e;obtain⟨ds,ed,rfl⟩:=Bj.mp e;refine⟨Y,_,B,H0,V0,Z,Pu ed,r,λv H1 s1 rr=>?_⟩;obtain⟨a',kvs,rfl,g1,g2,g3⟩:=l0.mp rr;have ga:=(Y7 g1).2;refine⟨.inr (.inr (.inl ⟨rfl,.inl ⟨_,ga⟩⟩)),a',kvs,rfl,rfl,ga,λm hm'=>?_⟩;have sm:=j8 (o:=HO.frz (BG a') (.own a')) hm';refine⟨m,a',kvs,rfl,v4,sm _ _ ga,λl hl=>?_⟩;have sl:=j8 (o:=HO.lst (kvs.map (·.2))) hl
  have aZ:H1 l=none:=sm.free hl
  exact q l _ _ (s1.trans (sm.trans sl)) (s1.free aZ) v4 (g3.mono (rH aZ (sm.trans sl)))⟩
end
def oC(f:J5->Option (List f7×List D)):ED:=λY=>(f Y).map λd=>.dct d.1 d.2
section
variable{X:Cx}{e:Expr}
def t7(h:GS X e f):ZE X e (oC f):=
 ⟨have h:=h.h;
 u9 h λU H Q h_=>by
  refine i7 h_ λY d B H0 V0 Z e r q=>?_;unfold oC at e;obtain⟨ds,he,rfl⟩:=Bj.mp e;refine⟨Y,ds,B,H0,V0,Z,he,r,λa kvs H' s hn ha hk hr=>q _ H' s (l0.mpr ⟨a,kvs,rfl,?_,hk,hr.mono (rG λb hb=>A7 _ hb)⟩)⟩;rw[Q6 (r.newer hn)]
  exact ha⟩
end
def kT(H:Hp):List Aw->List (List Int)->Prop
 | [],[]=>True
 |b::bs,ns::aI=>H b=some (.lst (ns.map V.int))/\kT H bs aI
 |_,_=>False
theorem kT.len:∀{bs:List Aw} {aI:List (List Int)},kT H bs aI->bs.length=aI.length
 | [],[],_=>rfl
 |b::bs,ns::aI,h=>by rw[Av,Av,kT.len h.2]
 | [],_::_,h=>h.elim
 |_::_,[],h=>h.elim
theorem kT.mono(e:J0 H H'):∀{bs:List Aw} {aI:List (List Int)},kT H bs aI->kT H' bs aI
 | [],[],_=>trivial
 |b::bs,ns::aI,h=>⟨e _ _ h.1,kT.mono e h.2⟩
 | [],_::_,h=>h.elim
 |_::_,[],h=>h.elim
theorem kT.get:∀{bs:List Aw} {aI:List (List Int)} {j:Nat},kT H bs aI->j<bs.length->∃b ns,bs[j]?=some b/\aI[j]?=some ns/\H b=some (.lst (ns.map V.int))
 | [],[],j,_,hj=>absurd hj (F5 _)
 |b::bs,ns::aI,0,h,_=>⟨b,ns,rfl,rfl,h.1⟩
 |b::bs,ns::aI,j+1,h,hj=>by
  obtain⟨b',bH,h1,h2,h3⟩:=kT.get (j:=j) h.2 (by rw[Av]at hj;omega)
  exact⟨b',bH,by rw[Ee];exact h1,by rw[Ee];exact h2,h3⟩
 | [],_::_,_,h,_=>h.elim
 |_::_,[],_,h,_=>h.elim
theorem kT.other{c:Aw}:∀{bs:List Aw} {aI:List (List Int)},c∉bs->kT H bs aI->kT (upd H c o) bs aI
 | [],[],_,_=>trivial
 |b::bs,ns::aI,hn,h=>⟨(by
   have ak:b≠c:=λz=>hn (by rw[z];exact A6)
   rw[v9 ak]
   exact h.1),kT.other (λz=>hn (A7 _ z)) h.2⟩
 | [],_::_,_,h=>h.elim
 |_::_,[],_,h=>h.elim
theorem kT.upd{c:Aw}{ms:List Int}:∀{bs:List Aw} {aI:List (List Int)} {j:Nat},bs.Nodup->kT H bs aI->bs[j]?=some c->kT (upd H c (.lst (ms.map V.int))) bs (aI.set j ms)
 | [],[],j,_,_,hj=>by simp at hj
 |b::bs,ns::aI,0,hn,h,hj=>by
  have:b=c:=by simpa using hj
  subst this;exact⟨v4,kT.other (Bm.mp hn).1 h.2⟩
 |b::bs,ns::aI,j+1,hn,h,hj=>by
  rw[Ee]at hj;have bj:=Bm.mp hn;have ak:b≠c:=λz=>bj.1 (by rw[z];exact Dc hj)
  exact⟨by rw[v9 ak];exact h.1,kT.upd bj.2 h.2 hj⟩
 | [],_::_,_,_,h,_=>h.elim
 |_::_,[],_,_,h,_=>h.elim
theorem kT.new{H:Hp}:∀(bs:List Aw),(∀b∈bs,H b=some (.lst []))->kT H bs (Bf bs.length [])
 | [],_=>trivial
 |b::bs,h=>⟨h b A6,kT.new bs λx hx=>h x (A7 _ hx)⟩
def GL(ns:List Int):D:=.lst (ns.map D.int)
theorem kT.rep{K:A5}{H:Hp}{B:List Aw}:∀{bs:List Aw} {aI:List (List Int)},(∀b∈bs,b∉B)->kT H bs aI->J3 K (K5 B H) (aI.map GL) (bs.map V.ref)
 | [],[],_,_=>K7.mpr rfl
 |b::bs,ns::aI,hb,h=>by rw[Aj,Aj];refine j9.mpr ⟨_,_,rfl,K3.mpr ⟨b,_,rfl,jE.of (by rw[Q6 (hb b A6)];exact h.1),Y6.mpr rfl⟩,kT.rep (λx hx=>hb x (A7 _ hx)) h.2⟩
 | [],_::_,_,h=>h.elim
 |_::_,[],_,h=>h.elim
section
variable{K:A5}{B Z:List Aw}{H0 V0 H H':Hp}{U:St}{Y:J5}
def SR.moreL(r:SR K B H0 V0 H Z U Y)(as:List Aw)(hn:∀a∈as,H a=none)(e:J0 H H')(he:∀a∈as,∃o,H' a=some o):SR K B H0 V0 H' (as++Z) U Y:=by
 have hl:J0 (K5 Z H) (K5 (as++Z) H'):=λb u q=>by
  obtain⟨h1,h2⟩:=Y7 q
  rw[Q6 (by
   rw[Aq];rintro (z|z)
   .rw[hn b z]at h2;cases h2
   .exact h1 z)]
  exact e b u h2
 exact⟨r.same.trans e,r.tb.mono e,r.vis.trans hl,λb hb=>Ab _ (r.sub b hb),λz hz=>(Aq.mp hz).elim (he z) λq=>let ⟨u,h⟩:=r.zs z q;⟨u,e _ _ h⟩,
  λi d h=>let ⟨v,h1,h2⟩:=r.sh i d h;⟨v,h1,h2.mono hl⟩,
  λi c h=>let ⟨b,o,h1,h2,hb,h3,h4,h5⟩:=r.own i c h;⟨b,o,h1,Ab _ h2,hb,h3,e _ _ h4,h5.mono hl⟩,r.inj,r.len⟩
def SR.skip(r:SR K B H0 V0 H Z U Y){i:Nat}(h:Y[i]?=some none):SR K B H0 V0 H Z (U.set i v) Y:=by
 have ne:∀{j:Nat} {c:Cell},Y[j]?=some (some c)->i≠j:=λ{j c} q z=>by subst z;rw[h]at q;cases q
 exact⟨r.same,r.tb,r.vis,r.sub,r.zs,λj d q=>let ⟨u,h1,h2⟩:=r.sh j d q;⟨u,by rw[Bc (ne q)];exact h1,h2⟩,
  λj c q=>let ⟨b,o,h1,h2⟩:=r.own j c q;⟨b,o,by rw[Bc (ne q)];exact h1,h2⟩,
  λj k c e a q1 q2 s1 s2=>r.inj j k c e a q1 q2 (by rw[Bc (ne q1)]at s1;exact s1) (by rw[Bc (ne q2)]at s2;exact s2),by rw[Cm];exact r.len⟩
end
def BP(ir io iv:Nat):TS:=λD U H=>∃(l:Aw) (bs:List Aw) (a:Nat) (c:Aw) (xs:List V) (y:V),U[ir]?=some (some (.ref l))/\U[io]?=some (some (.int (a:Int)))/\U[iv]?=some (some y)/\H l=some (.lst (bs.map V.ref))/\bs[a]?=some c/\H c=some (.lst xs)/\xs.length<sizeLine/\D.nx U (upd H c (.lst (xs++[y])))
section
variable{X:Cx}{pos p0 p1 p2 p3 p4 p5:Gm}
def Qx{xr xo xv:Bg}{ir io iv:Nat}(hNr:X.N[ir]?=some xr)(hvr:mX X.env.scope xr)(hdr:(xr==("__debug__":Bg))=false)(hcr:(xr==("__classdict__":Bg))=false)(hNo:X.N[io]?=some xo)(hvo:mX X.env.scope xo)(hdo:(xo==("__debug__":Bg))=false)(dz:(xo==("__classdict__":Bg))=false)(hNv:X.N[iv]?=some xv)(hvv:mX X.env.scope xv)(hdv:(xv==("__debug__":Bg))=false)(hcv:(xv==("__classdict__":Bg))=false)(hpx:DX (.Name xo p1):=by exact λ_ _=>rfl)(au:Dv (.Subscript (.Name xr p0) (.Name xo p1) p2) "append" X.env (Bz (.Subscript (.Name xr p0) (.Name xo p1) p2) X.env)=Bz (.Subscript (.Name xr p0) (.Name xo p1) p2) X.env:=by rfl)
  (aS:((Bu p5 (A9 [.Name xv p4] X.env)).all (λx=>!x.1)&&(Iz p5 (G4 [] X.env)).all (λx=>x.1.isSome)
   && decide (([.Name xv p4]:List Expr).length+([]:List F9).length+(if ([]:List F9).isEmpty then 0 else 1)<30))=true:=by rfl)
  (ar:(p3.endLine==p5.line)=true:=by rfl) (hs:A9 [.Name xv p4] X.env=(false,Bz (.Name xv p4) X.env)::A9 [] X.env:=by exact u7 rfl) (ap:(Bu p5 (A9 [] X.env)).any (·.1)=false:=by exact J9 rfl)
  (bN:Dz (.Call (.Attribute (.Subscript (.Name xr p0) (.Name xo p1) p2) "append" p3) [.Name xv p4] [] p5) none pos.line X.env=Cj false:=by rfl):
  PS X (.Expr (.Call (.Attribute (.Subscript (.Name xr p0) (.Name xo p1) p2) "append" p3) [.Name xv p4] [] p5) pos) (BP ir io iv):=
 nJ (BE (uT Fp PySem.F.slot_list_append PySem.F.type_list_append KS (RX Qb (nX hNr hvr hdr hcr) (nX hNo hvo hdo dz) hpx) (J7 (nX hNv hvv hdv hcv) W6 hs) au aS ar hs ap) bN)
  λD U H h_=>by
   obtain⟨l,bs,a,c,xs,y,h1,h2,h3,h4,h5,h6,h7,h8⟩:=h_;refine⟨.ref l,h1,.int (a:Int),h2,l,bs.map V.ref,(a:Int),.ref c,rfl,rfl,jE.of h4,?_,.inl ⟨rfl,xs,jE.of h6⟩,y,h3,c,xs,y,rfl,rfl,h6,h7,h8⟩;have ha:a<bs.length:=(Ax.mp h5).1;unfold lU pD;rw[if_pos (by omega),if_pos (by rw[A0];omega)]
   show (bs.map V.ref)[((a:Int)).toNat]?=some (.ref c);rw[Ai,As,h5];rfl
end
def GH(q:Nat×Nat):D:=.tup [.int (q.1:Int),.int (q.2:Int)]
def BO(d:D):Option (Nat×Nat):=match d with
 | .tup [.int a,.int b]=>if 0<=a/\0<=b then some (a.toNat,b.toNat) else none
 |_=>none
def YH{q:Nat×Nat}(h:BO d=some q):d=GH q:=by
 unfold BO at h;split at h
 .rename_i a b;split at h
  .rename_i hz;cases h;unfold GH;rw[Hj hz.1,Hj hz.2]
  .cases h
 .cases h
def tY:List D->Option (List (Nat×Nat))
 | []=>some []
 |d::ds=>match BO d with|some q=>(match tY ds with|some qs=>some (q::qs)|none=>none)|none=>none
theorem PH:∀{ds:List D} {qs:List (Nat×Nat)},tY ds=some qs->ds=qs.map GH
 | [],qs,h=>by cases h;rfl
 |d::ds,qs,h=>by
  unfold tY at h
  cases hp:BO d with
  |none=>rw[hp]at h;cases h
  |some q=>
   rw[hp]at h
   cases hq:tY ds with
   |none=>rw[hq]at h;cases h
   |some r=>rw[hq]at h;cases h;rw[Aj,<-YH hp,<-PH hq]
def pC(aI:List (List Int))(a b:Nat):List (List Int):=aI.set a (aI.getD a []++[(b:Int)])
def sW(aI:List (List Int))(q:Nat×Nat):List (List Int):=pC (pC aI q.1 q.2) q.2 q.1
def FR(ir i1 i2:Nat)(Y:J5)(n:Nat)(qs:List (Nat×Nat)):Bool:=(match Y[ir]? with|some none=>true|_=>false)&&decide (n<=1000)&&decide (qs.length<=1000)&&(qs.all λq=>decide (q.1<n)&&decide (q.2<n))&&decide (i1<Y.length)&&decide (i2<Y.length)&&decide (ir≠i1)&&decide (ir≠i2)&&decide (i1≠i2)
def wF(ir i1 i2:Nat)(fi fc:EL):EO:=λY=>match fi Y with
 |some ds=>(match fc Y with
  |some ps=>(match tY ps with
   |some qs=>if FR ir i1 i2 Y ds.length qs=true then some (.rt (.lst ((qs.foldl sW (Bf ds.length [])).map GL))) else none
   |none=>none)
  |none=>none)
 |none=>none
def HE{aI:List (List Int)}{m a b:Nat}(h:∀ns∈aI,ns.length<=m):∀ns∈pC aI a b,ns.length<=m+1:=λns hn=>by
 unfold pC at hn;rcases List.mem_or_eq_of_mem_set hn with z|z
 .have:=h ns z;omega
 .subst z;rw[Af,Ay];refine Nat.add_le_add_right ?_ 1;rw[C9]
  cases hq:aI[a]? with
  |none=>exact Bh _
  |some ms=>exact h ms (Dc hq)
section
variable{X:Cx}{dP dw iT:Db}{ir i1 i2:Nat}{fi fc:EL}
def ŷ(S1:PS X dP (GB (yV [none] (tI X.K fi) (oT 0) (λ_ H Q=>Q true H) (T6 GC)) (oT ir)))(S2:PS X dw (T5 (tI X.K fc) (TR X.K 2 (MQ (oT i1) (MQ (oT i2) TQ))) (T8 (BP ir i1 i2) (BP ir i2 i1))))(S3:PS X iT (T7 (oN ir))):GT X [dP,dw,iT] (wF ir i1 i2 fi fc):=
 KD (EV S1 (EV S2 (JD S3))) λE U H h_=>by
  refine i7 h_ λY o B H0 V0 Z e r q=>?_;unfold wF at e
  cases ei:fi Y with
  |none=>rw[ei]at e;cases e
  |some ds=>
  rw[ei]at e;dsimp only at e
  cases ec:fc Y with
  |none=>rw[ec]at e;cases e
  |some ps=>
  rw[ec]at e;dsimp only at e
  cases ep:tY ps with
  |none=>rw[ep]at e;cases e
  |some qs=>
  rw[ep]at e;dsimp only at e;by_cases hok:FR ir i1 i2 Y ds.length qs=true
  .rw[if_pos hok]at e;cases e;have gz:=PH ep;unfold FR at hok;simp only[Be,decide_eq_true_eq,En]at hok;obtain⟨⟨⟨⟨⟨⟨⟨⟨k1,k2⟩,k3⟩,k4⟩,k5⟩,k6⟩,k7⟩,k8⟩,k9⟩:=hok
   have hir:Y[ir]?=some none:=by
    cases hq:Y[ir]? with
    |none=>rw[hq]at k1;cases k1
    |some x=>
     cases x with
     |none=>rfl
     |some c=>rw[hq]at k1;cases k1
   have hlr:ir<Y.length:=(Ax.mp hir).1;refine⟨Y,ds,B,H0,V0,Z,ei,r,λJ H1 s1 wk l aZ=>?_⟩
   refine⟨λi m U' H' ag=>m=ds.length-i/\i<=ds.length/\∃bs:List Aw,ag=bs.map V.ref/\bs.length=i/\H' l=some (.lst ag)/\(∀b∈bs,H1 b=none/\b≠l/\H' b=some (.lst []))/\bs.Nodup/\J0 H1 H',
    ⟨_,rfl,Bh _,[],rfl,rfl,v4,(λb hb=>by cases hb),Ed,j8 aZ⟩,?_⟩
   rintro i m U' H' ag ⟨rfl,bo,bs,rfl,hbl,hHl,gC,ay,hS⟩;by_cases ah:i<ds.length
   .refine .inr ⟨wk.go H' (w9.trans hS) i ah,by rw[A0,hbl,C1];omega,λx H3 hy=>?_⟩
    obtain⟨sH,_⟩:=wk.yld H' (w9.trans hS) i x H3 hy;unfold oT;dsimp only;rw[if_pos rfl];refine⟨Bh _,λb hb=>?_⟩
    have nl:b≠l:=λz=>by rw[z,sH _ _ hHl]at hb;cases hb
    have nb:b∉bs:=λz=>by rw[sH _ _ (gC b z).2.2]at hb;cases hb
    have h1b:H1 b=none:=hS.free (sH.free hb);refine⟨by rw[v9 (Cw nl)];exact sH _ _ hHl,ds.length-(i+1),by omega,rfl,ah,bs++[b],by rw[B9];rfl,by rw[Af,hbl];rfl,v4,λc hc=>?_,?_,?_⟩
    .rcases Aq.mp hc with z|z
     .obtain⟨z1,z2,z3⟩:=gC c z;refine⟨z1,z2,?_⟩;have ncb:c≠b:=λw'=>nb (by rw[<-w'];exact z)
      rw[v9 z2,v9 ncb];exact sH _ _ z3
     .rw[Ae.mp z];exact⟨h1b,nl,by rw[v9 nl];exact v4⟩
    .refine C5.mpr ⟨ay,by simp,λa ha c hc=>?_⟩;rw[Ae.mp hc];exact λz=>nb (z▸ha)
    .exact uJ aZ (uJ h1b (hS.trans sH))
   .have ei':bs.length=ds.length:=by omega
    refine .inl ⟨by have:=wk.stop H' (w9.trans hS);rw[show i=ds.length by omega];exact this,?_⟩
    have R1:=r.mono s1;have bE:∀a∈l::bs,H1 a=none:=λa ha=>(Ad.mp ha).elim (λz=>z▸aZ) λz=>(gC a z).1;have R2:SR X.K B H0 V0 H' ((l::bs)++Z) (U.set ir (some (.ref l))) Y:=(R1.moreL (l::bs) bE hS λa ha=>(Ad.mp ha).elim (λz=>⟨_,z▸hHl⟩) λz=>⟨_,(gC a z).2.2⟩).skip hir
    have hB:∀a∈l::bs,a∉B/\H0 a=none:=λa ha=>⟨(λz=>by
     obtain⟨u,hu⟩:=R1.zs a (R1.sub a z);rw[bE a ha]at hu
     cases hu),R1.same.free (bE a ha)⟩
    have hlb:l∉bs:=λz=>(gC l z).2.1 rfl;refine⟨Y,ps,B,H0,V0,_,ec,R2,λJ2 H2 s2 wk2=>?_⟩
    refine⟨λi m U' H3=>m=qs.length-i/\i<=qs.length/\U'[ir]?=some (some (.ref l))/\U'.length=Y.length/\H3 l=some (.lst (bs.map V.ref))/\kT H3 bs ((qs.take i).foldl sW (Bf ds.length []))/\(∀ns∈(qs.take i).foldl sW (Bf ds.length []),ns.length<=2*i)/\J0 H0 H3/\J0 (K5 (l::bs++Z) H2) (K5 (l::bs++Z) H3)/\(∀z∈l::bs++Z,∃u,H3 z=some u),
     ⟨_,rfl,Bh _,?_,?_,s2 _ _ hHl,?_,?_,R2.same.trans s2,λ_ _ h=>h,λz hz=>let ⟨u,hu⟩:=R2.zs z hz;⟨u,s2 _ _ hu⟩⟩,?_⟩
    .rw[C7 (by rw[R1.len];exact hlr)]
    .rw[Cm];exact R1.len
    .rw[Ii,<-ei'];exact kT.mono s2 (kT.new bs λb hb=>(gC b hb).2.2)
    .rw[Ii];intro ns br;rw[(List.mem_replicate.mp br).2];exact Bh _
    rintro i m U3 H3 ⟨rfl,hi3,g1,g2,g3,g4,g5,g6,g7,g8⟩
    have plen:ps.length=qs.length:=by rw[gz,A0]
    have vis:J0 (K5 (l::bs++Z) H2) H3:=g7.trans w9;by_cases eA:i<qs.length
    .refine .inr ⟨wk2.go H3 vis i (by omega),λU' H'=>U'[ir]?=some (some (.ref l))/\U'.length=Y.length/\H' l=some (.lst (bs.map V.ref))/\kT H' bs ((qs.take (i+1)).foldl sW (Bf ds.length []))/\(∀ns∈(qs.take (i+1)).foldl sW (Bf ds.length []),ns.length<=2*(i+1))/\J0 H0 H'/\J0 (K5 (l::bs++Z) H2) (K5 (l::bs++Z) H')/\(∀z∈l::bs++Z,∃u,H' z=some u),
      λU' H' hh=>⟨qs.length-(i+1),by omega,rfl,eA,hh⟩,λx H4 hy=>?_⟩
     obtain⟨sH,hx⟩:=wk2.yld H3 vis i x H4 hy;have hqi:qs[i]?=some qs[i]:=A3 eA;have hd:=hx (GH qs[i]) (by rw[gz,As,hqi];rfl) (l::bs++Z) g8 g7
     have hq4:=k4 qs[i] (Bo eA);have htk:qs.take (i+1)=qs.take i++[qs[i]]:=(List.take_append_getElem eA).symm;rw[htk,List.foldl_append];generalize qs[i]=qq at hd hq4;obtain⟨a,b⟩:=qq;dsimp only at hq4;obtain⟨p,xs,rfl,t1,t2⟩:=j3.mp hd;have hxs:xs=[.int (a:Int),.int (b:Int)]:=(Y6 (ns:=[(a:Int),(b:Int)])).mp t2;subst hxs
     have n1:i1<U3.length:=by rw[g2];exact k5
     have n2:i2<U3.length:=by rw[g2];exact k6
     refine⟨p,_,rfl,j6 w9 t1,rfl,_,_,rfl,_,_,rfl,rfl,?_⟩;generalize (qs.take i).foldl sW (Bf ds.length [])=aI at g4 g5;have hxl:bs.length=aI.length:=g4.len;have g4':=kT.mono sH g4;obtain⟨c1,fX,e1,e2,e3⟩:=g4'.get (j:=a) (by omega);have c1m:c1∈bs:=Dc e1
     have eC:pC aI a b=aI.set a (fX++[(b:Int)]):=by unfold pC;rw[C9,e2];rfl
     have I2:=kT.upd (ms:=fX++[(b:Int)]) ay g4' e1;rw[<-eC]at I2
     have hsz:∀(m:Nat),m<=2*i+1->m<sizeLine:=λm hm=>by rw[C1];omega
     have l1:fX.length<=2*i:=g5 fX (Dc e2)
     have gs1:((U3.set i1 (some (.int (a:Int)))).set i2 (some (.int (b:Int))))[ir]?=some (some (.ref l)):=by rw[Bc (Cw k8),Bc (Cw k7)];exact g1
     have gs2:((U3.set i1 (some (.int (a:Int)))).set i2 (some (.int (b:Int))))[i1]?=some (some (.int (a:Int))):=by rw[Bc (Cw k9),C7 n1]
     have gs3:((U3.set i1 (some (.int (a:Int)))).set i2 (some (.int (b:Int))))[i2]?=some (some (.int (b:Int))):=by rw[C7 (by rw[Cm];exact n2)]
     have lc1:l≠c1:=λz=>hlb (z▸c1m);refine⟨l,bs,a,c1,fX.map V.int,.int (b:Int),gs1,gs2,gs3,sH _ _ g3,e1,e3,hsz _ (by rw[A0];omega),?_⟩
     have m1:fX.map V.int++[V.int (b:Int)]=(fX++[(b:Int)]).map V.int:=by rw[B9];rfl
     rw[m1];obtain⟨c2,gc,f1,f2,f3⟩:=I2.get (j:=b) (by omega);have c2m:c2∈bs:=Dc f1;have lc2:l≠c2:=λz=>hlb (z▸c2m)
     have fC:pC (pC aI a b) b a=(pC aI a b).set b (gc++[(a:Int)]):=by show (pC aI a b).set b ((pC aI a b).getD b []++[(a:Int)])=_;rw[C9,f2];rfl
     have I3:=kT.upd (ms:=gc++[(a:Int)]) ay I2 f1;rw[<-fC]at I3;have l2:gc.length<=2*i+1:=HE g5 gc (Dc f2);refine⟨l,bs,b,c2,gc.map V.int,.int (a:Int),gs1,gs3,gs2,by rw[v9 lc1];exact sH _ _ g3,f1,f3,hsz _ (by rw[A0];exact l2),?_⟩
     have m2:gc.map V.int++[V.int (a:Int)]=(gc++[(a:Int)]).map V.int:=by rw[B9];rfl
     rw[m2];have jc:∀c∈bs,c∈l::bs++Z:=λc hc=>B4 _ (A7 _ hc);refine⟨gs1,by rw[Cm,Cm];exact g2,by rw[v9 lc2,v9 lc1];exact sH _ _ g3,I3,λns br=>?_,uJ (hB c2 (A7 _ c2m)).2 (uJ (hB c1 (A7 _ c1m)).2 (g6.trans sH)),(g7.trans (w6 sH)).trans ((rD (jc c1 c1m)).trans (rD (jc c2 c2m))),λz hz=>?_⟩
     .have:=HE (m:=2*i+1) (HE g5) ns br
      omega
     .by_cases q2:z=c2
      .exact⟨_,by rw[q2];exact v4⟩
      .rw[v9 q2];by_cases q1:z=c1
       .exact⟨_,by rw[q1];exact v4⟩
       .rw[v9 q1];obtain⟨u,hu⟩:=g8 z hz;exact⟨u,sH _ _ hu⟩
    .have eq':i=qs.length:=by omega
     subst eq';refine .inl ⟨by have:=wk2.stop H3 vis;rw[plen]at this;exact this,.ref l,g1,?_⟩
     rw[Ha]at g4;refine q (.ref l) H3 g6 (K3.mpr ⟨l,bs.map V.ref,rfl,jE.of ?_,kT.rep (λb hb=>(hB b (A7 _ hb)).1) g4⟩);rw[Q6 (hB l A6).1];exact g3
  .rw[if_neg hok]at e;cases e
end
section
variable{X:Cx}
def ì{i:Nat}{y:Bg}{py aX pos:Gm}(N:List Bg)(cap:List (Option Nat))(hc:X.calm=true)(hi:PI X ae af wi)(hg:∀cl C fp s H,PG (Q7 X N scope cl C fp s H) ae g)(ht:∀cl C fp s H,sV (Q7 X N scope cl C fp s H) ba tt)(he:∀cl C fp s H,PE (Q7 X N scope cl C fp s H) aT te)(hN:X.N.Nodup)(dU:X.N[i]?=some y)(hy:nG X.env.scope y)(hf:X.fn y=true\/X.env.scope.names.lookup y=some .local)(bN:Dz (.ListComp aT [⟨ae,af,ba,0⟩] scope pos) (some (.Name y py)) aX.line X.env=Cj true)(hok:pZ scope X.env.scope N cap X.N=true)(hs:∀x,C3 af X.env x=Cj x):
  PS X (.Assign [.Name y py] (.ListComp aT [⟨ae,af,ba,0⟩] scope pos) aX) (GB (yV cap wi g tt te) (oT i)):=by
 have c:=yN hok;exact Qw (N:=N) (cap:=cap) (wi:=wi) (g:=g) (tt:=tt) (te:=te) hc hi hg ht he c.kind c.cell c.loc c.fre c.out c.sel c.len hN dU hy hf bN hs
def X3{y t x1 x2:Bg}{ir i1 i2 kt:Nat}{py aX pos lp tp q1 q2 qt fpos rpos rp a0 a1 a2 a3 a4 a5 a6 b0 b1 b2 b3 b4 b5 b6:Gm}(hc:X.calm=true)(hp:Lq (B2 X.prog X.w) X.A X.env X.xe)(hi:ZI X (.Name t tp) af fi)(dq:ZI X (.Tuple [.Name x1 q1,.Name x2 q2] kt qt) iter2 fc)(hN:X.N.Nodup)(dU:X.N[ir]?=some y:=by rfl)(cY:X.N[i1]?=some x1:=by rfl)(hi2':X.N[i2]?=some x2:=by rfl)(hy:nG X.env.scope y:=by first|exact Dg rfl|exact Cp rfl)(h1:nG X.env.scope x1:=by first|exact Dg rfl|exact Cp rfl)(h2:nG X.env.scope x2:=by first|exact Dg rfl|exact Cp rfl)(hfy:X.fn y=true\/X.env.scope.names.lookup y=some .local:=by first|exact .inl rfl|exact .inr rfl)(hf1:X.fn x1=true\/X.env.scope.names.lookup x1=some .local:=by first|exact .inl rfl|exact .inr rfl)(hf2:X.fn x2=true\/X.env.scope.names.lookup x2=some .local:=by first|exact .inl rfl|exact .inr rfl)(hdy:(y==("__debug__":Bg))=false:=by decide)(hcy:(y==("__classdict__":Bg))=false:=by decide)(hd1:(x1==("__debug__":Bg))=false:=by decide)(hc1:(x1==("__classdict__":Bg))=false:=by decide)(bA:(x2==("__debug__":Bg))=false:=by decide)(bf:(x2==("__classdict__":Bg))=false:=by decide)(hok:pZ scope X.env.scope [t] [none] X.N=true:=by rfl)(htl:scope.names.lookup t=some .local:=by rfl)(jh:∀cl C fp s H,nG (Q7 X [t] scope cl C fp s H).env.scope t:=by intros;exact Dg rfl)(bN:Dz (.ListComp (.List [] lp) [⟨.Name t tp,af,[],0⟩] scope pos) (some (.Name y py)) aX.line X.env=Cj true:=by rfl)(hs:∀x,C3 af X.env x=Cj x:=by intro _;rfl)(bD:∀x,C3 iter2 X.env x=Cj x:=by intro _;rfl)(hn:(Dx [.Name x1 q1,.Name x2 q2] X.env).length=2:=by rfl)(bO:(Dx [.Name x1 q1,.Name x2 q2] X.env).findIdx? (·.1)=none:=by rfl)(he1:(Dx [.Name x1 q1,.Name x2 q2] X.env).map (·.2)=Li (.Name x1 q1) X.env::(Dx [.Name x2 q2] X.env).map (·.2):=by rfl)(bS:(Dx [.Name x2 q2] X.env).map (·.2)=Li (.Name x2 q2) X.env::(Dx [] X.env).map (·.2):=by rfl)(A1:PS X (.Expr (.Call (.Attribute (.Subscript (.Name y a0) (.Name x1 a1) a2) "append" a3) [.Name x2 a4] [] a5) a6) (BP ir i1 i2))(A2:PS X (.Expr (.Call (.Attribute (.Subscript (.Name y b0) (.Name x2 b1) b2) "append" b3) [.Name x1 b4] [] b5) b6) (BP ir i2 i1)):ZB X [.Assign [.Name y py] (.ListComp (.List [] lp) [⟨.Name t tp,af,[],0⟩] scope pos) aX,
   .For (.Tuple [.Name x1 q1,.Name x2 q2] kt qt) iter2 [.Expr (.Call (.Attribute (.Subscript (.Name y a0) (.Name x1 a1) a2) "append" a3) [.Name x2 a4] [] a5) a6,.Expr (.Call (.Attribute (.Subscript (.Name y b0) (.Name x2 b1) b2) "append" b3) [.Name x1 b4] [] b5) b6] [] fpos,
   .Return (some (.Name y rp)) rpos] (wF ir i1 i2 fi fc):=by
 have hi:=hi.h;have dq:=dq.h;refine⟨?_⟩;have vy:mX X.env.scope y:=hy.elim .inl λz=>.inr (.inl z);refine ŷ ?_ ?_ (LU (nX dU vy hdy hcy))
 .exact ì [t] [none] hc hi (λcl C fp s H=>BD (by simp) rfl (jh cl C fp s H) (.inl (by show (match scope.names.lookup t with|some .local=>true|some .cell=>true|_=>false)=true;rw[htl]))) (λcl C fp s H=>EU) (λcl C fp s H=>Td W6) hN dU hy hfy bN hok hs
 .exact Th hp hc dq (Tf hc (JZ (BD hN cY h1 hf1) (JZ (BD hN hi2' h2 hf2) Qu bS) he1) hn bO) (EV A1 (JD A2)) bD
end
section
variable{X:Cx}{o a b:Expr}{fo fa fb:ED}{p2 p3:Gm}
def ϊ:V->List V->Hp->VK->Prop:=λx xs H Q=>∃d kvs k y,x = .ref d/\xs=[kV k,y]/\H d=some (.dK kvs)/\Q ((lQ kvs k).getD y) H
theorem Č:xH X "dict.get" ϊ:=by
 intro aa s U H x xs v us Q I rx rv h;obtain⟨d,kvs,k,y,rfl,rfl,e,q⟩:=h;cases rx;obtain⟨u1,u2,rfl,r1,r2⟩:=rv.two;obtain⟨z,hd,vs,aC,dd⟩:=rN I.hok e;refine La PySem.F.slot_dict_get dd.typeIs PySem.F.entry_dict_get (PySem.F.args_dict_get_3 _ _ _) (meets_dict_get_default (mC X.prog X.w) d (wJ r1) hd u2) ⟨_,dd.mapOf,?_⟩;have hr:=aC.val k
 cases hk:lQ kvs k with
 |none=>
  rw[hk]at hr q
  cases hv:Kc vs k with
  |none=>exact⟨y,H,I.tok _,r2,q⟩
  |some v'=>rw[hv]at hr;exact hr.elim
 |some w'=>
  rw[hk]at hr q
  cases hv:Kc vs k with
  |none=>rw[hv]at hr;exact hr.elim
  |some v'=>rw[hv]at hr;exact⟨w',H,I.tok _,hr,q⟩
def tP(fo fa fb:ED):ED:=λY=>match fo Y with
 |some (.dct ks vs)=>(match fa Y with|some kd=>(match qO kd with|some k=>(match fb Y with|some d=>some ((kK ks vs k).getD d)|none=>none)|none=>none)|none=>none)
 |_=>none
def OX(ho:ZE X o fo)(ha:ZE X a fa)(hb:ZE X b fb)(au:Dv o "get" X.env (Bz o X.env)=Bz o X.env:=by rfl) (aS:((Bu p3 (A9 [a,b] X.env)).all (λx=>!x.1)&&(Iz p3 (G4 [] X.env)).all (λx=>x.1.isSome)
   && decide (([a,b]:List Expr).length+([]:List F9).length+(if ([]:List F9).isEmpty then 0 else 1)<30))=true:=by rfl) (ar:(p2.endLine==p3.line)=true:=by rfl) (hs:A9 [a,b] X.env=(false,Bz a X.env)::A9 [b] X.env:=by exact u7 rfl) (bD:A9 [b] X.env=(false,Bz b X.env)::A9 [] X.env:=by exact u7 rfl) (ap:(Bu p3 (A9 [b] X.env)).any (·.1)=false:=by exact J9 rfl):ZE X (.Call (.Attribute o "get" p2) [a,b] [] p3) (tP fo fa fb):=
 ⟨have ho:=ho.h;
 have ha:=ha.h;
 have hb:=hb.h;
 u9 (uT Fv PySem.F.slot_dict_get PySem.F.type_dict_get Č ho (J7 ha (J7 hb W6 bD) hs) au aS ar hs ap) λU H Q h_=>by
  refine i7 h_ λY d B H0 V0 Z e r q=>?_;unfold tP at e;split at e
  .rename_i ks vs eo;split at e
   .rename_i kd ek;split at e
    .rename_i k hk;split at e
     .rename_i dd ed;cases e;refine⟨Y,_,B,H0,V0,Z,eo,r,λx H1 s1 r1=>?_⟩;obtain⟨n,kvs,rfl,g1,g2,g3⟩:=l0.mp r1;have ga:=(Y7 g1).2;refine⟨.inr (.inr (.inl ⟨rfl,.inl ⟨_,ga⟩⟩)),Y,kd,B,H0,V0,Z,ek,r.mono s1,λy H2 s2 r2=>⟨Y,dd,B,H0,V0,Z,ed,(r.mono s1).mono s2,λz H3 s3 r3=>?_⟩⟩
      obtain rfl:=vP hk r2
      refine⟨n,kvs,k,z,rfl,rfl,s3 _ _ (s2 _ _ ga),q _ H3 (s1.trans (s2.trans s3)) ?_⟩;subst g2;have g4:=g3.mono (w6 (s2.trans s3));have hn:=yB (j:=k) g4
      cases hl:kK (kvs.map (·.1)) vs k with
      |some d'=>obtain⟨v,q1,q2⟩:=JW g4 hl;rw[q1];exact q2
      |none=>
       rw[hl]at hn
       cases hv:lQ kvs k with
       |some _=>rw[hv]at hn;cases hn
       |none=>exact r3
     .cases e
    .cases e
   .cases e
  .cases e⟩
end
end L3
namespace L2
open PySem PySem.Spec PyProof.Rows
section
variable{X:Cx}{aa:jA}{U:St}{H:Hp}{s:Am}{a:Aw}{kvs:List (f7×V)}{o:Jp}
def d4.freeze(I:d4 X aa U H s)(e:H a=some (.dK kvs))(ho:s.heap.get? a=some o):d4 X aa U (upd H a (.frz o (.dK kvs))) s:=by
 have nn:∀{b:Aw},H b=none->b≠a:=λh z=>by subst z;rw[e]at h;cases h
 have nt:∀{b xs},H b=some (.tup xs)->b≠a:=λh z=>by subst z;rw[e]at h;cases h
 have nf:∀{b ob u},H b=some (.frz ob u)->b≠a:=λh z=>by subst z;rw[e]at h;cases h
 have nb:∀{b ps},H b=some (.tbl ps)->b≠a:=λh z=>by subst z;rw[e]at h;cases h
 have no:∀{b c},H b=some (.own c)->b≠a:=λh z=>by subst z;rw[e]at h;cases h
 refine I.stepN (h':=s.heap) (g':=s.gens) (t':=s.toks) (d':=s.drawn) (ch:=[]) (λ_ z=>nomatch z) (λb o _ _ _ q _=>q) (λb o _ _ _ q _=>⟨o.slots,q⟩) (λb o _ q n=>by rw[v9 (nn n)];exact n) (λb o _ q=>⟨o,q⟩)
  (λb xs q=>by rw[v9 (nt q)];exact q) (λb ob u q=>by rw[v9 (nf q)];exact q) (λb ps q=>⟨#[],by rw[v9 (nb q),q];simp⟩) (λm h=>h) (λb u q=>?_) I.bare
 by_cases hb:b=a
 .subst hb;rw[v4]at q;cases q;exact⟨ho,I.hok _ _ e⟩
 .rw[v9 hb]at q
  exact(I.hok b u q).stay (λc v _ r=>r) (λc r=>by rw[v9 (no r)];exact r) (λc xs r=>by rw[v9 (nt r)];exact r) λc ob v r=>by rw[v9 (nf r)];exact r
theorem lH.thaw(e:H a=some (.frz o (.dK kvs)))(x:lH P w H h b u):lH P w (upd H a (.dK kvs)) h b u:=by
 have nt:∀{b xs},H b=some (.tup xs)->b≠a:=λh z=>by subst z;rw[e]at h;cases h
 have no:∀{b c},H b=some (.own c)->b≠a:=λh z=>by subst z;rw[e]at h;cases h
 have nf:∀{b ob c},H b=some (.frz ob (.own c))->b≠a:=λh z=>by subst z;rw[e]at h;cases h
 induction u with
 |dT ks=>obtain⟨z,y,xs,r,c⟩:=x;exact⟨z,y,xs,Hg.mapP r λp q z=>⟨z.1,by rw[v9 (nt z.2.1)];exact z.2.1,z.2.2⟩,c⟩
 |ins C dx fs=>obtain⟨d,c⟩:=x;exact⟨by rw[v9 (no d)];exact d,c⟩
 |frz ob u ih=>exact⟨x.1,ih x.2⟩
 |tbl ps=>obtain⟨qs,e1,t,c⟩:=x;refine⟨qs,e1,t,λp v q=>?_⟩;obtain⟨c',oc,vs,tk,z1,z2,z3⟩:=c p v q;exact⟨c',oc,vs,tk,z1,by rw[v9 (nf z2)];exact z2,z3⟩
 |_=>exact x
def d4.thaw(I:d4 X aa U H s)(e:H a=some (.frz o (.dK kvs)))(hz:∀p u,X.H₀ a≠some (.frz p u)):d4 X aa U (upd H a (.dK kvs)) s:=by
 have nn:∀{b:Aw},H b=none->b≠a:=λh z=>by subst z;rw[e]at h;cases h
 refine⟨I.ok,I.os,I.bare,⟨I.base.keep,I.base.slot,λb ob q n hx=>?_,I.base.there,λb xs q=>?_,λb ob u q=>?_,λb ps q=>?_⟩,I.loc,I.cell,?_,λx c q=>?_,λp hp=>?_,λb u q=>?_,I.len⟩
 .have z:=I.base.free b ob q n hx;rw[v9 (nn z)];exact z
 .have z:=I.base.tups b xs q;rw[v9 (λy=>by subst y;rw[e]at z;cases z)];exact z
 .have z:=I.base.frzs b ob u q;rw[v9 (λy=>by subst y;exact hz _ _ q)];exact z
 .obtain⟨m,z⟩:=I.base.tbls b ps q;exact⟨m,by rw[v9 (λy=>by subst y;rw[e]at z;cases z)];exact z⟩
 .rw[v9 (nn I.free)];exact I.free
 .rw[v9 (nn (I.freeC x c q))];exact I.freeC x c q
 .obtain⟨h1,h2,h3⟩:=I.pin p hp;exact⟨h1,by rw[v9 (nn h2)];exact h2,h3⟩
 .by_cases hb:b=a
  .subst hb;rw[v4]at q;cases q;exact(I.hok _ _ e).2
  .rw[v9 hb]at q;exact(I.hok b u q).thaw e
end
def Uf(a:Aw)(o:Jp)(kvs:List (f7×V)):It where
 go:=λi H=>H a=some (.frz o (.dK kvs))/\i<kvs.length
 yld:=λi H x H'=>H'=H/\∃p,kvs[i]?=some p/\x=kV p.1
 stop:=λi H=>H a=some (.frz o (.dK kvs))/\kvs.length<=i
theorem Hg.get'{α β:Type}{R:α->β->Prop}:∀{l₁:List α} {l₂:List β} {i:Nat} {x:α},Hg R l₁ l₂->l₁[i]?=some x->∃y,l₂[i]?=some y/\R x y
 |_,_,_,_,.nil,e=>by simp at e
 |_,_,0,_,.cons r _,e=>by simp at e;subst e;exact⟨_,rfl,r⟩
 |_,_,i+1,_,.cons _ t,e=>by obtain⟨u,h1,h2⟩:=Hg.get' (i:=i) t (by simpa using e);exact⟨u,by simpa using h1,h2⟩
def Ϥ(h:(mC P w).is k u=true):i6 (kV k) u:=by
 rcases rK h with⟨i,t,rfl,rfl⟩|⟨x,t,rfl,rfl⟩
 .exact⟨t,rfl⟩
 .exact⟨t,rfl⟩
def Ss(ok:lB P w H h)(e:H a=some (.frz o (.dK kvs)))(hd:o.data = .dict es ep):∃vs,KV kvs vs/\h.DictAt (mC P w) a vs ep:=by obtain⟨ho,z,y,vs,aC,o',cZ,eZ,bh,c,d,r⟩:=ok a _ e;rw[ho]at bh;cases bh;rw[hd]at d;cases d;exact⟨vs,aC,o,es,ho,c,hd,r⟩
def XU{P:By}{w:Cg}{K:A5}{tg:Expr}{a it:Aw}{o:Jp}{kvs:List (f7×V)}{es:Array DictEntry}{ep:Nat}(hd:o.data = .dict es ep):pF P w K tg (Uf a o kvs) [it] it (λi h=>h.IsKeyIter it a i kvs.length ep) where
 mem:=by simp
 obj:=λi h st b hb=>by
  have e:b=it:=by simpa using hb
  subst e;obtain⟨o,e,c,d⟩:=st;exact⟨o,e,λv z=>by rw[d]at z;cases z⟩
 keep:=λi h h' st k=>st.at λo e=>k it (by simp) o e
 item:=by
  intro X hP hw hK hc i aa s U H E I hf st hg;subst hP hw hK;obtain⟨e,hi⟩:=hg;obtain⟨vs,aC,da⟩:=Ss I.hok e hd;obtain⟨f0,f1,f2,f3,f4,f5⟩:=hf it (by simp);have hl:kvs.length=vs.length:=aC.length;obtain⟨q,hq,fB,gA⟩:=Hg.get' aC (i:=i) (x:=kvs[i]) (A3 hi)
  have aR:s.heap.IsKeyIter it a i vs.length ep:=hl▸st
  refine wpAny_pyNext_dict_item aR da (k:=q.1) (v:=q.2) hq λaE h' hk dw sb=>?_;have I1:d4 X aa U H { s with heap:=h' }:=I.turned (t':=s.toks) (λb o hb e=>(sb.2 b hb).trans e) f0 f1 f3 f4 f5;obtain⟨o2,e2,c2,d2⟩:=id dw;refine⟨aE,rfl,GF (s:={ s with heap:=h' }) e2 c2 d2 (by decide) ⟨kV kvs[i].1,H,I1,?_,⟨rfl,_,A3 hi,rfl⟩,hl▸dw,λb hb=>(hf b hb).1⟩⟩;rw[fB];exact Ϥ hk
 done:=by
  intro X hP hw hK hc i aa s U H E I hf st hg;subst hP hw hK;obtain⟨e,hi⟩:=hg;obtain⟨vs,aC,da⟩:=Ss I.hok e hd;obtain⟨f0,f1,f2,f3,f4,f5⟩:=hf it (by simp);have hl:kvs.length=vs.length:=aC.length
  have aR:s.heap.IsKeyIter it a i vs.length ep:=hl▸st
  exact wpAny_pyNext_dict_end (I.ok.hd hc) aR da (Gi (by omega)) λh' eb=>⟨rfl,I.turned (t':=s.toks) (λb o hb e=>eb b o hb e) f0 f1 f3 f4 f5⟩
 self:=λ_ _ _ _ _ st h=>wpAny_pyIter_keyiter st h
def RP(td:TE):TI:=λU H R=>td U H λx H1=>∃a kvs,x = .ref a/\H1 a=some (.dK kvs)/\∀o,R (Uf a o kvs) (upd H1 a (.frz o (.dK kvs)))
def Š{X:Cx}{tg l:Expr}{td:TE}(hl:PE X l td):PI X tg l (RP td):=by
 intro aa s U H R I h;refine jG (hl aa s U H _ I h) λv s1 x H1 I1 r1 q1=>?_;obtain⟨a,kvs,e',e,q⟩:=q1;subst e';cases r1;obtain⟨z,hd,vs,aC,dd⟩:=rN I1.hok e;obtain⟨ep,o,es,ho,c,d,r⟩:=dd.dictAt;refine wpAny_pyIter_dict hd ⟨o,es,ho,c,d,r⟩ ?_;have I2:=(I1.freeze e ho).kept (h':=s1.heap.push { cls:=.type "dict_keyiterator",data:=.fields #[.ref a,.int 0 0,.int vs.length 0,.int ep 0] }) (t':=s1.toks) λb ob q=>A8 _ q
 have hl:kvs.length=vs.length:=aC.length;refine⟨s1.heap.objs.size,[s1.heap.objs.size],_,_,_,rfl,I2,XU (es:=es) (ep:=ep) d,⟨_,Au _ rfl,rfl,by rw[hl];rfl⟩,λb hb=>?_,q o⟩
 have e2:b=s1.heap.objs.size:=by simpa using hb
 subst e2;exact I1.fpOk (Ak _) (by rw[v9 (D4 (Ao ho))];exact I1.hok.fresh (Ak _))
end L2
namespace L3
open PySem PySem.Spec PyProof.Rows L2
theorem O5{κ β:Type}[DecidableEq κ]:∀(l:List (κ×β)) (j:Nat) (p:κ×β),(l.map (·.1)).Nodup->l[j]?=some p->(l.find? λkv=>decide (kv.1=p.1))=some p
 | [],j,p,_,e=>by simp at e
 |x::l,0,p,_,e=>by simp at e;subst e;simp
 |x::l,j+1,p,nd,e=>by
  rw[Aj,Bm]at nd
  have e':l[j]?=some p:=by simpa using e
  have hx:¬x.1=p.1:=λz=>nd.1 (z▸Bq (Dc e'));rw[F4,decide_eq_false hx];exact O5 l j p nd.2 e'
theorem Ō{kvs:List (f7×V)}{vs:List (f7×Ac)}(aC:KV kvs vs):kvs.map (·.1)=vs.map (·.1):=by
 induction aC with
 |nil=>rfl
 |cons r _ ih=>rw[Aj,Aj,ih,r.1]
def Ĺ(i:Nat):TE:=λU H Q=>∃a kvs,U[i]?=some (some (.ref a))/\H a=some (.dK kvs)/\kvs.length<=f9/\∀l,H l=none->Q (.ref l) (upd H l (.lst (kvs.map (·.2))))
def Ż{H:Hp}{a l:Aw}{o u v:HO}(e:H a=some v)(n:l≠a):upd (upd (upd H a o) l u) a v=upd H l u:=by
 funext b;unfold upd;by_cases h1:b=a
 .subst h1;rw[if_pos rfl,if_neg (Cw n)];exact e.symm
 .rw[if_neg h1,if_neg h1]
section
variable{X:Cx}{pos:Gm}
def ç(hc:X.calm=true)(hi:PE X af (oN i))(hg:∀cl C fp s H,PG (Q7 X N scope cl C fp s H) ae (oT 0))(he:∀cl C fp s H,PE (Q7 X N scope cl C fp s H) aT (FF (oN 1) (oN 0)))(hok:pZ scope X.env.scope N [none,some i] X.N=true)(hs:∀x,C3 af X.env x=Cj x):PE X (.ListComp aT [⟨ae,af,[],0⟩] scope pos) (Ĺ i):=by
 have c:=yN hok;intro aa s U H Q I h;obtain⟨a,kvs,hσ,e,hl,q⟩:=h
 have hz:∀p u,X.H₀ a≠some (.frz p u):=λp u z=>by have y:=I.base.frzs _ _ _ z;rw[e]at y;cases y
 obtain⟨_,_,vs,aC,dd⟩:=rN I.hok e;obtain⟨_,_,_,_,_,_,_,_,ay⟩:=dd.dictAt
 have nd:(kvs.map (·.1)).Nodup:=by rw[Ō aC];exact ay
 refine jG (JC (N:=N) (cap:=[none,some i]) (wi:=RP (oN i)) (g:=oT 0) (tt:=λ_ H Q=>Q true H) (te:=FF (oN 1) (oN 0)) hc (Š hi) hg (λ_ _ _ _ _=>EU) he c.kind c.cell c.loc c.fre c.out c.sel c.len hs aa s U H
  (λv H'=>∃o l,v = .ref l/\H l=none/\H'=upd (upd H a (.frz o (.dK kvs))) l (.lst (kvs.map (·.2)))) I ?_) λu s' v H' I' rv qv=>?_
 .refine⟨.ref a,hσ,a,kvs,rfl,e,λo l aZ=>?_⟩
  have nl:l≠a:=λz=>by subst z;rw[v4]at aZ;cases aZ
  have fP:H l=none:=by rw[v9 nl]at aZ;exact aZ
  refine⟨λj m U' H' ag=>m=kvs.length-j/\j<=kvs.length/\ag=(kvs.take j).map (·.2)/\(∃x,U'=[x,some (.ref a)])/\H'=upd (upd H a (.frz o (.dK kvs))) l (.lst ag),⟨_,rfl,Bh _,rfl,⟨none,?_⟩,rfl⟩,?_⟩
  .unfold l7;simp[hσ]
  .rintro j m U' H' ag ⟨rfl,hj,rfl,⟨x,rfl⟩,rfl⟩
   have gm:upd (upd H a (.frz o (.dK kvs))) l (.lst ((kvs.take j).map (·.2))) a=some (.frz o (.dK kvs)):=by rw[v9 (Cw nl),v4]
   by_cases ah:j<kvs.length
   .refine .inr ⟨⟨gm,ah⟩,yG (by rw[A0,D7];omega),λy H2 hy=>?_⟩
    obtain⟨rfl,p,hp,rfl⟩:=hy;unfold oT;dsimp only;rw[if_pos rfl];refine⟨.ref a,rfl,kV p.1,rfl,a,p.2,rfl,.inl ⟨kvs,p.1,.inr ⟨o,gm⟩,rfl,?_⟩,v4,kvs.length-(j+1),by omega,rfl,ah,?_,⟨_,rfl⟩,ż⟩
    .unfold lQ;rw[O5 kvs j p nd hp];rfl
    .rw[List.take_add_one,hp,B9];rfl
   .have ej:j=kvs.length:=by omega
    subst ej;rw[Ha]at gm ⊢;exact .inl ⟨⟨gm,Ak _⟩,o,l,rfl,fP,rfl⟩
 .obtain⟨o,l,rfl,fP,rfl⟩:=qv
  have nl:l≠a:=λz=>by subst z;rw[e]at fP;cases fP
  have I2:=I'.thaw (by rw[v9 (Cw nl),v4]) hz;rw[Ż e nl]at I2;exact⟨_,_,I2,rv,q l fP⟩
def AJ(i:Nat):EL:=λY=>match Y[i]? with
 |some (some (.sh (.dct ks vs)))=>if ks.length<=f9 then some vs else none
 |_=>none
def X0(i:Nat)(N:List Bg)(hc:X.calm=true)(hi:PE X af (oN i))(hg:N.Nodup->∀cl C fp s H,PG (Q7 X N scope cl C fp s H) ae (oT 0))(he:∀cl C fp s H,PE (Q7 X N scope cl C fp s H) aT (FF (oN 1) (oN 0)))(hok:pZ scope X.env.scope N [none,some i] X.N=true:=by rfl)(hs:∀x,C3 af X.env x=Cj x:=by intro _;rfl)(nd:N.Nodup:=by decide +kernel):ZF X (.ListComp aT [⟨ae,af,[],0⟩] scope pos) (AJ i):=
 ⟨u9 (ç hc hi (hg nd) he hok hs) λU H Q h_=>by
  refine i7 h_ λY ds B H0 V0 Z e r q=>?_;unfold AJ at e;split at e
  .rename_i ks vs hρ;split at e
   .rename_i hl;cases e;obtain⟨v,h1,h2⟩:=r.sh i _ hρ;obtain⟨a,kvs,rfl,g1,g2,g3⟩:=l0.mp h2
    have hk:kvs.length=ks.length:=by rw[<-g2,A0]
    exact⟨a,kvs,h1,(Y7 g1).2,by omega,λl hn=>q l _ _ (j8 hn) hn v4 (g3.mono (rH hn (j8 hn)))⟩
   .cases e
  .cases e⟩
end
end L3
namespace HT
open PySem PyProof.Rows
section
variable{prog:By}{w:Cg}{A:C6}{E:VP}{s:Am}
def YJ(n:Nat):D2 ((n:Int)-1) (-1) (-1)=n:=by
 unfold D2
 have h1:¬(-1:Int)>0:=by omega
 simp only[h1,if_false,Int.neg_neg,Int.ediv_one]
 split<;>omega
def UK{n:Nat}{Q:Int×Int×Nat->Am->Prop}(hs:s.heap.IsSliceOf sl .none .none vk)(pk:Jt vk (some (-1)))(h:Q ((n:Int)-1,-1,n) s):
  Ar (B2 prog w) A (Er (.ref sl) (Cj (n:Int))) Q E s:=by
 obtain⟨os,cL,cS,cV⟩:=id hs;unfold Er D0.Slice.sliceFields;refine A4 (A4 (F8 cL cV (x:=.none) rfl (A4 (F8 cL cV (x:=.none) rfl (A4 (F8 cL cV (x:=vk) rfl (wpAny_pure ?_)))))));refine A4 (zZ pk ?_);show Ar _ _ (if ((-1:Int)==0)=true then _ else _) _ _ s;rw[if_neg (by decide)];refine A4 (zZ .none (A4 (zZ .none (A4 (wpAny_pure ?_)))))
 show Ar _ _ (Cj ((n:Int)-1,(-1:Int),D2 ((n:Int)-1) (-1) (-1))) _ _ s;rw[YJ];exact wpAny_pure h
def ê(xs:Array Ac):((Aa xs.size).filterMap λ(m:Nat)=>xs[(((xs.size:Int)-1)+(m:Int)*(-1)).toNat]?).toArray=xs.toList.reverse.toArray:=by
 have e:(λ(m:Nat)=>xs[(((xs.size:Int)-1)+(m:Int)*(-1)).toNat]?)=((λx=>xs[x]?)∘λm=>xs.size-1-m):=by
  funext m
  have:(((xs.size:Int)-1)+(m:Int)*(-1)).toNat=xs.size-1-m:=by omega
  show xs[_]?=xs[_]?;rw[this]
 rw[e,<-List.filterMap_map,PySem.W.krv_range,List.filterMap_reverse,PySem.W.krv_all]
def getItem_tuple_rev{Q:VP}(ht:Kq s.heap t items)(hs:s.heap.IsSliceOf sl .none .none vk)(pk:Jt vk (some (-1)))(h:Q (.ref s.heap.objs.size) { s with heap:=s.heap.push { cls:=.type "tuple",data:=.seq items.toList.reverse.toArray } })(hsz:items.size<=sizeLine):Ar (B2 prog w) A (If (.ref t) (.ref sl)) Q E s:=by
 have hk:sizeOk (.seq items.toList.reverse.toArray):=by show items.toList.reverse.toArray.size<=sizeLine;simpa using hsz
 obtain⟨os,cL,cS,cV⟩:=id hs;have iJ:s.TypeIs (.ref sl) "slice":=⟨os,cL,cS⟩;unfold If
 try with_reducible refine Cu ?_
 first|refine A4 (wpAny_pure ?_)|skip
 refine A4 (Jz ht.typeIs (by decide) ?_)
 refine A4 (Ec (name:=Bk "__getitem__") ht.typeIs Bt
  (Fn Bt ht.typeIs Jk ?_ (Ju _ _)))
 show Ar _ _ (Gr (.ref t) >>= _) _ _ s;refine A4 (M0 ht ?_);refine A4 (Jn iJ ?_);rw[if_pos (by decide)];refine A4 (UK hs pk ?_)
 have bL:¬((((items.size:Int)-1)==0&&(-1:Int)==1&&items.size==items.size)=true):=by intro q;rw[Be,Be]at q;exact absurd (Lr q.1.2) (by decide)
 show Ar _ _ (if (((items.size:Int)-1)==0&&(-1:Int)==1&&items.size==items.size)=true then _ else _) _ _ s;rw[if_neg bL,ê]
 first
  |exact A4 (m:=Cv _) (C4 (wpAny_pure ⟨_,rfl,wpAny_pure h⟩) hk)
  |exact A4 (m:=Cv _) (C4 (A4 (wpAny_pure (wpAny_pure ⟨_,rfl,wpAny_pure h⟩))) hk)
  |exact A4 (A4 (m:=Cv _) (C4 (wpAny_pure (wpAny_pure ⟨_,rfl,wpAny_pure h⟩)) hk))
  |exact A4 (A4 (m:=Cv _) (C4 (wpAny_pure ⟨_,rfl,wpAny_pure h⟩) hk))
end
end HT
namespace L3
open PySem PySem.Spec PyProof.Rows L2
theorem RG:∀{xs:List V} {us:List Ac},W3 xs us->W3 xs.reverse us.reverse
 |_,_,.nil=>.nil
 |_,_,.cons (a:=a) (b:=b) r t=>by rw[Io,Io];exact(RG t).append (.cons r .nil)
theorem Rx{K:A5}{H:Hp}:∀{ds:List D} {xs:List V},J3 K H ds xs->J3 K H ds.reverse xs.reverse
 | [],_,h=>by rw[K7]at h;subst h;exact J3.nil
 |d::ds,_,h=>by obtain⟨v,vs,rfl,h2,h3⟩:=j9.mp h;rw[Io,Io];exact(Rx h3).append (J3.one h2)
section
variable{X:Cx}{e k:Expr}{pos p2:Gm}
def FV(fa fk:ED):ED:=λY=>match fa Y with
 |some (.tup ds)=>(match fk Y with|some (.int i)=>if i = -1 then some (.tup ds.reverse) else none|_=>none)
 |_=>none
def ě(he:PE X e te)(hk:PE X k tk):PE X (.Subscript e (.Slice none none (some k) p2) pos)
  (λU H Q=>te U H λx H1=>tk U H1 λy H2=>y = .int (-1)/\∃a xs,x = .ref a/\jF X.K H2 a xs/\∀p,H2 p=none->Q (.ref p) (upd H2 p (.tup xs.reverse))):=by
 intro aa s U H Q I h;refine M6 (jG (he aa s U H _ I h) λv s1 x H1 I1 r1 q1=>?_);refine wpAny_Slice ?_;rw[M1];refine wpAny_pure ?_;refine wpAny_pure ?_;rw[evalPart_some];refine jG (hk aa s1 U H1 _ I1 q1) λvk s3 y H3 I3 r3 ⟨hy,a,xs,hx,sq,q⟩=>?_;subst hy hx;obtain⟨t,rfl⟩:=r3;cases r1;have I4:d4 X aa U H3 { s3 with heap:=s3.heap.push { cls:=.type "slice",data:=.fields #[.none,.none,.int (-1) t] } }:=I3.kept (t':=s3.toks) λb ob q=>A8 _ q
 obtain⟨its,r,ht,hz⟩:=I4.tuple sq;have hv:=W3.length r;show Ar (B2 X.prog X.w) X.A (Kk e (.Slice none none (some k) p2) (.ref a) (.ref s3.heap.objs.size)) (EP X aa U Q) X.xe { s3 with heap:=s3.heap.push { cls:=.type "slice",data:=.fields #[.none,.none,.int (-1) t] } };refine tail_any (T:="tuple") (ops:=[.ref a,.ref s3.heap.objs.size]) ht.typeIs Bt.lookup ?_ (by with_unfolding_all rfl)
 refine HT.getItem_tuple_rev ht (Cl.IsSliceOf.new ..) (.int _ _) ?_ (by rw[Ag,<-hv];exact hz)
 refine⟨.ref _,_,I4.laid (t':=s3.toks) (o:=.tup xs.reverse) (λb ob q=>A8 _ q) (Ak _) ?_,rfl,q _ (I4.hok.fresh (Ak _))⟩;exact⟨by rw[List.length_reverse];exact hz,_,RG r,qL.new _ _⟩
def ž(ha:ZE X e fa)(hk:ZE X k fk):ZE X (.Subscript e (.Slice none none (some k) p2) pos) (FV fa fk):=
 ⟨have ha:=ha.h;
 have hk:=hk.h;
 u9 (ě ha hk) λU H Q h_=>by
  refine i7 h_ λY d B H0 V0 Z e r q=>?_;unfold FV at e;split at e
  .rename_i ds ed;split at e
   .rename_i i ei;split at e
    .rename_i hi;cases e;refine⟨Y,_,B,H0,V0,Z,ed,r,λv H1 s1 r1=>⟨Y,_,B,H0,V0,Z,ei,r.mono s1,λu H2 s2 r2=>?_⟩⟩;rw[v8]at r2;subst r2 hi;obtain⟨a,xs,rfl,h1,h2⟩:=j3.mp (r1.mono (w6 s2));refine⟨rfl,a,xs,rfl,j6 w9 h1,λp hp=>?_⟩;have sn:=j8 (o:=HO.tup xs.reverse) hp;refine q _ _ (s1.trans (s2.trans sn)) (j3.mpr ⟨p,xs.reverse,rfl,jF.of ?_,Rx (h2.mono (w6 sn))⟩);rw[Q6 (((r.mono s1).mono s2).newer hp)]
     exact v4
    .cases e
   .cases e
  .cases e⟩
end
end L3
namespace L3
open PySem PySem.Spec PyProof.Rows L2 PySem.SeqAt
section
variable{X:Cx}
def rZ(i:Nat){x:Bg}(hN:X.N[i]?=some x:=by rfl)(hv:mX X.env.scope x:=by first|exact Dg rfl|exact Cp (Dg rfl)|exact Cp (Cp rfl))(hd:(x==("__debug__":Bg))=false:=by decide)(aO:(x==("__classdict__":Bg))=false:=by decide):ZQ X (.Name x pos) (kU i):=
 ⟨qv i hN hv hd aO⟩
end
section
variable{X:Cx}{e:Expr}
def j5(h:ZE X e f):ZQ X e (d8 f):=
 ⟨FZ h.h⟩
end
section
variable{X:Cx}{e:Expr}{es:List Expr}{f:ED}{g:EL}{pos:Gm}
def y4:ZA X [] i3:=
 ⟨yK ⟩
def z6(ha:ZE X e f)(hr:ZA X es g)(hs:A9 (e::es) X.env=(false,Bz e X.env)::A9 es X.env:=by exact u7 rfl):ZA X (e::es) (z9 f g):=
 ⟨rA ha.h hr.h hs⟩
end
section
variable{X:Cx}{a b c:Expr}{fa fb fc:ED}{pos:Gm}
def MA{fb:EL}(hu:X.A.units+64<Cz)(ha:ZE X a fa)(hb:ZQ X b fb)(hm:Cs .In b=false:=by with_unfolding_all rfl):ZT X (.Compare a [.In] [b] pos) (y9 (jS false fa fb)):=
 ⟨Sg hu ha.h hb.h hm⟩
def xS{fb:EL}(hu:X.A.units+64<Cz)(ha:ZE X a fa)(hb:ZQ X b fb)(hm:Cs .NotIn b=false:=by with_unfolding_all rfl):ZT X (.Compare a [.NotIn] [b] pos) (y9 (jS true fa fb)):=
 ⟨Tw hu ha.h hb.h hm⟩
def j4{fa:EL}(ha:ZQ X a fa)(hb:ZE X b fb)(hs:DX b:=by exact λ_ _=>rfl):ZE X (.Subscript a b pos) (jH fa fb):=
 ⟨Zz ha.h hb.h hs⟩
def TF{lo hi:Option Expr}{p2:Gm}{fl fh:J5->Option (Option Int)}(he:ZE X a fa)(hl:ZO X lo fl)(hh:ZO X hi fh):ZE X (.Subscript a (.Slice lo hi none p2) pos) (l8 fa fl fh):=
 ⟨Sf he.h hl.h hh.h⟩
end
section
variable{X:Cx}{a b e o:Expr}{pos aU p:Gm}{f fa fb:ED}
def uG(hu:X.A.units+64<Cz)(ho:ZE X o fa)(hi:ZE X a fb)(hs:BU a:=by exact λ_ _=>rfl):ZE X (.Subscript o a pos) (m8 fa fb):=
 ⟨ű hu ho.h hi.h hs⟩
end
end L3
namespace P
open PySem L2 L3
abbrev dI(i:Int):J5->Option D:=dC (.int i)
abbrev jC(i:Nat)(j:Int):J5->Option D:=jH (d8 (z7 i)) (dI j)
abbrev lX:J5->Option Out:=jB (dC (.bl false))
abbrev jT(i:Nat):J5->Option (List D):=z9 (z7 i) i3
abbrev kF(i j:Nat):J5->Option (List D):=z9 (z7 i) (z9 (z7 j) i3)
abbrev kQ(i j k:Nat):J5->Option (List D):=z9 (z7 i) (z9 (z7 j) (z9 (z7 k) i3))
abbrev zH(i j k l:Nat):J5->Option (List D):=z9 (z7 i) (z9 (z7 j) (z9 (z7 k) (z9 (z7 l) i3)))
abbrev xC(i j k l m:Nat):J5->Option (List D):=z9 (z7 i) (z9 (z7 j) (z9 (z7 k) (z9 (z7 l) (z9 (z7 m) i3))))
abbrev Ub(i j k l m n:Nat):J5->Option (List D):=z9 (z7 i) (z9 (z7 j) (z9 (z7 k) (z9 (z7 l) (z9 (z7 m) (z9 (z7 n) i3)))))
def top(i:Nat):Db:=PySem.Challenge.pw_pageties_k06_whole_papers.main.body.getD i (.Pass ⟨0,0,0,0⟩)
abbrev XE:Db:=top 40
abbrev XG:Db:=top 41
abbrev XF:Db:=top 42
abbrev XD:Db:=top 43
abbrev Vy:Db:=top 44
abbrev YR:Db:=top 5
abbrev VA:Db:=top 2
abbrev XH:Db:=top 6
abbrev YQ:Db:=top 7
abbrev V5:Db:=top 8
abbrev Um:Db:=top 9
abbrev XB:Db:=top 10
abbrev UW:Db:=top 17
abbrev Uv:Db:=top 19
abbrev Vz:Db:=top 20
abbrev UX:Db:=top 11
abbrev V8:Db:=top 12
abbrev YL:Db:=top 13
abbrev VR:Db:=top 21
abbrev UV:Db:=top 22
abbrev Ve:Db:=top 16
abbrev Vx:Db:=top 23
abbrev VU:Db:=top 24
abbrev UY:Db:=top 25
abbrev XC:Db:=top 26
abbrev Vf:Db:=top 27
abbrev UC:Db:=top 18
abbrev VQ:Db:=top 28
abbrev Uz:Db:=top 30
abbrev Uu:Db:=top 31
abbrev YO:Db:=top 32
abbrev V9:Db:=top 33
abbrev V7:Db:=top 45
abbrev VT:Db:=top 46
abbrev YN:Db:=top 1
abbrev V6:Db:=top 14
abbrev VS:Db:=top 35
abbrev Uo:Db:=top 34
abbrev Ut:Db:=top 36
abbrev YM:Db:=top 37
abbrev Vd:Db:=top 47
abbrev Se:Db:=top 48
def ü{α:Type}(p:List α->Prop)(f:∀x0,p [x0]):∀us:List α,us.length=1->p us:=λus h=>match us,h with|[x0],_=>f x0
def TU{α:Type}(p:List α->Prop)(f:∀x0 x1,p [x0,x1]):∀us:List α,us.length=2->p us:=λus h=>match us,h with|[x0,x1],_=>f x0 x1
def TV{α:Type}(p:List α->Prop)(f:∀x0 x1 x2,p [x0,x1,x2]):∀us:List α,us.length=3->p us:=λus h=>match us,h with|[x0,x1,x2],_=>f x0 x1 x2
def ý{α:Type}(p:List α->Prop)(f:∀x0 x1 x2 x3,p [x0,x1,x2,x3]):∀us:List α,us.length=4->p us:=λus h=>match us,h with|[x0,x1,x2,x3],_=>f x0 x1 x2 x3
def þ{α:Type}(p:List α->Prop)(f:∀x0 x1 x2 x3 x4,p [x0,x1,x2,x3,x4]):∀us:List α,us.length=5->p us:=λus h=>match us,h with|[x0,x1,x2,x3,x4],_=>f x0 x1 x2 x3 x4
def ÿ{α:Type}(p:List α->Prop)(f:∀x0 x1 x2 x3 x4 x5,p [x0,x1,x2,x3,x4,x5]):∀us:List α,us.length=6->p us:=λus h=>match us,h with|[x0,x1,x2,x3,x4,x5],_=>f x0 x1 x2 x3 x4 x5
def Wz:List Bg:=["_law_cell_here","_law_prime","_law_many"]
def WV:EO:=jB (d2 oR (d2 oR (d2 oK (z7 0) (dI 48271)) (z7 1)) (z7 2))
def Z9:LD:=jM 3 Wz WV
def WB:List Bg:=["_law_cell_here","_law_most","_law_ties","_law_many","_law_found","_law_k","_law_one","_law_other","_law_tie"]
def Ow:EO:=
 J8 (i8 3 (d2 jN (dI 1) (x8 Z9 (z9 (z7 0) (z9 (dI 9973) (jT 1))))))
 (J8 (jL (oQ (y9 (d2 pE (z7 3) (dI 4))) (y9 (d2 yY (d2 oR (z7 0) (dI 4)) (dI 0))))
 (i8 3 (z7 1))
 Y1)
 (J8 (qG 4 (nC i3))
 (J8 (lG (lO (x8 Z9 (z9 (z7 0) (z9 (dI 9967) (z9 (d2 jN (z7 2) (dI 1)) i3))))) (u5 5)
 (J8 (i8 6 (x8 Z9 (z9 (d2 jN (z7 0) (d2 oK (dI 11) (z7 5))) (z9 (dI 9949) (jT 3)))))
 (J8 (i8 7 (x8 Z9 (z9 (d2 jN (d2 jN (z7 0) (d2 oK (dI 13) (z7 5))) (dI 1)) (z9 (dI 9941) (jT 3)))))
 (J8 (i8 8 (jW (z9 (x8 o9 (kF 6 7)) (z9 (x8 uZ (kF 6 7)) i3))))
 (jL (oQ (y9 (d2 lP (z7 6) (z7 7))) (y9 (jS true (z7 8) (kU 4))))
 (qN 4 (z7 8))
 Y1)))))
 (jB (jW (z9 (z7 3) (z9 (oS (tH qI (kU 4))) i3)))))))
def CM:LD:=jM 3 WB Ow
def WA:List Bg:=["_law_cell_here","_law_many","_law_left"]
def Ov:EO:=
 J8 (qG 2 (oX (z7 1)))
 (jB (oS (AI [none,some 2,some 0,some 1] (lO (z7 1)) (u5 0) (zA 1 (x8 Z9 (z9 (d2 jN (z7 2) (d2 oK (dI 5) (z7 0))) (z9 (dI 9931) (z9 (d2 wG (z7 3) (z7 0)) i3))))))))
def CL:LD:=jM 2 WA Ov
def Wy:List Bg:=["_law_web_here","_law_row_here","_law_one","_law_other","_law_first","_law_second","_law_between"]
def KP:EO:=
 J8 (i8 4 (kX (Y2 [none,some 1] (d8 (jH (d8 (jC 0 1)) (z7 2))) (u5 0) mQ (wO (z7 1) (z7 0)))))
 (J8 (i8 5 (kX (Y2 [none,some 1] (d8 (jH (d8 (jC 0 1)) (z7 3))) (u5 0) mQ (wO (z7 1) (z7 0)))))
 (J8 (jL (yQ (Y2 [none,some 5] (d8 (z7 4)) (u5 0) (y9 (jS false (z7 0) (d8 (z7 1)))) (z7 0)))
 (jB (dC (.str "meet")))
 Y1)
 (J8 (i8 6 (kX (Y2 [none,some 4] (d8 (z7 5)) (u5 0) (y9 (nP nS nS (pH (mI (z7 1))) (z7 0) (wE (mI (z7 1))))) (z7 0))))
 (J8 (jL (y9 (d2 kM (jP (d8 (z7 6))) (dI 1)))
 (jB (dC (.str "cross")))
 Y1)
 (J8 (jL (lM (y9 (d2 kM (jP (d8 (z7 6))) (dI 2))) (y9 (nP nS nS (pH (mI (z7 5))) (pH (mI (z7 4))) (wE (mI (z7 5))))))
 (jB (dC (.str "within")))
 Y1)
 (jB (dC (.str "apart"))))))))
def zQ:LD:=jM 4 Wy KP
def Vq:List Bg:=["_law_web_here","_law_row_here","_law_kind","_law_word","_law_found","_law_other"]
def NF:EO:=
 J8 (i8 3 (jH (nC (z9 (dC (.str "cross")) (z9 (dC (.str "within")) i3))) (x8 BW (z9 (d2 kM (z7 2) (dC (.str "queue"))) i3))))
 (J8 (qG 4 (nC i3))
 (J8 (lG (lO (jP (d8 (jC 0 1)))) (u5 5)
 (rQ 4 (Y2 [none,some 5,some 0,some 1,some 3] (lO (z7 5)) (u5 0) (y9 (d2 kM (x8 zQ (zH 2 3 0 1)) (z7 4))) (jW (kF 0 1)))))
 (jB (kX (tH qI (kU 4))))))
def DM:LD:=jM 3 Vq NF
def Yb:List Bg:=["row","spots","spot","place"]
def HA:EO:=
 J8 (rM 1 (λ_=>some ([],[])))
 (J8 (lG (wC (z7 0)) (qE 2 (mH (u5 2) (mH (u5 3) (qD))))
 (nK 1 (z7 3) (z7 2)))
 (λY=>jB (z7 1) (frz 1 Y)))
def GV:LD:=jM 1 Yb HA
def Vs:List Bg:=["one","other"]
def NG:EO:=jB (jW (z9 (x8 o9 (kF 0 1)) (z9 (x8 uZ (kF 0 1)) i3)))
def DO:LD:=jM 2 Vs NG
def WC:List Bg:=["spots","tie"]
def KQ:EO:=jB (x8 DO (z9 (m8 (z7 0) (jC 1 0)) (z9 (m8 (z7 0) (jC 1 1)) i3)))
def KJ:LD:=jM 2 WC KQ
def Ya:List Bg:=["web","row","spots"]
def O8:EO:=
 J8 (i8 2 (x8 GV (jT 1)))
 (jB (kX (Y2 [none,some 2] (d8 (jC 0 1)) (u5 0) mQ (x8 KJ (kF 1 0)))))
def zV:LD:=jM 2 Ya O8
def VV:List Bg:=["one","other","first","second"]
def II:EO:=
 J8 (jL (lM (y9 (jS false (jC 0 0) (d8 (z7 1)))) (y9 (jS false (jC 0 1) (d8 (z7 1)))))
 (jB (dC (.str "meet")))
 Y1)
 (J8 (i8 2 (x8 MO (kF 0 1)))
 (J8 (i8 3 (x8 ML (kF 0 1)))
 (J8 (jL (y9 (d2 pE (jC 2 1) (jC 3 0)))
 (jB (dC (.str "apart")))
 Y1)
 (jB (CB (y9 (d2 pE (jC 2 1) (jC 3 1))) (dC (.str "cross")) (dC (.str "within")))))))
def IH:LD:=jM 2 VV II
def Wc:List Bg:=["one","other","kind"]
def IL:EO:=jB (d2 kM (x8 IH (kF 0 1)) (MI [("pile","cross"),("queue","within")] (z7 2)))
def Q9:LD:=jM 3 Wc IL
def Wx:List Bg:=["web","row","kind","spans","found","one","span","later"]
def Ou:EO:=
 J8 (i8 3 (x8 zV (kF 0 1)))
 (J8 (qG 4 (nC i3))
 (J8 (lG (wC (z7 3)) (qE 2 (mH (u5 5) (mH (u5 6) (qD))))
 (J8 (i8 7 (kX (Y2 [none,some 6,some 3,some 2] (uQ (d2 jN (z7 5) (dI 1)) (jP (d8 (z7 3)))) (u5 0) (y9 (x8 Q9 (z9 (z7 1) (z9 (jH (d8 (z7 2)) (z7 0)) (jT 3))))) (z7 0))))
 (rQ 4 (Y2 [none,some 5] (d8 (z7 7)) (u5 0) mQ (jW (kF 1 0))))))
 (jB (oS (kU 4)))))
def xX:LD:=jM 3 Wx Ou
def UH:List Bg:=["web","row","kind","rivals","one","other"]
def UR:EO:=wF 3 4 5 (d8 (jC 0 1)) (d8 (x8 xX (kQ 0 1 2)))
def AC:LD:=jM 3 UH UR
def Ur:List Bg:=["rivals","pages","tie"]
def N6:EO:=jB (kX (Y2 [none,some 1] (d8 (jH (d8 (z7 0)) (z7 2))) (u5 0) (kZ (y9 (jS false (z7 0) (d8 (z7 1)))) (y9 (mN false (z7 0) (z7 1)))) (m8 (z7 1) (z7 0))))
def J6:LD:=jM 3 Ur N6
def Vr:List Bg:=["web","row","rivals","spans","pages","tie","taken"]
def IB:EO:=
 J8 (i8 3 (x8 zV (kF 0 1)))
 (J8 (rM 4 (λ_=>some ([],[])))
 (J8 (lG (d8 (kX (qV [none,some 3] (oX (jP (d8 (z7 3)))) (jH (d8 (z7 1)) (z7 0))))) (u5 5)
 (J8 (i8 6 (pT 4 (x8 J6 (kQ 2 4 5))))
 (nK 4 (z7 5) (pH (Y2 [none,some 6] (lO (d2 jN (jP (d8 (z7 6))) (dI 1))) (u5 0) (y9 (jS true (z7 0) (d8 (z7 1)))) (z7 0))))))
 (λY=>jB (z7 4) (frz 4 Y))))
def DN:LD:=jM 3 Vr IB
def UI:List Bg:=["spans","gap","over"]
def HJ:EO:=
 J8 (i8 2 (kX (Y2 [none,some 0,some 1] (lO (jP (d8 (z7 0)))) (u5 0) (y9 (nP uX nS (jH (d8 (jH (d8 (z7 1)) (z7 0))) (dI 0)) (z7 2) (jH (d8 (jH (d8 (z7 1)) (z7 0))) (dI 1)))) (z7 0))))
 (jB (kX (qV [none,some 0] (d8 (z7 2)) (jH (d8 (z7 1)) (z7 0)))))
def DD:LD:=jM 2 UI HJ
def VY:List Bg:=["spans","ties","kind","chains","tie","before"]
def NV:EO:=
 J8 (qG 3 (nC i3))
 (J8 (lG (d8 (z7 1)) (u5 4)
 (J8 (i8 5 (kX (Y2 [none,some 0,some 4,some 2] (kU 3) (u5 0) (y9 (x8 Q9 (z9 (jH (d8 (z7 1)) (jH (d8 (z7 0)) (n8 (dI 1)))) (z9 (jH (d8 (z7 1)) (z7 2)) (jT 3))))) (z7 0))))
 (qN 3 (d2 jN (AW (d8 (z7 5)) (jW i3)) (jW (jT 4))))))
 (jB (AW (kU 3) (jW i3))))
def DS:LD:=jM 3 VY NV
def X7:List Bg:=["web","row","kind","spans","found","gap"]
def GY:EO:=
 J8 (i8 3 (x8 zV (kF 0 1)))
 (J8 (i8 4 (jW i3))
 (J8 (lG (lO (d2 wG (jC 0 0) (dI 1))) (u5 5)
 (i8 4 (d2 xN (z7 4) (x8 DS (z9 (z7 3) (z9 (x8 DD (kF 3 5)) (jT 2)))))))
 (jB (oS (tH qI (d8 (z7 4)))))))
def yD:LD:=jM 3 X7 GY
def VI:List Bg:=["rivals","tie","group","reached"]
def IE:EO:=
 J8 (qG 2 (nC (jT 1)))
 (J8 (i8 3 (dI 0))
 (J8 (oV 200 (y9 (d2 pE (z7 3) (jP (kU 2))))
 (J8 (rQ 2 (Y2 [none,some 2] (d8 (jH (d8 (z7 0)) (jH (kU 2) (z7 3)))) (u5 0) (y9 (jS true (z7 0) (kU 1))) (z7 0)))
 (yO 3 (dI 1))))
 (λY=>jB (z7 2) (frz 2 Y))))
def DQ:LD:=jM 2 VI IE
def UG:List Bg:=["rivals","groups","grouped","tie","member"]
def Px:EO:=
 J8 (qG 1 (nC i3))
 (J8 (rM 2 (λ_=>some ([],[])))
 (J8 (lG (lO (jP (d8 (z7 0)))) (u5 3)
 (jL (y9 (yP true (z7 3) 2))
 (J8 (qN 1 (x8 DQ (kF 0 3)))
 (lG (d8 (jH (kU 1) (n8 (dI 1)))) (u5 4)
 (nK 2 (z7 4) (dC (.bl true)))))
 Y1))
 (λY=>jB (z7 1) (frz 1 Y))))
def AB:LD:=jM 1 UG Px
def U6:List Bg:=["pages"]
def HQ:EO:=jB (t9 (d8 (z7 0)))
def Y8:LD:=jM 1 U6 HQ
def Vp:List Bg:=["rivals","group","pages","left"]
def NE:EO:=
 J8 (i8 3 (kX (Y2 [none,some 2] (d8 (z7 1)) (u5 0) (kZ (y9 (jS true (z7 0) (d8 (z7 1)))) (y9 (mN true (z7 0) (z7 1)))) (z7 0))))
 (jB (EA [none,some 0,some 2] (d8 (z7 3)) (jW (z9 (x8 Y8 (z9 (x8 J6 (kQ 1 2 0)) i3)) (z9 (jP (d8 (jH (d8 (z7 1)) (z7 0)))) i3)))))
def DL:LD:=jM 3 Vp NE
def VL:List Bg:=["pages","many"]
def IF:EO:=jB (kX (oX (x8 o9 (z9 (z7 1) (z9 (d2 jN (x8 Y8 (z9 (kX (BK (z7 0))) i3)) (dI 1)) i3)))))
def Y3:LD:=jM 2 VL IF
def UJ:List Bg:=["pages","tie","page","more"]
def Py:EO:=
 J8 (rM 3 (wN (z7 0)))
 (J8 (nK 3 (z7 1) (z7 2))
 (λY=>jB (z7 3) (frz 3 Y)))
def sS:LD:=jM 3 UJ Py
def Ob:List Bg:=["rivals","group","pages","many","tie","taken","page","found"]
def yA(Fr:LD):EO:=
 J8 (jL (y9 (d2 kM (wD (z7 2)) (jP (d8 (z7 1)))))
 (jB (z7 2))
 Y1)
 (J8 (i8 4 (x8 DL (kQ 0 1 2)))
 (J8 (i8 5 (x8 J6 (kQ 0 2 4)))
 (J8 (lG (d8 (x8 Y3 (kF 2 3))) (u5 6)
 (jL (y9 (jS true (z7 6) (d8 (z7 5))))
 (J8 (i8 7 (x8 Fr (z9 (z7 0) (z9 (z7 1) (z9 (x8 sS (kQ 2 4 6)) (jT 3))))))
 (jL (y9 (d2 rR (z7 7) (dC .non)))
 (jB (z7 7))
 Y1))
 Y1))
 (jB (dC .non)))))
def Q8:Nat->List D->Option D
 | 0=>jM 4 Ob (λ_=>none)
 |k+1=>jM 4 Ob (yA (Q8 k))
def U7:List Bg:=["rivals","many","pages","group","found"]
def HR:EO:=
 J8 (rM 2 (λ_=>some ([],[])))
 (J8 (lG (d8 (x8 AB (jT 0))) (u5 3)
 (J8 (i8 4 (x8 (Q8 12) (z9 (z7 0) (z9 (z7 3) (z9 (oC (λ_=>some ([],[]))) (jT 1))))))
 (J8 (oV 200 (y9 (d2 qQ (z7 4) (dC .non)))
 (J8 (yO 1 (dI 1))
 (i8 4 (x8 (Q8 12) (z9 (z7 0) (z9 (z7 3) (z9 (oC (λ_=>some ([],[]))) (jT 1))))))))
 (FW 2 (z7 4)))))
 (λY=>jB (z7 2) (frz 2 Y)))
def DJ:LD:=jM 2 U7 HR
def UA:List Bg:=["pages","numbers","page"]
def Oa:EO:=
 J8 (rM 1 (λ_=>some ([],[])))
 (J8 (lG (d8 (z7 0)) (u5 2)
 (AX 1 (z7 2) (pT 1 (wD (z7 1)))))
 (λY=>(jB (oS (Y2 [none,some 1] (d8 (z7 0)) (u5 0) mQ (m8 (z7 1) (z7 0))))) (frz 1 Y)))
def IP:LD:=jM 1 UA Oa
def VH:List Bg:=["web","row","kind","rivals","pages"]
def ID:EO:=
 J8 (i8 3 (x8 AC (kQ 0 1 2)))
 (J8 (jL (y9 (d2 kM (z7 2) (dC (.str "queue"))))
 (i8 4 (x8 DN (kQ 0 1 3)))
 (i8 4 (x8 DJ (z9 (z7 3) (z9 (jP (d8 (x8 yD (kQ 0 1 2)))) i3)))))
 (jB (x8 IP (z9 (kX (Y2 [none,some 4] (lO (jP (d8 (z7 3)))) (u5 0) mQ (m8 (z7 1) (z7 0)))) i3))))
def Y4:LD:=jM 3 VH ID
def Uy:List Bg:=["web","row","kind","many","clashing","rivals"]
def DW:EO:=
 J8 (i8 4 (x8 yD (kQ 0 1 2)))
 (J8 (jL (y9 (d2 yY (jP (d8 (z7 4))) (z7 3)))
 (jB (kZ (l8 (z7 4) (lW) (kW (d2 jN (z7 3) (dI 1)))) (nT (z7 4) (lW) (kW (d2 jN (z7 3) (dI 1))))))
 Y1)
 (J8 (i8 5 (x8 AC (kQ 0 1 2)))
 (jB (jH (Y2 [none,some 5,some 3] (d8 (x8 AB (jT 5))) (u5 0) (y9 (d2 qQ (x8 (Q8 12) (z9 (z7 1) (z9 (z7 0) (z9 (oC (λ_=>some ([],[]))) (jT 2))))) (dC .non))) (z7 0)) (dI 0)))))
def IN:LD:=jM 4 Uy DW
def Uq:List Bg:=["rivals","ties","pages","many","tie","page","clashing"]
def DV(Fr:LD):EO:=
 J8 (i8 6 (kX (Y2 [none,some 2,some 5] (d8 (jH (d8 (z7 0)) (z7 4))) (u5 0) (oQ (kZ (y9 (jS false (z7 0) (d8 (z7 1)))) (y9 (mN false (z7 0) (z7 1)))) (y9 (d2 kM (m8 (z7 1) (z7 0)) (z7 2)))) (z7 0))))
 (J8 (jL (yQ (mI (z7 6)))
 (jB (d2 jN (jW (z9 (dC (.str "clash")) i3)) (x8 DO (z9 (z7 4) (z9 (jC 6 0) i3)))))
 Y1)
 (jB (x8 Fr (z9 (z7 0) (z9 (z7 1) (z9 (x8 sS (kQ 2 4 5)) (jT 3)))))))
def AH(Fr:LD):LD:=jM 6 Uq (DV Fr)
def O2:List Bg:=["rivals","ties","pages","many","tie","papers"]
def GZ(Fr:LD):EO:=
 J8 (i8 4 (x8 DL (kQ 0 1 2)))
 (J8 (i8 5 (kX (Y2 [none,some 0,some 1,some 2,some 3,some 4] (d8 (x8 Y3 (kF 2 3))) (u5 0) mQ (x8 (AH Fr) (Ub 1 2 3 4 5 0)))))
 (jB (jW (z9 (dC (.str "tie")) (z9 (z7 4) (z9 (oS (d8 (z7 5))) i3))))))
def sR:Nat->List D->Option D
 | 0=>jM 4 O2 (λ_=>none)
 |k+1=>jM 4 O2 (GZ (sR k))
def VZ:List Bg:=["web","row","kind","many"]
def AF:EO:=
 J8 (jL (y9 (d2 uX (x8 Y8 (z9 (x8 Y4 (kQ 0 1 2)) i3)) (z7 3)))
 (jB (dC .non))
 Y1)
 (jB (x8 (sR 12) (z9 (x8 AC (kQ 0 1 2)) (z9 (x8 IN (zH 0 1 2 3)) (z9 (oC (λ_=>some ([],[]))) (jT 3))))))
def AE:LD:=jM 4 VZ AF
def VX:List Bg:=["_law_thing","_law_size"]
def NU:EO:=jB (o4 (mF "int" (z7 0)) (o4 (yZ (mF "bool" (z7 0))) (nP uX nS (dI 0) (z7 0) (z7 1))))
def wB:LD:=jM 2 VX NU
def NK:List Bg:=["_law_pairs","_law_size","_law_many","_law_pages","_law_thing","_law_mine","_law_used","_law_page","_law_part","_law_more"]
def NM(Fr:LD):EO:=
 J8 (jL (lM (kN (y9 (mF "tuple" (z7 4)))) (lM (y9 (d2 lP (jP (d8 (z7 4))) (dI 3))) (kN (y9 (x8 wB (z9 (jC 4 1) (jT 1)))))))
 lX
 Y1)
 (J8 (jL (y9 (d2 kM (jC 4 0) (dC (.str "clash"))))
 (J8 (jL (lM (kN (y9 (x8 wB (z9 (jC 4 2) (jT 1))))) (y9 (jS true (jW (z9 (jC 4 1) (z9 (jC 4 2) i3))) (d8 (z7 0)))))
 lX
 Y1)
 (J8 (i8 5 (tP (z7 3) (jC 4 1) (n8 (dI 1))))
 (jB (o4 (d2 yX (z7 5) (dI 0)) (d2 kM (z7 5) (tP (z7 3) (jC 4 2) (n8 (dI 2))))))))
 Y1)
 (J8 (jL (lM (y9 (d2 lP (jC 4 0) (dC (.str "tie")))) (lM (kZ (y9 (jS false (jC 4 1) (d8 (z7 3)))) (y9 (mN false (jC 4 1) (z7 3)))) (kN (y9 (mF "tuple" (jC 4 2))))))
 lX
 Y1)
 (J8 (i8 6 (t9 (AJ 3)))
 (J8 (jL (y9 (d2 lP (jP (d8 (jC 4 2))) (x8 o9 (z9 (z7 2) (z9 (d2 jN (z7 6) (dI 1)) i3)))))
 lX
 Y1)
 (J8 (lG (wC (jC 4 2)) (qE 2 (mH (u5 7) (mH (u5 8) (qD))))
 (J8 (rM 9 (wN (z7 3)))
 (J8 (nK 9 (jC 4 1) (z7 7))
 (jL (kN (y9 (pT 9 (x8 Fr (xC 0 1 2 9 8)))))
 lX
 Y1))))
 (jB (dC (.bl true))))))))
def Q2:Nat->List D->Option D
 | 0=>jM 5 NK (λ_=>none)
 |k+1=>jM 5 NK (NM (Q2 k))
def X9:List Bg:=["thing"]
def O7:EO:=jB (o4 (mF "int" (z7 0)) (yZ (mF "bool" (z7 0))))
def vX:LD:=jM 1 X9 O7
def VW:List Bg:=["web","thing"]
def NT:EO:=jB (o4 (x8 vX (jT 1)) (nP uX nS (dI 0) (z7 1) (jP (d8 (jC 0 1)))))
def DR:LD:=jM 2 VW NT
def VJ:List Bg:=["web","pairs","pages","many","tie","papers","page","paper"]
def NL(Fr:LD):EO:=
 J8 (jL (lM (kN (y9 (x8 DR (kF 0 4)))) (kZ (y9 (jS false (z7 4) (d8 (z7 2)))) (y9 (mN false (z7 4) (z7 2)))))
 lX
 Y1)
 (J8 (jL (lM (kN (y9 (mF "tuple" (z7 5)))) (y9 (d2 lP (jP (d8 (z7 5))) (jP (d8 (x8 Y3 (kF 2 3)))))))
 lX
 Y1)
 (J8 (lG (wC (z7 5)) (qE 2 (mH (u5 6) (mH (u5 7) (qD))))
 (jL (kN (y9 (x8 Fr (z9 (z7 0) (z9 (z7 1) (z9 (x8 sS (kQ 2 4 6)) (kF 3 7)))))))
 lX
 Y1))
 (jB (dC (.bl true)))))
def IC(Fr:LD):LD:=jM 6 VJ (NL Fr)
def Wd:List Bg:=["pairs","pages","one","other"]
def NY:EO:=
 J8 (jL (lM (kN (y9 (x8 vX (jT 2)))) (lM (kN (y9 (x8 vX (jT 3)))) (y9 (jS true (jW (kF 2 3)) (d8 (z7 0))))))
 lX
 Y1)
 (jB (o4 (kZ (jS false (z7 2) (d8 (z7 1))) (mN false (z7 2) (z7 1))) (o4 (kZ (jS false (z7 3) (d8 (z7 1))) (mN false (z7 3) (z7 1))) (d2 kM (m8 (z7 1) (z7 2)) (m8 (z7 1) (z7 3))))))
def IK:LD:=jM 4 Wd NY
def N4:List Bg:=["web","pairs","pages","many","thing"]
def N5(Fr:LD):EO:=
 J8 (jL (lM (kN (y9 (mF "tuple" (z7 4)))) (y9 (d2 lP (jP (d8 (z7 4))) (dI 3))))
 lX
 Y1)
 (J8 (jL (y9 (d2 kM (jC 4 0) (dC (.str "tie"))))
 (jB (x8 (IC Fr) (z9 (z7 0) (z9 (z7 1) (z9 (z7 2) (z9 (z7 3) (z9 (jC 4 1) (z9 (jC 4 2) i3))))))))
 Y1)
 (jB (o4 (d2 kM (jC 4 0) (dC (.str "clash"))) (x8 IK (z9 (z7 1) (z9 (z7 2) (z9 (jC 4 1) (z9 (jC 4 2) i3))))))))
def AG:Nat->List D->Option D
 | 0=>jM 5 N4 (λ_=>none)
 |k+1=>jM 5 N4 (N5 (AG k))
def X8:List Bg:=["web","row","kind","many","thing"]
def O6:EO:=jB (x8 (AG 12) (z9 (z7 0) (z9 (x8 xX (kQ 0 1 2)) (z9 (oC (λ_=>some ([],[]))) (kF 3 4)))))
def sQ:LD:=jM 5 X8 O6
def Nx:List Bg:=["_law_paper","_law_cell_here","_law_at","_law_way"]
def wA(Fr:LD):EO:=
 J8 (jL (lM (kN (y9 (mF "tuple" (z7 0)))) (y9 (d2 kM (jP (d8 (z7 0))) (dI 0))))
 (jB (jH (nC (z9 (dC .non) (z9 (jW (z9 (dC (.str "clash")) (z9 (dI 0) (z9 (dI 1) i3)))) (z9 (kX (nC i3)) (z9 (dI 0) (z9 (dC (.str "tie")) i3)))))) (d2 oR (z7 1) (dI 5))))
 Y1)
 (J8 (i8 2 (d2 oR (z7 1) (jP (d8 (z7 0)))))
 (J8 (i8 3 (d2 oR (d2 uP (z7 1) (dI 8)) (dI 7)))
 (J8 (jL (y9 (d2 pE (z7 3) (dI 4)))
 (jB (d2 jN (d2 jN (kZ (l8 (z7 0) (lW) (kW (z7 2))) (nT (z7 0) (lW) (kW (z7 2)))) (jW (z9 (x8 Fr (z9 (jH (d8 (z7 0)) (z7 2)) (z9 (d2 uP (z7 1) (dI 64)) i3))) i3))) (kZ (l8 (z7 0) (kW (d2 jN (z7 2) (dI 1))) (lW)) (nT (z7 0) (kW (d2 jN (z7 2) (dI 1))) (lW)))))
 Y1)
 (jB (jH (nC (z9 (d2 jN (kZ (l8 (z7 0) (lW) (kW (z7 2))) (nT (z7 0) (lW) (kW (z7 2)))) (kZ (l8 (z7 0) (kW (d2 jN (z7 2) (dI 1))) (lW)) (nT (z7 0) (kW (d2 jN (z7 2) (dI 1))) (lW)))) (z9 (d2 jN (z7 0) (kZ (l8 (z7 0) (lW) (kW (dI 1))) (nT (z7 0) (lW) (kW (dI 1))))) (z9 (FV (z7 0) (n8 (dI 1))) i3)))) (d2 wG (z7 3) (dI 4)))))))
def Q0:Nat->List D->Option D
 | 0=>jM 2 Nx (λ_=>none)
 |k+1=>jM 2 Nx (wA (Q0 k))
def ϗ:List Bg:=["_law_script","_law_cell_here","_law_web_here","_law_row_here","_law_size","_law_kind","_law_pairs","_law_least","_law_many","_law_paper","_law_things","_law_thing","_law_told"]
def RO:EO:=
 J8 (lG (d8 (l8 (z7 0) (lW) (kW (dI 2)))) (u5 1)
 (J8 (i8 2 (x8 CM (z9 (z7 1) (z9 (dI 6) (z9 (dI 9) i3)))))
 (J8 (i8 3 (x8 CL (z9 (d2 uP (z7 1) (dI 3)) (z9 (jC 2 0) i3))))
 (J8 (i8 4 (jP (d8 (jC 2 1))))
 (lG (d8 (jW (z9 (dC (.str "pile")) (z9 (dC (.str "queue")) i3)))) (u5 5)
 (J8 (i8 6 (x8 DM (kQ 2 3 5)))
 (J8 (i8 7 (x8 Y8 (z9 (x8 Y4 (kQ 2 3 5)) i3)))
 (lG (lO (d2 jN (z7 7) (dI 2))) (u5 8)
 (J8 (i8 9 (x8 AE (zH 2 3 5 8)))
 (J8 (jL (y9 (d2 lP (d2 qQ (z7 9) (dC .non)) (d2 yX (z7 8) (z7 7))))
 lX
 Y1)
 (jL (y9 (d2 rR (z7 9) (dC .non)))
 (J8 (jL (kN (y9 (x8 (Q2 12) (z9 (z7 6) (z9 (z7 4) (z9 (z7 8) (z9 (oC (λ_=>some ([],[]))) (jT 9))))))))
 lX
 Y1)
 (J8 (jL (y9 (d2 rR (x8 sQ (xC 2 3 5 8 9)) (dC (.bl true))))
 lX
 Y1)
 (J8 (i8 10 (kX (Y2 [none,some 9] (d8 (l8 (z7 0) (kW (dI 2)) (kW (dI 7)))) (u5 0) mQ (x8 (Q0 25) (kF 1 0)))))
 (J8 (lG (d8 (kX (GD (mI (z7 10)) (nC (z9 (dC .non) (z9 (jW i3) (z9 (jW (z9 (dC (.str "clash")) (z9 (dI 0) (z9 (dI 1) i3)))) (z9 (jW (z9 (dC (.str "tie")) (z9 (dI 0) (z9 (jW i3) i3)))) (z9 (jW (z9 (dC (.str "tie")) (z9 (dC (.bl true)) (z9 (jW i3) i3)))) i3))))))))) (u5 11)
 (J8 (i8 12 (x8 sQ (xC 2 3 5 8 11)))
 (jL (lM (kN (y9 (mF "bool" (z7 12)))) (y9 (d2 lP (z7 12) (x8 (Q2 12) (z9 (z7 6) (z9 (z7 4) (z9 (z7 8) (z9 (oC (λ_=>some ([],[]))) (jT 11)))))))))
 lX
 Y1)))
 (J8 (i8 12 (x8 sQ (z9 (z7 2) (z9 (z7 3) (z9 (z7 5) (z9 (d2 jN (z7 8) (dI 1)) (jT 9)))))))
 (jL (y9 (d2 lP (z7 12) (x8 (Q2 12) (z9 (z7 6) (z9 (z7 4) (z9 (d2 jN (z7 8) (dI 1)) (z9 (oC (λ_=>some ([],[]))) (jT 9))))))))
 lX
 Y1))))))
 Y1)))))))))))
 (jB (dC (.bl true)))
def yM:LD:=jM 1 ϗ RO
structure kE(K:A5)(w:Cg)(mg:Bg->Option Ac):Prop where
 d_law_mix:d9 K mg "_law_mix" XE
 d_law_web:d9 K mg "_law_web" XG
 d_law_row:d9 K mg "_law_row" XF
 d_law_how:d9 K mg "_law_how" XD
 d_law_clashes:d9 K mg "_law_clashes" Vy
 d_spots_of:d9 K mg "spots_of" YR
 d_rising_pair:d9 K mg "rising_pair" VA
 d_span_of:d9 K mg "span_of" XH
 d_spans_of:d9 K mg "spans_of" YQ
 d_how_spans_lie:d9 K mg "how_spans_lie" V5
 d_do_spans_clash:d9 K mg "do_spans_clash" Um
 d_clashes:d9 K mg "clashes" XB
 d_rivals_of:d9 K mg "rivals_of" UW
 d_taken_by_rivals:d9 K mg "taken_by_rivals" Uv
 d_queue_pages:kR K mg "queue_pages" Vz
 d_ties_over:kR K mg "ties_over" UX
 d_longest_chain:d9 K mg "longest_chain" V8
 d_greatest:d9 K mg "greatest" YL
 d_group_around:d9 K mg "group_around" VR
 d_groups_of:d9 K mg "groups_of" UV
 d_page_count:d9 K mg "page_count" Ve
 d_hardest_tie:kR K mg "hardest_tie" Vx
 d_pages_to_try:d9 K mg "pages_to_try" VU
 d_with_page:d9 K mg "with_page" UY
 d_laid_on:d9 K mg "laid_on" XC
 d_pile_pages:d9 K mg "pile_pages" Vf
 d_numbered_as_they_come:d9 K mg "numbered_as_they_come" UC
 d_fewest_pages:d9 K mg "fewest_pages" VQ
 d_ties_that_do_not_fit:d9 K mg "ties_that_do_not_fit" Uz
 d_paper_with_page:d9 K mg "paper_with_page" Uu
 d_paper_on:d9 K mg "paper_on" YO
 d_paper_against:d9 K mg "paper_against" V9
 d_law_is_number:d9 K mg "_law_is_number" V7
 d_law_is_paper:d9 K mg "_law_is_paper" VT
 d_is_whole:d9 K mg "is_whole" YN
 d_is_tie_number:d9 K mg "is_tie_number" V6
 d_is_tie_shown:d9 K mg "is_tie_shown" VS
 d_is_clash_shown:d9 K mg "is_clash_shown" Uo
 d_is_paper_behind:d9 K mg "is_paper_behind" Ut
 d_is_paper:d9 K mg "is_paper" YM
 d_law_spoilt:d9 K mg "_law_spoilt" Vd
 d_law:d9 K mg "law" Se
 x_bm:pG K mg
 b_bool:mg "bool" = none
 b_dict:mg "dict" = none
 b_enumerate:mg "enumerate" = none
 b_int:mg "int" = none
 b_isinstance:mg "isinstance" = none
 b_len:mg "len" = none
 b_list:mg "list" = none
 b_max:mg "max" = none
 b_min:mg "min" = none
 b_range:mg "range" = none
 b_set:mg "set" = none
 b_sorted:mg "sorted" = none
 b_tuple:mg "tuple" = none
 x_CLASHING:∃a,mg "CLASHING" = some (.ref a)/\MY K w a [("pile","cross"),("queue","within")]
section
variable{pr:By}{w:Cg}{K:A5}{mg:Bg->Option Ac}{base:Cl}{x:Bg}{st:Db}{N ps:List Bg}{k n:Nat}{g:EO}
def kB(G:d9 K mg x st) (av:∀(f:Aw) (am:Ac) (A:C6) (outer:List Me) (s:Am) (H:Hp) (E:XK) (hr:h9 k (A.deeper (D8 x (u8 st) s.heap.objs.size f am))),(A.deeper (D8 x (u8 st) s.heap.objs.size f am)).units+64<Cz->(A.deeper (D8 x (u8 st) s.heap.objs.size f am)).units<Cz->N.Nodup ->
   ZB (o3 m7 pr w K mg base N x (u8 st) f am A outer s H E).nox (mS st) g) (S:jR N ps (u8 st):=by exact⟨rfl,rfl,rfl,by decide +kernel,rfl,by decide +kernel,by decide +kernel⟩) (hb:∀(kV aB pm:Ac) (an:Option Aw) (am ct:Ac) (us:List Ac),us.length=ps.length->Gp (Do x x (p7 st) (mS st) (u8 st) .none kV aB pm an am ct) ⟨us,[]⟩=Cj (ps.zip us):=by first|exact λ_ _ _ _ _ _=>TV _ λ_ _ _=>rfl|exact λ_ _ _ _ _ _=>TU _ λ_ _=>rfl|exact λ_ _ _ _ _ _=>ü _ λ_=>rfl|exact λ_ _ _ _ _ _=>ý _ λ_ _ _ _=>rfl|exact λ_ _ _ _ _ _=>þ _ λ_ _ _ _ _=>rfl|exact λ_ _ _ _ _ _=>ÿ _ λ_ _ _ _ _ _=>rfl) (hn:ps.length=n:=by rfl):jV pr w K mg base (k+1) x ps (jM n N g):=
 ZN G S hb hn λf am A outer s H E hr=>av f am A outer s H E hr hr.units hr.units0 S.nd
def MH(G:kR K mg x st) (av:∀(f:Aw) (am:Ac) (A:C6) (outer:List Me) (s:Am) (H:Hp) (E:XK),qH K am x=true->∀(hr:h9 k (A.deeper (D8 x (u8 st) s.heap.objs.size f am))),(A.deeper (D8 x (u8 st) s.heap.objs.size f am)).units+64<Cz->(A.deeper (D8 x (u8 st) s.heap.objs.size f am)).units<Cz->N.Nodup ->
   ZB (o3 m7 pr w K mg base N x (u8 st) f am A outer s H E).nox (mS st) g) (S:jR N ps (u8 st):=by exact⟨rfl,rfl,rfl,by decide +kernel,rfl,by decide +kernel,by decide +kernel⟩) (hb:∀(kV aB pm:Ac) (an:Option Aw) (am ct:Ac) (us:List Ac),us.length=ps.length->Gp (Do x x (p7 st) (mS st) (u8 st) .none kV aB pm an am ct) ⟨us,[]⟩=Cj (ps.zip us):=by first|exact λ_ _ _ _ _ _=>TV _ λ_ _ _=>rfl|exact λ_ _ _ _ _ _=>TU _ λ_ _=>rfl) (hn:ps.length=n:=by rfl):jV pr w K mg base (k+1) x ps (jM n N g):=
 ľ G S hb hn λf am A outer s H E hl hr=>av f am A outer s H E hl hr hr.units hr.units0 S.nd
def Ug(G:rY K x x st f fd)(S:jR N ps (u8 st))(hn:ps.length=n) (av:∀(am:Ac) (A:C6) (outer:List Me) (s:Am) (H:Hp) (E:XK) (hr:h9 k (A.deeper (D8 x (u8 st) s.heap.objs.size f am))),(A.deeper (D8 x (u8 st) s.heap.objs.size f am)).units+64<Cz->(A.deeper (D8 x (u8 st) s.heap.objs.size f am)).units<Cz->N.Nodup ->
   ZB (o3 m7 pr w K mg base N x (u8 st) f am A outer s H E).nox (mS st) g):kY pr w K mg base m7 (k+1) f fd ps (s0 K (jM n N g)):=
 P4 G S (λds d e=>by
  unfold jM at e;split at e
  .rename_i h;rw[h,hn]
  .cases e) (λds d e=>by
  unfold jM at e;split at e
  .exact e
  .cases e) λam A outer s H E hr=>(av am A outer s H E hr hr.units hr.units0 S.nd).h
def st_mk{od an:Option Aw}{sl:Array (Option Ac)}{oc kV dc pm cd ct:Ac}(X:K.In h)(G:h.Ns Cy mg)(a:Ig K Cy x=some (some (.ref f)))(l:K.lookup f=some ⟨oc,od,.func (Do x x (p7 st) (mS st) (u8 st) .none kV dc pm an cd ct),sl⟩)(c:Id K cd x=true)(k:Fm K (.ref f)=true):d9 K mg x st:=
 ⟨_,_,Su l c k,M3 X G a⟩
def stL_mk{od an:Option Aw}{sl:Array (Option Ac)}{oc kV dc pm cd ct:Ac}(X:K.In h)(G:h.Ns Cy mg)(a:Ig K Cy x=some (some (.ref f)))(l:K.lookup f=some ⟨oc,od,.func (Do x x (p7 st) (mS st) (u8 st) .none kV dc pm an cd ct),sl⟩)(c:Id K cd x=true)(k:Fm K (.ref f)=true)(m:qH K cd x=true):kR K mg x st:=
 ⟨_,_,Su l c k,M3 X G a,m⟩
end
section
variable{P:By}{w:Cg}{K:A5}{mg:Bg->Option Ac}{base:Cl}
def zX(T:kE K w mg):jV P w K mg base 1 "_law_mix" ["_law_cell_here","_law_prime","_law_many"] Z9:=kB T.d_law_mix λ_ _ _ _ _ _ _ hr hu aF nd=>y8 (v6 (xP (xP (EM (d3 0) y6) (d3 1)) (d3 2)))
def YF(T:kE K w mg):jV P w K mg base 2 "_law_web" ["_law_cell_here","_law_most","_law_ties"] CM:=
 kB T.d_law_web λ_ _ _ _ _ _ _ hr hu aF nd=>y3 (g9 (i:=3) (l6 y6 (u0 (zX T) hr (z6 (d3 0) (z6 y6 (z6 (d3 1) y4))))) nd)
   (y3 (Y5 (oF (JQ (AV aF (d3 3) y6) (KI (QK (xP (d3 0) y6) y6))))
   (y8 (g9 (i:=3) (d3 1) nd))
   K6)
   (y3 (vU (i:=4) (p9 y4) nd)
   (y3 (nB Bp rfl (rF T.b_range (u0 (zX T) hr (z6 (d3 0) (z6 y6 (z6 (l6 (d3 2) y6) y4))))) (u4 (i:=5) nd)
   (y3 (g9 (i:=6) (u0 (zX T) hr (z6 (l6 (d3 0) (EM y6 (d3 5))) (z6 y6 (z6 (d3 3) y4)))) nd)
   (y3 (g9 (i:=7) (u0 (zX T) hr (z6 (l6 (l6 (d3 0) (EM y6 (d3 5))) y6) (z6 y6 (z6 (d3 3) y4)))) nd)
   (y3 (g9 (i:=8) (Z4 (z6 (FA rfl T.b_min (d3 6) (d3 7)) (z6 (RJ rfl T.b_max (d3 6) (d3 7)) y4))) nd)
   (y8 (Y5 (oF (JQ (sF hu (d3 6) (d3 7)) (KI (xS hu (d3 8) (rZ 4)))))
   (y8 (JN (i:=4) (d3 8)))
   K6))))))
   (y8 (v6 (Z4 (z6 (d3 3) (z6 (zU T.b_tuple (vE (HH T.b_sorted (rZ 4)))) y4))))))))
def YE(T:kE K w mg):jV P w K mg base 2 "_law_row" ["_law_cell_here","_law_many"] CL:=
 kB T.d_law_row λ_ _ _ _ _ _ _ hr hu aF nd=>y3 (vU (i:=2) (PM rfl T.b_list T.b_range (d3 1)) nd)
   (y8 (Vl T.b_tuple (X2 ["_law_k","_law_left","_law_cell_here","_law_many"] [none,some 2,some 0,some 1] rfl (rF T.b_range (d3 1)) (λnd _ _ _ _ _=>u4 (i:=0) nd) (λ_ _ _ _ _=>XY (i:=1) (u0 (zX T) hr (z6 (l6 (d3 2) (EM y6 (d3 0))) (z6 y6 (z6 (JM (d3 3) (d3 0)) y4))))))))
def YD(T:kE K w mg):jV P w K mg base 1 "_law_how" ["_law_web_here","_law_row_here","_law_one","_law_other"] zQ:=
 kB T.d_law_how λ_ _ _ _ _ _ _ hr hu aF nd=>y3 (g9 (i:=4) (pL (pR ["_law_place","_law_row_here"] [none,some 1] rfl (mU (W4 (j4 (j5 (j4 (j5 (d3 0)) y6)) (d3 2)))) (λnd _ _ _ _ _=>u4 (i:=0) nd) (λ_ _ _ _ _=>t8) (λ_ _ _ _ _=>OY hu (d3 1) (d3 0)))) nd)
   (y3 (g9 (i:=5) (pL (pR ["_law_place","_law_row_here"] [none,some 1] rfl (mU (W4 (j4 (j5 (j4 (j5 (d3 0)) y6)) (d3 3)))) (λnd _ _ _ _ _=>u4 (i:=0) nd) (λ_ _ _ _ _=>t8) (λ_ _ _ _ _=>OY hu (d3 1) (d3 0)))) nd)
   (y3 (Y5 (RM (MX (pR ["_law_spot","_law_second"] [none,some 5] rfl (mU (W4 (d3 4))) (λnd _ _ _ _ _=>u4 (i:=0) nd) (λ_ _ _ _ _=>pQ (MA hu (d3 0) (j5 (d3 1)))) (λ_ _ _ _ _=>d3 0))))
   (y8 (v6 W5))
   K6)
   (y3 (uM (i:=6) ["_law_spot","_law_first"] [none,some 4] rfl (mU (W4 (d3 5))) (λnd _ _ _ _ _=>u4 (i:=0) nd) (λ_ _ _ _ _=>pQ (KY uS oG uS oG (FB rfl T.b_min (wV (d3 1))) (d3 0) (RK rfl T.b_max (wV (d3 1))))) (λ_ _ _ _ _=>d3 0) nd)
   (y3 (Y5 (sE hu (Z6 T.b_len (j5 (d3 6))) y6)
   (y8 (v6 W5))
   K6)
   (y3 (Y5 (oF (oH (sE hu (Z6 T.b_len (j5 (d3 6))) y6) (qA (KY uS oG uS oG (FB rfl T.b_min (wV (d3 5))) (FB rfl T.b_min (wV (d3 4))) (RK rfl T.b_max (wV (d3 5)))))))
   (y8 (v6 W5))
   K6)
   (y8 (v6 W5)))))))
def VN(T:kE K w mg):jV P w K mg base 2 "_law_clashes" ["_law_web_here","_law_row_here","_law_kind"] DM:=
 kB T.d_law_clashes λ_ _ _ _ _ _ _ hr hu aF nd=>y3 (g9 (i:=3) (j4 (vE (p9 (z6 W5 (z6 W5 y4)))) (XZ T.b_int (AU hu (d3 2) W5))) nd)
   (y3 (vU (i:=4) (p9 y4) nd)
   (y3 (nB Bp rfl (rF T.b_range (Z6 T.b_len (j5 (j4 (j5 (d3 0)) y6)))) (u4 (i:=5) nd)
   (y8 (JO (i:=4) (pR ["_law_one","_law_other","_law_web_here","_law_row_here","_law_word"] [none,some 5,some 0,some 1,some 3] rfl (mU (rF T.b_range (d3 5))) (λnd _ _ _ _ _=>u4 (i:=0) nd) (λ_ _ _ _ _=>pQ (sE hu (u0 (YD T) hr (z6 (d3 2) (z6 (d3 3) (z6 (d3 0) (z6 (d3 1) y4))))) (d3 4))) (λ_ _ _ _ _=>Z4 (z6 (d3 0) (z6 (d3 1) y4)))))))
   (y8 (v6 (pL (HH T.b_sorted (rZ 4)))))))
def UU(T:kE K w mg):jV P w K mg base 1 "spots_of" ["row"] GV:=
 kB T.d_spots_of λ_ _ _ _ _ _ _ hr hu aF nd=>y3 (vT (i:=1) oY nd)
   (y3 (nB Bp rfl (FD T.b_enumerate (d3 0)) (EN rfl (uL (u4 (i:=2) nd) (uL (u4 (i:=3) nd) FC)))
   (y8 (BJ (i:=1) hu (d3 3) (d3 2))))
   (y8 (vN 1 (v6 (d3 1)))))
def NR(T:kE K w mg):jV P w K mg base 1 "rising_pair" ["one","other"] DO:=kB T.d_rising_pair λ_ _ _ _ _ _ _ hr hu aF nd=>y8 (v6 (Z4 (z6 (FA rfl T.b_min (d3 0) (d3 1)) (z6 (RJ rfl T.b_max (d3 0) (d3 1)) y4))))
def YG(T:kE K w mg):jV P w K mg base 2 "span_of" ["spots","tie"] KJ:=kB T.d_span_of λ_ _ _ _ _ _ _ hr hu aF nd=>y8 (v6 (u0 (NR T) hr (z6 (uG hu (d3 0) (j4 (j5 (d3 1)) y6)) (z6 (uG hu (d3 0) (j4 (j5 (d3 1)) y6)) y4))))
def HM(T:kE K w mg):jV P w K mg base 3 "spans_of" ["web","row"] zV:=
 kB T.d_spans_of λ_ _ _ _ _ _ _ hr hu aF nd=>y3 (g9 (i:=2) (u0 (UU T) hr (z6 (d3 1) y4)) nd)
   (y8 (v6 (pL (pR ["tie","spots"] [none,some 2] rfl (mU (W4 (j4 (j5 (d3 0)) y6))) (λnd _ _ _ _ _=>u4 (i:=0) nd) (λ_ _ _ _ _=>t8) (λ_ _ _ _ _=>u0 (YG T) hr (z6 (d3 1) (z6 (d3 0) y4)))))))
def Ui(T:kE K w mg):jV P w K mg base 1 "how_spans_lie" ["one","other"] IH:=
 kB T.d_how_spans_lie λ_ _ _ _ _ _ _ hr hu aF nd=>y3 (Y5 (oF (oH (MA hu (j4 (j5 (d3 0)) y6) (j5 (d3 1))) (qA (MA hu (j4 (j5 (d3 0)) y6) (j5 (d3 1))))))
   (y8 (v6 W5))
   K6)
   (y3 (g9 (i:=2) (Ws rfl hu T.b_min (d3 0) (d3 1)) nd)
   (y3 (g9 (i:=3) (Wr rfl hu T.b_max (d3 0) (d3 1)) nd)
   (y3 (Y5 (AV aF (j4 (j5 (d3 2)) y6) (j4 (j5 (d3 3)) y6))
   (y8 (v6 W5))
   K6)
   (y8 (v6 (Ŀ (AV aF (j4 (j5 (d3 2)) y6) (j4 (j5 (d3 3)) y6)) W5 W5))))))
def N7(T:kE K w mg):jV P w K mg base 2 "do_spans_clash" ["one","other","kind"] Q9:=by obtain⟨fU,cD,cB⟩:=T.x_CLASHING;exact kB T.d_do_spans_clash λ_ _ _ _ _ _ _ hr hu aF nd=>y8 (v6 (AU hu (u0 (Ui T) hr (z6 (d3 0) (z6 (d3 1) y4))) (Wq cD cB (d3 2))))
def Pe(T:kE K w mg):jV P w K mg base 4 "clashes" ["web","row","kind"] xX:=
 kB T.d_clashes λ_ _ _ _ _ _ _ hr hu aF nd=>y3 (g9 (i:=3) (u0 (HM T) hr (z6 (d3 0) (z6 (d3 1) y4))) nd)
   (y3 (vU (i:=4) (p9 y4) nd)
   (y3 (nB Bp rfl (FD T.b_enumerate (d3 3)) (EN rfl (uL (u4 (i:=5) nd) (uL (u4 (i:=6) nd) FC)))
   (y3 (uM (i:=7) ["other","span","spans","kind"] [none,some 6,some 3,some 2] rfl (mU (Wt T.b_range (l6 (d3 5) y6) (Z6 T.b_len (j5 (d3 3))))) (λnd _ _ _ _ _=>u4 (i:=0) nd) (λ_ _ _ _ _=>pQ (nQ (u0 (N7 T) hr (z6 (d3 1) (z6 (j4 (j5 (d3 2)) (d3 0)) (z6 (d3 3) y4)))))) (λ_ _ _ _ _=>d3 0) nd)
   (y8 (JO (i:=4) (pR ["other","one"] [none,some 5] rfl (mU (W4 (d3 7))) (λnd _ _ _ _ _=>u4 (i:=0) nd) (λ_ _ _ _ _=>t8) (λ_ _ _ _ _=>Z4 (z6 (d3 1) (z6 (d3 0) y4))))))))
   (y8 (v6 (zU T.b_tuple (rZ 4))))))
def HU(T:kE K w mg):jV P w K mg base 5 "rivals_of" ["web","row","kind"] AC:=kB T.d_rivals_of λ_ _ _ _ _ _ _ hr hu aF nd=>X3 (ir:=3) (i1:=4) (i2:=5) rfl Bp (W4 (j4 (j5 (d3 0)) y6)) (W4 (u0 (Pe T) hr (z6 (d3 0) (z6 (d3 1) (z6 (d3 2) y4))))) nd (A1:=(Qx rfl (.inl rfl) (by decide) (by decide) rfl (.inl rfl) (by decide) (by decide) rfl (.inl rfl) (by decide) (by decide))) (A2:=(Qx rfl (.inl rfl) (by decide) (by decide) rfl (.inl rfl) (by decide) (by decide) rfl (.inl rfl) (by decide) (by decide)))
def IM(T:kE K w mg):jV P w K mg base 1 "taken_by_rivals" ["rivals","pages","tie"] J6:=kB T.d_taken_by_rivals λ_ _ _ _ _ _ _ hr hu aF nd=>y8 (v6 (pL (pR ["rival","pages"] [none,some 1] rfl (mU (W4 (j4 (j5 (d3 0)) (d3 2)))) (λnd _ _ _ _ _=>u4 (i:=0) nd) (λ_ _ _ _ _=>pQ (EQ hu (d3 0) (d3 1))) (λ_ _ _ _ _=>uG hu (d3 1) (d3 0)))))
def VO(T:kE K w mg):jV P w K mg base 4 "queue_pages" ["web","row","rivals"] DN:=
 MH T.d_queue_pages λ_ _ _ _ _ _ _ hl hr hu aF nd=>y3 (g9 (i:=3) (u0 (HM T) hr (z6 (d3 0) (z6 (d3 1) y4))) nd)
   (y3 (vT (i:=4) oY nd)
   (y3 (nB Bp rfl (W4 (pL (Zf (k:=0) ["k","spans"] [none,some 3] rfl T.b_sorted T.b_range T.x_bm hl (hr.mono (by decide)) (Z6 T.b_len (j5 (d3 3))) (λ_ _ _ _ _ _ hr=>have hu:=hr.units;have aF:=hr.units0;j4 (j5 (d3 1)) (d3 0))))) (u4 (i:=5) nd)
   (y3 (g9 (i:=6) (KH 4 (u0 (IM T) hr (z6 (d3 2) (z6 (d3 4) (z6 (d3 5) y4))))) nd)
   (y8 (BJ (i:=4) hu (d3 5) (FB rfl T.b_min (MX (pR ["page","taken"] [none,some 6] rfl (mU (rF T.b_range (l6 (Z6 T.b_len (j5 (d3 6))) y6))) (λnd _ _ _ _ _=>u4 (i:=0) nd) (λ_ _ _ _ _=>pQ (xS hu (d3 0) (j5 (d3 1)))) (λ_ _ _ _ _=>d3 0))))))))
   (y8 (vN 4 (v6 (d3 4))))))
def Va(T:kE K w mg):jV P w K mg base 4 "ties_over" ["spans","gap"] DD:=
 MH T.d_ties_over λ_ _ _ _ _ _ _ hl hr hu aF nd=>y3 (uM (i:=2) ["tie","spans","gap"] [none,some 0,some 1] rfl (mU (rF T.b_range (Z6 T.b_len (j5 (d3 0))))) (λnd _ _ _ _ _=>u4 (i:=0) nd) (λ_ _ _ _ _=>pQ (KY GG oG uS oG (j4 (j5 (j4 (j5 (d3 1)) (d3 0))) y6) (d3 2) (j4 (j5 (j4 (j5 (d3 1)) (d3 0))) y6))) (λ_ _ _ _ _=>d3 0) nd)
   (y8 (v6 (pL (X1 (k:=0) ["tie","spans"] [none,some 0] T.b_sorted T.x_bm hl (hr.mono (by decide)) (j5 (d3 2)) (λ_ _ _ _ _ _ hr=>have hu:=hr.units;have aF:=hr.units0;j4 (j5 (d3 1)) (d3 0))))))
def Uk(T:kE K w mg):jV P w K mg base 3 "longest_chain" ["spans","ties","kind"] DS:=
 kB T.d_longest_chain λ_ _ _ _ _ _ _ hr hu aF nd=>y3 (vU (i:=3) (p9 y4) nd)
   (y3 (nB Bp rfl (W4 (d3 1)) (u4 (i:=4) nd)
   (y3 (uM (i:=5) ["chain","spans","tie","kind"] [none,some 0,some 4,some 2] rfl (Wu 3) (λnd _ _ _ _ _=>u4 (i:=0) nd) (λ_ _ _ _ _=>pQ (nQ (u0 (N7 T) hr (z6 (j4 (j5 (d3 1)) (j4 (j5 (d3 0)) (BH y6))) (z6 (j4 (j5 (d3 1)) (d3 2)) (z6 (d3 3) y4)))))) (λ_ _ _ _ _=>d3 0) nd)
   (y8 (JN (i:=3) (l6 (Pn rfl T.b_max T.b_len (j5 (d3 5)) (Z4 y4)) (Z4 (z6 (d3 4) y4)))))))
   (y8 (v6 (Pn rfl T.b_max T.b_len (rZ 3) (Z4 y4)))))
def PD(T:kE K w mg):jV P w K mg base 5 "greatest" ["web","row","kind"] yD:=
 kB T.d_greatest λ_ _ _ _ _ _ _ hr hu aF nd=>y3 (g9 (i:=3) (u0 (HM T) hr (z6 (d3 0) (z6 (d3 1) y4))) nd)
   (y3 (g9 (i:=4) (Z4 y4) nd)
   (y3 (nB Bp rfl (rF T.b_range (JM (j4 (j5 (d3 0)) y6) y6)) (u4 (i:=5) nd)
   (y8 (g9 (i:=4) (U1 rfl T.b_max T.b_len (d3 4) (u0 (Uk T) hr (z6 (d3 3) (z6 (u0 (Va T) hr (z6 (d3 3) (z6 (d3 5) y4))) (z6 (d3 2) y4))))) nd)))
   (y8 (v6 (zU T.b_tuple (vE (HH T.b_sorted (j5 (d3 4)))))))))
def V3(T:kE K w mg):jV P w K mg base 1 "group_around" ["rivals","tie"] DQ:=
 kB T.d_group_around λ_ _ _ _ _ _ _ hr hu aF nd=>y3 (vU (i:=2) (p9 (z6 (d3 1) y4)) nd)
   (y3 (g9 (i:=3) y6 nd)
   (y3 (O0 200 Bp (AV aF (d3 3) (Z6 T.b_len (rZ 2)))
   (y3 (JO (i:=2) (pR ["rival","group"] [none,some 2] rfl (mU (W4 (j4 (j5 (d3 0)) (j4 (rZ 2) (d3 3))))) (λnd _ _ _ _ _=>u4 (i:=0) nd) (λ_ _ _ _ _=>pQ (xS hu (d3 0) (rZ 1))) (λ_ _ _ _ _=>d3 0)))
   (y8 (RL (i:=3) y6 nd))))
   (y8 (vN 2 (v6 (d3 2))))))
def Nz(T:kE K w mg):jV P w K mg base 2 "groups_of" ["rivals"] AB:=
 kB T.d_groups_of λ_ _ _ _ _ _ _ hr hu aF nd=>y3 (vU (i:=1) (p9 y4) nd)
   (y3 (vT (i:=2) oY nd)
   (y3 (nB Bp rfl (rF T.b_range (Z6 T.b_len (j5 (d3 0)))) (u4 (i:=3) nd)
   (y8 (Y5 (X4 2 hu (d3 3))
   (y3 (JN (i:=1) (u0 (V3 T) hr (z6 (d3 0) (z6 (d3 3) y4))))
   (y8 (nB Bp rfl (W4 (j4 (rZ 1) (BH y6))) (u4 (i:=4) nd)
   (y8 (BJ (i:=2) hu (d3 4) mB)))))
   K6)))
   (y8 (vN 1 (v6 (d3 1))))))
def DP(T:kE K w mg):jV P w K mg base 1 "page_count" ["pages"] Y8:=kB T.d_page_count λ_ _ _ _ _ _ _ hr hu aF nd=>y8 (v6 (Pm rfl T.b_len T.b_set (j5 (d3 0))))
def NQ(T:kE K w mg):jV P w K mg base 5 "hardest_tie" ["rivals","group","pages"] DL:=
 MH T.d_hardest_tie λ_ _ _ _ _ _ _ hl hr hu aF nd=>y3 (uM (i:=3) ["tie","pages"] [none,some 2] rfl (mU (W4 (d3 1))) (λnd _ _ _ _ _=>u4 (i:=0) nd) (λ_ _ _ _ _=>pQ (Wv hu (d3 0) (d3 1))) (λ_ _ _ _ _=>d3 0) nd)
   (y8 (v6 (Ze (k:=1) ["tie","rivals","pages"] [none,some 0,some 2] rfl T.b_max T.x_bm hl (hr.mono (by decide)) (j5 (d3 3)) (λ_ _ _ _ _ _ hr=>have hu:=hr.units;have aF:=hr.units0;Z4 (z6 (u0 (DP T) hr (z6 (u0 (IM T) hr (z6 (d3 1) (z6 (d3 2) (z6 (d3 0) y4)))) y4)) (z6 (Z6 T.b_len (j5 (j4 (j5 (d3 1)) (d3 0)))) y4))))))
def IJ(T:kE K w mg):jV P w K mg base 2 "pages_to_try" ["pages","many"] Y3:=kB T.d_pages_to_try λ_ _ _ _ _ _ _ hr hu aF nd=>y8 (v6 (pL (PM rfl T.b_list T.b_range (FA rfl T.b_min (d3 1) (l6 (u0 (DP T) hr (z6 (pL (Vk rfl T.b_list (d3 0))) y4)) y6)))))
def HV(T:kE K w mg):jV P w K mg base 1 "with_page" ["pages","tie","page"] sS:=
 kB T.d_with_page λ_ _ _ _ _ _ _ hr hu aF nd=>y3 (vT (i:=3) (OZ T.b_dict (d3 0)) nd)
   (y3 (BJ (i:=3) hu (d3 1) (d3 2))
   (y8 (vN 3 (v6 (d3 3)))))
theorem DA(T:kE K w mg):∀n:Nat,jV P w K mg base (5+1+n) "laid_on" ["rivals","group","pages","many"] (Q8 n)
 | 0=>kB (k:=5) T.d_laid_on (λ_ _ _ _ _ _ _ _ _ _ _=>BI)
 |n+1=>by
  have R:=DA T n
  have hj:5<=5+1+n:=by omega
  exact kB (k:=5+1+n) T.d_laid_on λ_ _ _ _ _ _ _ hr hu aF nd=>y3 (Y5 (sE hu (RI T.b_len (d3 2)) (Z6 T.b_len (j5 (d3 1))))
   (y8 (v6 (d3 2)))
   K6)
   (y3 (g9 (i:=4) (u0 (NQ T) hr (z6 (d3 0) (z6 (d3 1) (z6 (d3 2) y4))) (hjk:=by omega)) nd)
   (y3 (g9 (i:=5) (u0 (IM T) hr (z6 (d3 0) (z6 (d3 2) (z6 (d3 4) y4))) (hjk:=by omega)) nd)
   (y3 (nB Bp rfl (W4 (u0 (IJ T) hr (z6 (d3 2) (z6 (d3 3) y4)) (hjk:=by omega))) (u4 (i:=6) nd)
   (y8 (Y5 (xS hu (d3 6) (j5 (d3 5)))
   (y3 (g9 (i:=7) (u0 R hr (z6 (d3 0) (z6 (d3 1) (z6 (u0 (HV T) hr (z6 (d3 2) (z6 (d3 4) (z6 (d3 6) y4))) (hjk:=by omega)) (z6 (d3 3) y4)))) (hjk:=by omega)) nd)
   (y8 (Y5 (JP (d3 7) sL)
   (y8 (v6 (d3 7)))
   K6)))
   K6)))
   (y8 (v6 sL)))))
def Vw(T:kE K w mg):jV P w K mg base 19 "pile_pages" ["rivals","many"] DJ:=
 kB T.d_pile_pages λ_ _ _ _ _ _ _ hr hu aF nd=>y3 (vT (i:=2) oY nd)
   (y3 (nB Bp rfl (W4 (u0 (Nz T) hr (z6 (d3 0) y4))) (u4 (i:=3) nd)
   (y3 (g9 (i:=4) (u0 (DA T 12) hr (z6 (d3 0) (z6 (d3 3) (z6 (t7 oY) (z6 (d3 1) y4))))) nd)
   (y3 (O0 200 Bp (TH (d3 4) sL)
   (y3 (RL (i:=1) y6 nd)
   (y8 (g9 (i:=4) (u0 (DA T 12) hr (z6 (d3 0) (z6 (d3 3) (z6 (t7 oY) (z6 (d3 1) y4))))) nd))))
   (y8 (À (i:=2) (d3 4))))))
   (y8 (vN 2 (v6 (d3 2)))))
def UD(T:kE K w mg):jV P w K mg base 1 "numbered_as_they_come" ["pages"] IP:=
 kB T.d_numbered_as_they_come λ_ _ _ _ _ _ _ hr hu aF nd=>y3 (vT (i:=1) oY nd)
   (y3 (nB Bp rfl (W4 (d3 0)) (u4 (i:=2) nd)
   (y8 (Zg (i:=1) (d3 2) (KH 1 (RI T.b_len (d3 1))))))
   (y8 (vN 1 (v6 (zU T.b_tuple (vE (pR ["page","numbers"] [none,some 1] rfl (mU (W4 (d3 0))) (λnd _ _ _ _ _=>u4 (i:=0) nd) (λ_ _ _ _ _=>t8) (λ_ _ _ _ _=>uG hu (d3 1) (d3 0)))))))))
def NW(T:kE K w mg):jV P w K mg base 20 "fewest_pages" ["web","row","kind"] Y4:=
 kB T.d_fewest_pages λ_ _ _ _ _ _ _ hr hu aF nd=>y3 (g9 (i:=3) (u0 (HU T) hr (z6 (d3 0) (z6 (d3 1) (z6 (d3 2) y4)))) nd)
   (y3 (Y5 (sE hu (d3 2) W5)
   (y8 (g9 (i:=4) (u0 (VO T) hr (z6 (d3 0) (z6 (d3 1) (z6 (d3 3) y4)))) nd))
   (y8 (g9 (i:=4) (u0 (Vw T) hr (z6 (d3 3) (z6 (Z6 T.b_len (j5 (u0 (PD T) hr (z6 (d3 0) (z6 (d3 1) (z6 (d3 2) y4)))))) y4))) nd)))
   (y8 (v6 (u0 (UD T) hr (z6 (pL (pR ["tie","pages"] [none,some 4] rfl (mU (rF T.b_range (Z6 T.b_len (j5 (d3 3))))) (λnd _ _ _ _ _=>u4 (i:=0) nd) (λ_ _ _ _ _=>t8) (λ_ _ _ _ _=>uG hu (d3 1) (d3 0)))) y4)))))
def UB(T:kE K w mg):jV P w K mg base 19 "ties_that_do_not_fit" ["web","row","kind","many"] IN:=
 kB T.d_ties_that_do_not_fit λ_ _ _ _ _ _ _ hr hu aF nd=>y3 (g9 (i:=4) (u0 (PD T) hr (z6 (d3 0) (z6 (d3 1) (z6 (d3 2) y4)))) nd)
   (y3 (Y5 (QK (Z6 T.b_len (j5 (d3 4))) (d3 3))
   (y8 (v6 (xR (d3 4) vS (sN (l6 (d3 3) y6)))))
   K6)
   (y3 (g9 (i:=5) (u0 (HU T) hr (z6 (d3 0) (z6 (d3 1) (z6 (d3 2) y4)))) nd)
   (y8 (v6 (j4 (vE (pR ["group","rivals","many"] [none,some 5,some 3] rfl (mU (W4 (u0 (Nz T) hr (z6 (d3 5) y4)))) (λnd _ _ _ _ _=>u4 (i:=0) nd) (λ_ _ _ _ _=>pQ (TH (u0 (DA T 12) hr (z6 (d3 1) (z6 (d3 0) (z6 (t7 oY) (z6 (d3 2) y4))))) sL)) (λ_ _ _ _ _=>d3 0))) y6)))))
def Ux(T:kE K w mg){Fr:LD}(R:jV P w K mg base j "paper_on" ["rivals","ties","pages","many"] Fr)(hj:1<=j):jV P w K mg base (j+1) "paper_with_page" ["rivals","ties","pages","many","tie","page"] (AH Fr):=
 kB (k:=j) T.d_paper_with_page λ_ _ _ _ _ _ _ hr hu aF nd=>y3 (uM (i:=6) ["rival","pages","page"] [none,some 2,some 5] rfl (mU (W4 (j4 (j5 (d3 0)) (d3 4)))) (λnd _ _ _ _ _=>u4 (i:=0) nd) (λ_ _ _ _ _=>pQ (oF (JQ (EQ hu (d3 0) (d3 1)) (KI (sE hu (uG hu (d3 1) (d3 0)) (d3 2)))))) (λ_ _ _ _ _=>d3 0) nd)
   (y3 (Y5 (RM (wV (d3 6)))
   (y8 (v6 (l6 (Z4 (z6 W5 y4)) (u0 (NR T) hr (z6 (d3 4) (z6 (j4 (j5 (d3 6)) y6) y4)) (hjk:=by omega)))))
   K6)
   (y8 (v6 (u0 R hr (z6 (d3 0) (z6 (d3 1) (z6 (u0 (HV T) hr (z6 (d3 2) (z6 (d3 4) (z6 (d3 5) y4))) (hjk:=by omega)) (z6 (d3 3) y4)))) (hjk:=by omega)))))
theorem PF(T:kE K w mg):∀n:Nat,jV P w K mg base (5+1+2*n) "paper_on" ["rivals","ties","pages","many"] (sR n)
 | 0=>kB (k:=5) T.d_paper_on (λ_ _ _ _ _ _ _ _ _ _ _=>BI)
 |n+1=>by
  have R:=PF T n
  have hj:5<=5+1+2*n:=by omega
  exact kB (k:=5+1+2*n+1) T.d_paper_on λ_ _ _ _ _ _ _ hr hu aF nd=>y3 (g9 (i:=4) (u0 (NQ T) hr (z6 (d3 0) (z6 (d3 1) (z6 (d3 2) y4))) (hjk:=by omega)) nd)
   (y3 (uM (i:=5) ["page","rivals","ties","pages","many","tie"] [none,some 0,some 1,some 2,some 3,some 4] rfl (mU (W4 (u0 (IJ T) hr (z6 (d3 2) (z6 (d3 3) y4)) (hjk:=by omega)))) (λnd _ _ _ _ _=>u4 (i:=0) nd) (λ_ _ _ _ _=>t8) (λ_ _ _ _ _=>u0 (Ux T R (by omega)) hr (z6 (d3 1) (z6 (d3 2) (z6 (d3 3) (z6 (d3 4) (z6 (d3 5) (z6 (d3 0) y4)))))) (hjk:=by omega)) nd)
   (y8 (v6 (Z4 (z6 W5 (z6 (d3 4) (z6 (zU T.b_tuple (j5 (d3 5))) y4)))))))
def Ul(T:kE K w mg):jV P w K mg base 31 "paper_against" ["web","row","kind","many"] AE:=
 kB T.d_paper_against λ_ _ _ _ _ _ _ hr hu aF nd=>y3 (Y5 (Á (u0 (DP T) hr (z6 (u0 (NW T) hr (z6 (d3 0) (z6 (d3 1) (z6 (d3 2) y4)))) y4)) (d3 3))
   (y8 (v6 sL))
   K6)
   (y8 (v6 (u0 (PF T 12) hr (z6 (u0 (HU T) hr (z6 (d3 0) (z6 (d3 1) (z6 (d3 2) y4)))) (z6 (u0 (UB T) hr (z6 (d3 0) (z6 (d3 1) (z6 (d3 2) (z6 (d3 3) y4))))) (z6 (t7 oY) (z6 (d3 3) y4)))))))
def NZ(T:kE K w mg):jV P w K mg base 1 "_law_is_number" ["_law_thing","_law_size"] wB:=kB T.d_law_is_number λ_ _ _ _ _ _ _ hr hu aF nd=>y8 (v6 (uC (rC Qd T.b_isinstance T.b_int (d3 0) (by decide +kernel)) (uC (QJ (rC JU T.b_isinstance T.b_bool (d3 0) (by decide +kernel))) (xQ (OW GG oG uS oG y6 (d3 0) (d3 1))))))
theorem DU(T:kE K w mg):∀n:Nat,jV P w K mg base (1+1+n) "_law_is_paper" ["_law_pairs","_law_size","_law_many","_law_pages","_law_thing"] (Q2 n)
 | 0=>kB (k:=1) T.d_law_is_paper (λ_ _ _ _ _ _ _ _ _ _ _=>BI)
 |n+1=>by
  have R:=DU T n
  have hj:1<=1+1+n:=by omega
  exact kB (k:=1+1+n) T.d_law_is_paper λ_ _ _ _ _ _ _ hr hu aF nd=>y3 (Y5 (oF (oH (oJ (nQ (rC zS T.b_isinstance T.b_tuple (d3 4) (by decide +kernel)))) (oH (sF hu (Z6 T.b_len (j5 (d3 4))) y6) (qA (oJ (nQ (u0 (NZ T) hr (z6 (j4 (j5 (d3 4)) y6) (z6 (d3 1) y4)) (hjk:=by omega))))))))
   (y8 (v6 mB))
   K6)
   (y3 (Y5 (sE hu (j4 (j5 (d3 4)) y6) W5)
   (y3 (Y5 (oF (oH (oJ (nQ (u0 (NZ T) hr (z6 (j4 (j5 (d3 4)) y6) (z6 (d3 1) y4)) (hjk:=by omega)))) (qA (xS hu (Z4 (z6 (j4 (j5 (d3 4)) y6) (z6 (j4 (j5 (d3 4)) y6) y4))) (j5 (d3 0))))))
   (y8 (v6 mB))
   K6)
   (y3 (g9 (i:=5) (OX (d3 3) (j4 (j5 (d3 4)) y6) (BH y6)) nd)
   (y8 (v6 (uC (QG (d3 5) y6) (xQ (AU hu (d3 5) (OX (d3 3) (j4 (j5 (d3 4)) y6) (BH y6)))))))))
   K6)
   (y3 (Y5 (oF (oH (sF hu (j4 (j5 (d3 4)) y6) W5) (oH (EQ hu (j4 (j5 (d3 4)) y6) (d3 3)) (qA (oJ (nQ (rC zS T.b_isinstance T.b_tuple (j4 (j5 (d3 4)) y6) (by decide +kernel))))))))
   (y8 (v6 mB))
   K6)
   (y3 (g9 (i:=6) (Pm rfl T.b_len T.b_set (vE (X0 3 ["_law_tie","_law_pages"] rfl (pv 3) (λnd _ _ _ _ _=>BD nd rfl (.inl rfl)) (λ_ _ _ _ _=>Qs (Ϡ hr) (pv 1) (pv 0) (λ_ _=>rfl))))) nd)
   (y3 (Y5 (sF hu (Z6 T.b_len (j5 (j4 (j5 (d3 4)) y6))) (FA rfl T.b_min (d3 2) (l6 (d3 6) y6)))
   (y8 (v6 mB))
   K6)
   (y3 (nB Bp rfl (FD T.b_enumerate (j4 (j5 (d3 4)) y6)) (EN rfl (uL (u4 (i:=7) nd) (uL (u4 (i:=8) nd) FC)))
   (y3 (vT (i:=9) (OZ T.b_dict (d3 3)) nd)
   (y3 (BJ (i:=9) hu (j4 (j5 (d3 4)) y6) (d3 7))
   (y8 (Y5 (oJ (nQ (KH 9 (u0 R hr (z6 (d3 0) (z6 (d3 1) (z6 (d3 2) (z6 (d3 9) (z6 (d3 8) y4))))) (hjk:=by omega)))))
   (y8 (v6 mB))
   K6)))))
   (y8 (v6 mB)))))))
def HL(T:kE K w mg):jV P w K mg base 1 "is_whole" ["thing"] vX:=kB T.d_is_whole λ_ _ _ _ _ _ _ hr hu aF nd=>y8 (v6 (uC (rC Qd T.b_isinstance T.b_int (d3 0) (by decide +kernel)) (xQ (QJ (rC JU T.b_isinstance T.b_bool (d3 0) (by decide +kernel))))))
def Uj(T:kE K w mg):jV P w K mg base 2 "is_tie_number" ["web","thing"] DR:=kB T.d_is_tie_number λ_ _ _ _ _ _ _ hr hu aF nd=>y8 (v6 (uC (u0 (HL T) hr (z6 (d3 1) y4)) (xQ (OW GG oG uS oG y6 (d3 1) (Z6 T.b_len (j5 (j4 (j5 (d3 0)) y6)))))))
def V4(T:kE K w mg){Fr:LD}(R:jV P w K mg base j "is_paper_behind" ["web","pairs","pages","many","thing"] Fr)(hj:2<=j):jV P w K mg base (j+1) "is_tie_shown" ["web","pairs","pages","many","tie","papers"] (IC Fr):=
 kB (k:=j) T.d_is_tie_shown λ_ _ _ _ _ _ _ hr hu aF nd=>y3 (Y5 (oF (oH (oJ (nQ (u0 (Uj T) hr (z6 (d3 0) (z6 (d3 4) y4)) (hjk:=by omega)))) (qA (EQ hu (d3 4) (d3 2)))))
   (y8 (v6 mB))
   K6)
   (y3 (Y5 (oF (oH (oJ (nQ (rC zS T.b_isinstance T.b_tuple (d3 5) (by decide +kernel)))) (qA (sF hu (Z6 T.b_len (j5 (d3 5))) (Z6 T.b_len (j5 (u0 (IJ T) hr (z6 (d3 2) (z6 (d3 3) y4)) (hjk:=by omega))))))))
   (y8 (v6 mB))
   K6)
   (y3 (nB Bp rfl (FD T.b_enumerate (d3 5)) (EN rfl (uL (u4 (i:=6) nd) (uL (u4 (i:=7) nd) FC)))
   (y8 (Y5 (oJ (nQ (u0 R hr (z6 (d3 0) (z6 (d3 1) (z6 (u0 (HV T) hr (z6 (d3 2) (z6 (d3 4) (z6 (d3 6) y4))) (hjk:=by omega)) (z6 (d3 3) (z6 (d3 7) y4))))) (hjk:=by omega))))
   (y8 (v6 mB))
   K6)))
   (y8 (v6 mB))))
def Us(T:kE K w mg):jV P w K mg base 2 "is_clash_shown" ["pairs","pages","one","other"] IK:=
 kB T.d_is_clash_shown λ_ _ _ _ _ _ _ hr hu aF nd=>y3 (Y5 (oF (oH (oJ (nQ (u0 (HL T) hr (z6 (d3 2) y4)))) (oH (oJ (nQ (u0 (HL T) hr (z6 (d3 3) y4)))) (qA (xS hu (Z4 (z6 (d3 2) (z6 (d3 3) y4))) (j5 (d3 0)))))))
   (y8 (v6 mB))
   K6)
   (y8 (v6 (uC (QH hu (d3 2) (d3 1)) (uC (QH hu (d3 3) (d3 1)) (xQ (AU hu (uG hu (d3 1) (d3 2)) (uG hu (d3 1) (d3 3))))))))
theorem N9(T:kE K w mg):∀n:Nat,jV P w K mg base (2+1+2*n) "is_paper_behind" ["web","pairs","pages","many","thing"] (AG n)
 | 0=>kB (k:=2) T.d_is_paper_behind (λ_ _ _ _ _ _ _ _ _ _ _=>BI)
 |n+1=>by
  have R:=N9 T n
  have hj:2<=2+1+2*n:=by omega
  exact kB (k:=2+1+2*n+1) T.d_is_paper_behind λ_ _ _ _ _ _ _ hr hu aF nd=>y3 (Y5 (oF (oH (oJ (nQ (rC zS T.b_isinstance T.b_tuple (d3 4) (by decide +kernel)))) (qA (sF hu (Z6 T.b_len (j5 (d3 4))) y6))))
   (y8 (v6 mB))
   K6)
   (y3 (Y5 (sE hu (j4 (j5 (d3 4)) y6) W5)
   (y8 (v6 (u0 (V4 T R (by omega)) hr (z6 (d3 0) (z6 (d3 1) (z6 (d3 2) (z6 (d3 3) (z6 (j4 (j5 (d3 4)) y6) (z6 (j4 (j5 (d3 4)) y6) y4)))))) (hjk:=by omega))))
   K6)
   (y8 (v6 (uC (AU hu (j4 (j5 (d3 4)) y6) W5) (xQ (u0 (Us T) hr (z6 (d3 1) (z6 (d3 2) (z6 (j4 (j5 (d3 4)) y6) (z6 (j4 (j5 (d3 4)) y6) y4)))) (hjk:=by omega)))))))
def HK(T:kE K w mg):jV P w K mg base 28 "is_paper" ["web","row","kind","many","thing"] sQ:=kB T.d_is_paper λ_ _ _ _ _ _ _ hr hu aF nd=>y8 (v6 (u0 (N9 T 12) hr (z6 (d3 0) (z6 (u0 (Pe T) hr (z6 (d3 0) (z6 (d3 1) (z6 (d3 2) y4)))) (z6 (t7 oY) (z6 (d3 3) (z6 (d3 4) y4)))))))
theorem NJ(T:kE K w mg):∀n:Nat,jV P w K mg base (0+1+n) "_law_spoilt" ["_law_paper","_law_cell_here"] (Q0 n)
 | 0=>kB (k:=0) T.d_law_spoilt (λ_ _ _ _ _ _ _ _ _ _ _=>BI)
 |n+1=>by
  have R:=NJ T n
  have hj:0<=0+1+n:=by omega
  exact kB (k:=0+1+n) T.d_law_spoilt λ_ _ _ _ _ _ _ hr hu aF nd=>y3 (Y5 (oF (oH (oJ (nQ (rC zS T.b_isinstance T.b_tuple (d3 0) (by decide +kernel)))) (qA (sE hu (Z6 T.b_len (j5 (d3 0))) y6))))
   (y8 (v6 (j4 (vE (p9 (z6 sL (z6 (Z4 (z6 W5 (z6 y6 (z6 y6 y4)))) (z6 (pL (p9 y4)) (z6 y6 (z6 W5 y4))))))) (xP (d3 1) y6))))
   K6)
   (y3 (g9 (i:=2) (xP (d3 1) (Z6 T.b_len (j5 (d3 0)))) nd)
   (y3 (g9 (i:=3) (xP (JL (d3 1) y6) y6) nd)
   (y3 (Y5 (AV aF (d3 3) y6)
   (y8 (v6 (l6 (l6 (xR (d3 0) vS (sN (d3 2))) (Z4 (z6 (u0 R hr (z6 (j4 (j5 (d3 0)) (d3 2)) (z6 (JL (d3 1) y6) y4)) (hjk:=by omega)) y4))) (xR (d3 0) (sN (l6 (d3 2) y6)) vS))))
   K6)
   (y8 (v6 (j4 (vE (p9 (z6 (l6 (xR (d3 0) vS (sN (d3 2))) (xR (d3 0) (sN (l6 (d3 2) y6)) vS)) (z6 (l6 (d3 0) (xR (d3 0) vS (sN y6))) (z6 (ž (d3 0) (BH y6)) y4))))) (JM (d3 3) y6)))))))
def Ĉ(T:kE K w mg)(G:rY K "law" "law" Se f fd):kY P w K mg base m7 32 f fd ["_law_script"] (s0 K yM):=
 Ug (k:=31) G ⟨rfl,rfl,rfl,by decide +kernel,rfl,by decide +kernel,by decide +kernel⟩ rfl λ_ _ _ _ _ _ hr hu aF nd=>y3 (nB Bp rfl (W4 (TF (d3 0) vS (sN y6))) (u4 (i:=1) nd)
   (y3 (g9 (i:=2) (u0 (YF T) hr (z6 (d3 1) (z6 y6 (z6 y6 y4)))) nd)
   (y3 (g9 (i:=3) (u0 (YE T) hr (z6 (JL (d3 1) y6) (z6 (j4 (j5 (d3 2)) y6) y4))) nd)
   (y3 (g9 (i:=4) (Z6 T.b_len (j5 (j4 (j5 (d3 2)) y6))) nd)
   (y8 (nB Bp rfl (W4 (Z4 (z6 W5 (z6 W5 y4)))) (u4 (i:=5) nd)
   (y3 (g9 (i:=6) (u0 (VN T) hr (z6 (d3 2) (z6 (d3 3) (z6 (d3 5) y4)))) nd)
   (y3 (g9 (i:=7) (u0 (DP T) hr (z6 (u0 (NW T) hr (z6 (d3 2) (z6 (d3 3) (z6 (d3 5) y4)))) y4)) nd)
   (y8 (nB Bp rfl (rF T.b_range (l6 (d3 7) y6)) (u4 (i:=8) nd)
   (y3 (g9 (i:=9) (u0 (Ul T) hr (z6 (d3 2) (z6 (d3 3) (z6 (d3 5) (z6 (d3 8) y4))))) nd)
   (y3 (Y5 (sF hu (ŀ (d3 9) sL) (QG (d3 8) (d3 7)))
   (y8 (v6 mB))
   K6)
   (y8 (Y5 (JP (d3 9) sL)
   (y3 (Y5 (oJ (nQ (u0 (DU T 12) hr (z6 (d3 6) (z6 (d3 4) (z6 (d3 8) (z6 (t7 oY) (z6 (d3 9) y4))))))))
   (y8 (v6 mB))
   K6)
   (y3 (Y5 (JP (u0 (HK T) hr (z6 (d3 2) (z6 (d3 3) (z6 (d3 5) (z6 (d3 8) (z6 (d3 9) y4)))))) mB)
   (y8 (v6 mB))
   K6)
   (y3 (uM (i:=10) ["_law_more","_law_paper"] [none,some 9] rfl (mU (W4 (TF (d3 0) (sN y6) (sN y6)))) (λnd _ _ _ _ _=>u4 (i:=0) nd) (λ_ _ _ _ _=>t8) (λ_ _ _ _ _=>u0 (NJ T 25) hr (z6 (d3 1) (z6 (d3 0) y4))) nd)
   (y3 (nB Bp rfl (W4 (pL (ſ (wV (d3 10)) (MX (p9 (z6 sL (z6 (Z4 y4) (z6 (Z4 (z6 W5 (z6 y6 (z6 y6 y4)))) (z6 (Z4 (z6 W5 (z6 y6 (z6 (Z4 y4) y4)))) (z6 (Z4 (z6 W5 (z6 mB (z6 (Z4 y4) y4)))) y4)))))))))) (u4 (i:=11) nd)
   (y3 (g9 (i:=12) (u0 (HK T) hr (z6 (d3 2) (z6 (d3 3) (z6 (d3 5) (z6 (d3 8) (z6 (d3 11) y4)))))) nd)
   (y8 (Y5 (oF (oH (oJ (nQ (rC JU T.b_isinstance T.b_bool (d3 12) (by decide +kernel)))) (qA (sF hu (d3 12) (u0 (DU T 12) hr (z6 (d3 6) (z6 (d3 4) (z6 (d3 8) (z6 (t7 oY) (z6 (d3 11) y4))))))))))
   (y8 (v6 mB))
   K6))))
   (y3 (g9 (i:=12) (u0 (HK T) hr (z6 (d3 2) (z6 (d3 3) (z6 (d3 5) (z6 (l6 (d3 8) y6) (z6 (d3 9) y4)))))) nd)
   (y8 (Y5 (sF hu (d3 12) (u0 (DU T 12) hr (z6 (d3 6) (z6 (d3 4) (z6 (l6 (d3 8) y6) (z6 (t7 oY) (z6 (d3 9) y4)))))))
   (y8 (v6 mB))
   K6)))))))
   K6))))))))))))))
   (y8 (v6 mB))
end
def all_mk{l:Lf}{mg:Bg->Option Ac}(gm:mg "law" = some (.ref fa))(T:kE K w mg):
  ∃fd:Go,(∀(s:Am) (v:Ac),M9 s fd ⟨[v],[]⟩ [("_law_script",v)])/\∀base:Cl,K.In base->base.Ns Cy mg->kY l.prog w K mg base m7 32 fa fd ["_law_script"] (s0 K yM):=by
 obtain⟨f,fd,G,e⟩:=T.d_law.ex;cases gm.symm.trans e;have G':=G;obtain⟨oc,od,kV,aB,pm,an,am,ct,dN,rfl,lk,aO⟩:=G.ex;exact⟨_,λs v=>.of_eq rfl,λbase _ _=>Ĉ T G'⟩
def tb_CLASHING{w:Cg}{K:A5}{t0 t1:Tok}(X:K.In h)(G:h.Ns Cy mg)(x:Ig K Cy "CLASHING" = some (some (.ref ta)))(y:K.lookup ta=some ⟨.type "dict",none,.dict te tn,#[]⟩)(k:PySem.W.KeysLit w.params te.toList)(v0:Ig K ta "pile" = some (some (.str "cross" t0)))(v1:Ig K ta "queue" = some (some (.str "within" t1))):∃a,mg "CLASHING" = some (.ref a)/\MY K w a [("pile","cross"),("queue","within")]:=
 ⟨_,M3 X G x,_,_,y,k,by
  intro kv hkv;simp only[Ad,Eo,or_false]at hkv;rcases hkv with rfl|rfl
  .exact⟨_,v0⟩
  .exact⟨_,v1⟩⟩
def walk{l:Lf}{q:By}{YP:Cg->Cl->Prop}{d:DefRec}{K:Params->A5}(hn:l.most=some 63)(iM:d.params.defaults=[])(hY:∀(w:Cg) (h:Cl),YP w h->(K w.params).In h)(hT:∀(w:Cg) (h:Cl),YP w h->∀P q,([(132,"hardest_tie"),(115,"queue_pages"),(69,"ties_over")]:List (Aw×Bg)).lookup P=some q->h.get? P=some { cls:=.none,data:=.fields #[] })(hK:∀w:Cg,wT (K w.params) [(132,"hardest_tie"),(115,"queue_pages"),(69,"ties_over")]=true)(hlaw:∀ns:List Int,ns.length<=63->yM [.lst (ns.map D.int)]=some (.bl true))
  (F:∀(w:Cg) (mg:Bg->Option Ac) (fa:Aw) (h:Cl),(K w.params).In h->h.Ns Cy mg->mg d.name=some (.ref fa) ->
   ∃fd:Go,(∀(s:Am) (u:Ac),M9 s fd ⟨[u],[]⟩ [("_law_script",u)])/\∀base:Cl,(K w.params).In base->base.Ns Cy mg->kY l.prog w (K w.params) mg base m7 32 fa fd ["_law_script"] (s0 (K w.params) yM)):
  PySem.W.WalkO q loose XP YP l.row.toRowW d [] (λf vs=>Mw f vs):=
 Wn (n:=63) (k:=32) (x:="_law_script") (sp:=λw=>s0 (K w.params) yM) [(132,"hardest_tie"),(115,"queue_pages"),(69,"ties_over")] hn (by decide) iM ⟨rfl,by decide,by decide,rfl⟩ hY hT hK F (λw H a ns hl tb hS=>
  ⟨[],[.lst (ns.map D.int)],.bl true,⟨tb,λz hz=>absurd hz (by simp)⟩,J3.one (K3.mpr ⟨a,ns.map V.int,rfl,by rw[Ï];exact hS,Y6.mpr rfl⟩),hlaw ns hl,λv H' _ hv=>Q3.mp hv⟩)
end P
namespace L3
open PySem L2
section
variable{Y Y':J5}{d e:D}{a b:Bool}{fa fb fc:ED}{ga gb:EB}{g k:EO}{fl gl:EL}{i:Nat}{o:Option Out}
def v5(h:g Y=some (.nx Y'))(h2:k Y'=o):J8 g k Y=o:=by unfold J8;rw[h];exact h2
def mL(h:g Y=some (.rt d)):J8 g k Y=some (.rt d):=by unfold J8;rw[h]
def mG{x:Option Out}{v:D}(h:x=some (.rt v)):lA x=some v:=by rw[h];rfl
def j7(h:fa Y=some d):jB fa Y=some (.rt d):=by unfold jB;rw[h]
def J4(h:fa Y=some d):i8 i fa Y=some (.nx (Y.set i (sC d))):=by unfold i8;rw[h]
def vK{ds:List D}(h:fl Y=some ds):qG i fl Y=some (.nx (Y.set i (some (.ow ds)))):=by unfold qG;rw[h]
def K9(h:ga Y=some a):jL ga g k Y=if a=true then g Y else k Y:=by unfold jL;rw[h];cases a<;>rfl
theorem r9(h:fa Y=some (.bl a))(h2:a=true->fb Y=some (.bl b)):o4 fa fb Y=some (.bl (a&&b)):=by
 unfold o4;rw[h];cases a with
 |true=>exact h2 rfl
 |false=>rfl
def So(h:fa Y=some (.bl a)):yZ fa Y=some (.bl (!a)):=by unfold yZ;rw[h]
def v7(h:fa Y=some (.bl a)):y9 fa Y=some a:=by unfold y9;rw[h]
theorem IW(h:ga Y=some a)(h2:a=true->gb Y=some b):oQ ga gb Y=some (a&&b):=by
 unfold oQ;rw[h];cases a with
 |true=>exact h2 rfl
 |false=>rfl
theorem Z0(h:ga Y=some a)(h2:a=false->gb Y=some b):lM ga gb Y=some (a||b):=by
 unfold lM;rw[h];cases a with
 |true=>rfl
 |false=>exact h2 rfl
def nY(h:ga Y=some a):kN ga Y=some (!a):=by unfold kN;rw[h];rfl
def Ϟ(h:ga Y=some a):CB ga fa fb Y=if a=true then fa Y else fb Y:=by unfold CB;rw[h];cases a<;>rfl
def jI{x y:D}(h:fa Y=some x)(h2:fb Y=some y):d2 f fa fb Y=f x y:=by unfold d2;rw[h,h2]
theorem ES{f f':D->D->Option D}{x y z:D}(h:fa Y=some x)(h2:fb Y=some y)(h3:f x y=some (.bl a))(h4:a=true->fc Y=some z)(h5:a=true->f' y z=some (.bl b)):nP f f' fa fb fc Y=some (.bl (a&&b)):=by
 unfold nP;rw[h,h2];dsimp only;rw[h3];cases a with
 |true=>dsimp only;rw[h4 rfl];exact h5 rfl
 |false=>rfl
def u3{ds:List D}(h:fa Y=some d)(h2:fl Y=some ds):z9 fa fl Y=some (d::ds):=by unfold z9;rw[h,h2]
def x6{ds:List D}(h:fl Y=some ds):x8 F fl Y=F ds:=by unfold x8;rw[h]
def pM{ds:List D}(h:fl Y=some ds)(h2:ds.length<=f9):jW fl Y=some (.tup ds):=by unfold jW;rw[h];dsimp only;rw[if_pos h2]
def tU{ds:List D}(h:fl Y=some ds)(h2:ds.length<=f9):nC fl Y=some ds:=by unfold nC;rw[h];dsimp only;rw[if_pos h2]
def mR{ds:List D}(h:fl Y=some ds):kX fl Y=some (.lst ds):=by unfold kX;rw[h];rfl
def l9{ds:List D}(h:fl Y=some ds):jP fl Y=some (.int ds.length):=by unfold jP;rw[h];rfl
def xM{ds:List D}(h:fl Y=some ds):oS fl Y=some (.tup ds):=by unfold oS;rw[h];rfl
def wP(h:fa Y=some d):mF T fa Y=some (.bl (mO T d)):=by unfold mF;rw[h]
def sA(h:fa Y=some (.tup ds)):d8 fa Y=some ds:=by unfold d8;rw[h]
def m9(h:fa Y=some (.lst ds)):d8 fa Y=some ds:=by unfold d8;rw[h]
def lY{ds:List D}(h:fl Y=some ds)(h2:fa Y=some (.int j)):jH fl fa Y=lU ds j:=by unfold jH;rw[h,h2]
def MK{ds:List D}(h:fl Y=some ds):tH F fl Y=F ds:=by unfold tH;rw[h]
def wH{ds:List D}(h:fa Y=some d)(h2:fl Y=some ds)(h3:Z8 ds<=jK)(h4:depth d<=jK):jS neg fa fl Y=some (.bl (if neg=true then !nM d ds else nM d ds)):=by unfold jS;rw[h,h2];dsimp only;rw[if_pos ⟨h3,h4⟩]
def LI{ds:List D}(h:kU i Y=some ds)(h2:fa Y=some d)(h3:ds.length<f9):qN i fa Y=some (.nx (Y.set i (some (.ow (ds++[d]))))):=by unfold qN;rw[h,h2];dsimp only;rw[if_pos h3]
def LJ{ds es:List D}(h:kU i Y=some ds)(h2:fl Y=some es)(h3:ds.length+es.length<=f9):rQ i fl Y=some (.nx (Y.set i (some (.ow (ds++es))))):=by unfold rQ;rw[h,h2];dsimp only;rw[if_pos h3]
def mJ{ds:List D}(e:fl Y=some ds):lG fl h g Y=kH h g ds Y:=by unfold lG;rw[e]
def mT{ds:List D}(e:fl Y=some ds)(hl:ds.length<=f9):Y2 cap fl h ga fa Y=pY h ga fa (mE cap Y) ds:=by unfold Y2;rw[e];dsimp only;rw[if_pos hl]
def Ë{ds:List D}(e:fl Y=some ds)(hl:ds.length<=f9):AI cap fl h fe Y=sG h fe (mE cap Y) ds:=by unfold AI;rw[e];dsimp only;rw[if_pos hl]
def ZY{x:D}{lo hi:Option Int}{fo fh:J5->Option (Option Int)}(h:fa Y=some x)(h1:fo Y=some lo)(h2:fh Y=some hi):l8 fa fo fh Y=CA x lo hi:=by unfold l8;rw[h,h1,h2]
def xL(h:fa Y=some (.int j)):kW fa Y=some (some j):=by unfold kW;rw[h]
def vJ(h:fa Y=some (.int j))(h2:mW j=true):lO fa Y=some (Q5 0 j.toNat):=by unfold lO;rw[h];dsimp only;rw[if_pos h2]
def ņ{i j:Int}(h:fa Y=some (.int i))(h':fb Y=some (.int j))(h1:mW i=true)(h2:mW j=true):uQ fa fb Y=some (Q5 i (j-i).toNat):=by unfold uQ;rw[h,h'];dsimp only;rw[if_pos ⟨h1,h2⟩]
def GX(h:fa Y=some (.int j))(h1 : -(2 ^ 62)<=j)(h2:j<=100000):oX fa Y=some ((lR 0 j.toNat).map D.int):=by unfold oX;rw[h];dsimp only;rw[if_pos ⟨h1,h2⟩]
end
theorem uN{h:D->J5->Option J5}{fe:ED}(I:J5->Prop)(y:D->D):∀(ds:List D) (Y:J5),I Y->(∀d∈ds,∀Y,I Y->∃Y1,h d Y=some Y1/\I Y1/\fe Y1=some (y d))->pY h mQ fe Y ds=some (ds.map y)
 | [],_,_,_=>rfl
 |d::ds,Y,hI,hs=>by obtain⟨Y1,e1,I1,e2⟩:=hs d A6 Y hI;unfold pY;rw[e1];dsimp only[mQ];rw[e2];dsimp only;rw[uN I y ds Y1 I1 λd hd=>hs d (A7 _ hd)];rfl
theorem K8{h:D->J5->Option J5}{ft:EB}{fe:ED}(I:J5->Prop)(t:D->Bool)(y:D->D):∀(ds:List D) (Y:J5),I Y->(∀d∈ds,∀Y,I Y->∃Y1,h d Y=some Y1/\I Y1/\ft Y1=some (t d)/\(t d=true->fe Y1=some (y d)))->pY h ft fe Y ds=some ((ds.filter t).map y)
 | [],_,_,_=>rfl
 |d::ds,Y,hI,hs=>by
  obtain⟨Y1,e1,I1,e2,e3⟩:=hs d A6 Y hI;have ih:=K8 I t y ds Y1 I1 λd hd=>hs d (A7 _ hd);unfold pY;rw[e1];dsimp only;rw[e2]
  cases ht:t d with
  |true=>dsimp only;rw[e3 ht,List.filter_cons_of_pos ht];dsimp only;rw[ih];rfl
  |false=>
   dsimp only;rw[List.filter_cons_of_neg (by rw[ht];simp)]
   exact ih
theorem Qm{h:D->J5->Option J5}{g:EO}(I:List D->J5->Prop){all:List D}(hs:∀pre d post Y,pre++d::post=all->I pre Y->∃Y1 Y2,h d Y=some Y1/\(g Y1=some (.nx Y2)\/g Y1=some (.ct Y2))/\I (pre++[d]) Y2):
  ∀(ds pre:List D) (Y:J5),pre++ds=all->I pre Y->∃Y',kH h g ds Y=some (.nx Y')/\I all Y'
 | [],pre,Y,e,hI=>⟨Y,rfl,by rw[<-e,Ci];exact hI⟩
 |d::ds,pre,Y,e,hI=>by
  obtain⟨Y1,Y2,e1,e2,I2⟩:=hs pre d ds Y e hI;obtain⟨Y',e3,I3⟩:=Qm I hs ds (pre++[d]) Y2 (by rw[<-e];simp) I2
  refine⟨Y',?_,I3⟩;unfold kH;rw[e1];dsimp only;rcases e2 with e2|e2<;>(rw[e2];exact e3)
def xW{h:D->J5->Option J5}{g:EO}(I:List D->J5->Prop){ds:List D}(h0:I [] Y)(hs:∀pre d post Y,pre++d::post=ds->I pre Y->∃Y1 Y2,h d Y=some Y1/\(g Y1=some (.nx Y2)\/g Y1=some (.ct Y2))/\I (pre++[d]) Y2):
  ∃Y',kH h g ds Y=some (.nx Y')/\I ds Y':=Qm I hs ds [] Y rfl h0
def JX{h:D->J5->Option J5}{g:EO}(I:J5->Prop){ds:List D}(h0:I Y)(hs:∀d∈ds,∀Y,I Y->∃Y1 Y2,h d Y=some Y1/\(g Y1=some (.nx Y2)\/g Y1=some (.ct Y2))/\I Y2):
  ∃Y',kH h g ds Y=some (.nx Y')/\I Y':=xW (λ_ Y=>I Y) h0 λpre d post Y e hI=>hs d (by rw[<-e];simp) Y hI
end L3
namespace P
open PySem L2 L3
def KM{n k:Nat}(h:k<n):(Q5 0 n)[k]?=some (.int (k:Int)):=by unfold Q5;rw[As,Ei h];simp
def qB(lo:Int)(n:Nat):(Q5 lo n).length=n:=by unfold Q5;simp
def WP{d:D}(h:d∈Q5 0 n):∃k:Nat,k<n/\d = .int (k:Int):=by unfold Q5 at h;obtain⟨k,hk,rfl⟩:=Ah.mp h;exact⟨k,Ap.mp hk,by simp⟩
def nU(c p m:Int):Int:=c*48271 % p % m
def č(c:Int)(h:vL k=true):oK (.int c) (.int k)=some (.int (c*k)):=by unfold oK GE rX;dsimp only;rw[if_pos (by rw[h,Bool.or_true])]
def Qn(c:Int)(h:vL k=true):oK (.int k) (.int c)=some (.int (k*c)):=by unfold oK GE rX;dsimp only;rw[if_pos (by rw[h,Md])]
def LS(c:Int){k:Int}(h:0<k):oR (.int c) (.int k)=some (.int (c % k)):=by unfold oR rX;dsimp only;rw[if_pos (decide_eq_true h)]
def AD(c:Int){p m:Int}(hp:0<p)(hm:0<m):Z9 [.int c,.int p,.int m]=some (.int (nU c p m)):=by
 show lA (jB _ _)=_;rw[j7 (d:=.int (nU c p m))]
 .rfl
 .exact(jI (x:=.int (c*48271 % p)) (y:=.int m) ((jI (x:=.int (c*48271)) (y:=.int p) ((jI (x:=.int c) (y:=.int 48271) rfl rfl).trans (č c (by decide))) rfl).trans (LS _ hp)) rfl).trans (LS _ hm)
def AO(c p:Int){m:Int}(h:0<m):0<=nU c p m:=Ji _ (by omega)
def AN(c p:Int){m:Int}(h:0<m):nU c p m<m:=Hw _ h
abbrev f8:=Int×Int
def j0(t:f8):D:=.tup [.int t.1,.int t.2]
def Ń(s t:f8):kC (j0 s) (j0 t)=decide (s=t):=by
 show (s.1==t.1&&(s.2==t.2&&true))=_;rw[Bool.and_true];obtain⟨a,b⟩:=s;obtain⟨c,d⟩:=t;by_cases h1:a=c
 .by_cases h2:b=d
  .subst h1 h2;simp
  .have:¬((a,b)=(c,d)):=λz=>h2 (Gv z).2
   rw[decide_eq_false this];simp[h2]
 .have:¬((a,b)=(c,d)):=λz=>h1 (Gv z).1
  rw[decide_eq_false this];simp[h1]
theorem EF(t:f8):∀ts:List f8,nM (j0 t) (ts.map j0)=decide (t∈ts)
 | []=>by simp[nM]
 |s::ts=>by
  have ih:=EF t ts;unfold nM at ih ⊢;rw[Aj,Ek,ih,Ń];by_cases h:s=t
  .subst h;simp
  .have h':¬t=s:=λz=>h z.symm;simp[h,h']
def CO(t:f8):depth (j0 t)=1:=by unfold j0;simp[depth,Z8]
theorem DE:∀ts:List f8,Z8 (ts.map j0)<=1
 | []=>by rw[G6,Z8];omega
 |t::ts=>by
  have:=DE ts
  have h2:=CO t;rw[Aj,Z8];omega
def jO(s t:f8):Prop:=s.1<t.1\/(s.1=t.1/\s.2<t.2)
instance (s t:f8):Decidable (jO s t):=inferInstanceAs (Decidable (_\/_))
def sJ(s t:f8):HT.lexLt [s.1,s.2] [t.1,t.2]=decide (jO s t):=by
 have aE:HT.lexLt [s.1,s.2] [t.1,t.2]=true↔jO s t:=by
  rw[HT.lexLt_cons];unfold jO;by_cases h1:s.1=t.1
  .rw[if_pos h1,HT.lexLt_cons];by_cases h2:s.2=t.2
   .rw[if_pos h2,HT.lexLt_nil_nil];exact⟨λz=>absurd z (by decide),λz=>absurd z (by omega)⟩
   .rw[if_neg h2,decide_eq_true_iff];omega
  .rw[if_neg h1,decide_eq_true_iff];omega
 by_cases h:jO s t
 .rw[decide_eq_true h];exact aE.mpr h
 .rw[decide_eq_false h];exact Ka.mpr λz=>h (aE.mp z)
def rB(s:f8):¬jO s s:=by unfold jO;omega
def OS(h:jO s t)(h':jO t u):jO s u:=by unfold jO at *;omega
def vW(s t:f8):jO s t\/s=t\/jO t s:=by
 obtain⟨a,b⟩:=s;obtain⟨c,d⟩:=t;unfold jO;dsimp only;by_cases h:a=c
 .by_cases h2:b=d
  .subst h h2;exact .inr (.inl rfl)
  .omega
 .omega
def lK(t:f8):List Int:=[t.1,t.2]
def BQ(ns:List Int):f8:=(ns.getD 0 0,ns.getD 1 0)
def qJ(ts:List f8):List f8:=(uU (ts.map lK)).map BQ
def Rz(ts:List f8):uU (ts.map lK)=(qJ ts).map lK:=by
 unfold qJ;rw[B8]
 have:∀ns∈uU (ts.map lK),(lK∘BQ) ns=ns:=λns h=>by have h':=(HF (ts.map lK)).mem_iff.mp h;obtain⟨t,_,rfl⟩:=Ah.mp h';rfl
 exact((B6 this).trans (Ib _)).symm
def AA(ts:List f8):(qJ ts).Perm ts:=by
 have h:=(HF (ts.map lK)).map BQ
 have e:(ts.map lK).map BQ=ts:=by rw[B8];exact(B6 (λt _=>rfl:∀t∈ts,(BQ∘lK) t=t)).trans (Ib _)
 rw[e]at h;exact h
def RA(ts:List f8)(hn:ts.Nodup):(qJ ts).Pairwise jO:=by
 have h:=RB (ts.map lK);rw[Rz,Br]at h;have bj:(qJ ts).Nodup:=(AA ts).nodup_iff.mpr hn
 have:=h.and bj
 refine this.imp λ{s t} q=>?_;obtain⟨q1,q2⟩:=q
 have:decide (jO t s)=false:=(sJ t s).symm.trans q1
 have n1:=of_decide_eq_false this;rcases vW s t with z|z|z
 .exact z
 .exact absurd z q2
 .exact absurd z n1
theorem Pi{ts:List f8}(h:ts.length<64):qI (ts.map j0)=some ((qJ ts).map j0):=by
 unfold qI;rw[if_pos (by rw[A0];exact h)]
 cases ts with
 |nil=>show some ((sU []).map D.int)=some ((qJ []).map j0);unfold qJ sU uU;simp
 |cons t ts=>
  have e1:lE ((t::ts).map j0)=none:=rfl
  have e2:nI ((t::ts).map j0)=some ((t::ts).map lK):=by
   have:=DC (nss:=(t::ts).map lK) (λns h=>by
    obtain⟨u,_,rfl⟩:=Ah.mp h
    simp[lK])
   rw[B8]at this;exact this
  rw[e1];dsimp only;rw[e2];dsimp only;rw[Rz,B8];rfl
structure CG(n:Int)(ts:List f8):Prop where
 lo:1<=n
 hi:n<=6
 up:ts.Pairwise jO
 ok:∀t∈ts,0<=t.1/\t.1<t.2/\t.2<n
def Y9(n:Int)(ts:List f8):D:=.tup [.int n,.tup (ts.map j0)]
def FQ(a b:Int):o9 [.int a,.int b]=some (.int (Ew a b)):=by
 show some (D.int (if b<a then b else a))=_;by_cases h:b<a
 .rw[if_pos h,Fs (by omega)]
 .rw[if_neg h,Gd (by omega)]
def SW(a b:Int):uZ [.int a,.int b]=some (.int (Lh a b)):=by
 show some (D.int (if b>a then b else a))=_;by_cases h:b>a
 .rw[if_pos h,Ft (by omega)]
 .rw[if_neg h,Ge (by omega)]
def JK:EO:=
 J8 (i8 6 (x8 Z9 (z9 (d2 jN (z7 0) (d2 oK (dI 11) (z7 5))) (z9 (dI 9949) (jT 3)))))
 (J8 (i8 7 (x8 Z9 (z9 (d2 jN (d2 jN (z7 0) (d2 oK (dI 13) (z7 5))) (dI 1)) (z9 (dI 9941) (jT 3)))))
 (J8 (i8 8 (jW (z9 (x8 o9 (kF 6 7)) (z9 (x8 uZ (kF 6 7)) i3))))
 (jL (oQ (y9 (d2 lP (z7 6) (z7 7))) (y9 (jS true (z7 8) (kU 4))))
 (qN 4 (z7 8))
 Y1)))
theorem Zd{c m t:D}{cc n k:Int}{ts:List f8}{c6 c7 c8:Option Cell}(hn:0<n)(hok:∀t∈ts,0<=t.1/\t.1<t.2/\t.2<n)(ay:ts.Nodup)(hl:ts.length<=1000):
  ∃(gQ:List f8) (bZ cu fr:Option Cell),JK [sC (.int cc),sC m,sC t,sC (.int n),some (.ow (ts.map j0)),sC (.int k),c6,c7,c8] =
   some (.nx [sC (.int cc),sC m,sC t,sC (.int n),some (.ow (gQ.map j0)),sC (.int k),bZ,cu,fr])/\(∀t∈gQ,0<=t.1/\t.1<t.2/\t.2<n)/\gQ.Nodup/\gQ.length<=ts.length+1:=by
 have a1:=AO (cc+11*k) 9949 hn;have a2:=AN (cc+11*k) 9949 hn;have b1:=AO (cc+13*k+1) 9941 hn;have b2:=AN (cc+13*k+1) 9941 hn;generalize e1:nU (cc+11*k) 9949 n=a at a1 a2;generalize e2:nU (cc+13*k+1) 9941 n=b at b1 b2
 have f1:Z9 [.int (cc+11*k),.int 9949,.int n]=some (.int a):=by rw[AD _ (by decide) hn,e1]
 have f2:Z9 [.int (cc+13*k+1),.int 9941,.int n]=some (.int b):=by rw[AD _ (by decide) hn,e2]
 have g0:∀Y:J5,Y[0]?=some (sC (.int cc))->Y[5]?=some (sC (.int k))->∀j:Int,vL j=true->d2 jN (z7 0) (d2 oK (dC (.int j)) (z7 5)) Y=some (.int (cc+j*k)):=λY h0 h5 j hj=>by
  have z0:z7 0 Y=some (.int cc):=by unfold z7;rw[h0]
  have z5:z7 5 Y=some (.int k):=by unfold z7;rw[h5]
  exact(jI z0 ((jI (x:=.int j) (y:=.int k) rfl z5).trans (Qn k hj))).trans rfl
 let tie:f8:=(Ew a b,Lh a b)
 have step:JK [sC (.int cc),sC m,sC t,sC (.int n),some (.ow (ts.map j0)),sC (.int k),c6,c7,c8] =
   jL (oQ (y9 (d2 lP (z7 6) (z7 7))) (y9 (jS true (z7 8) (kU 4)))) (qN 4 (z7 8)) Y1
    [sC (.int cc),sC m,sC t,sC (.int n),some (.ow (ts.map j0)),sC (.int k),sC (.int a),sC (.int b),sC (j0 tie)]:=by
  refine v5 (J4 (d:=.int a) ((x6 (ds:=[.int (cc+11*k),.int 9949,.int n]) (u3 (g0 _ rfl rfl 11 (by decide)) rfl)).trans f1)) ?_;refine v5 (J4 (d:=.int b) ((x6 (ds:=[.int (cc+13*k+1),.int 9941,.int n]) (u3 ((jI (g0 _ rfl rfl 13 (by decide)) rfl).trans rfl) rfl)).trans f2)) ?_;exact v5 (J4 (d:=j0 tie) (pM (ds:=[.int tie.1,.int tie.2]) (u3 ((x6 (ds:=[.int a,.int b]) rfl).trans (FQ a b)) (u3 ((x6 (ds:=[.int a,.int b]) rfl).trans (SW a b)) rfl)) (show 2<=f9 by decide))) rfl
 rw[step]
 have et:oQ (y9 (d2 lP (z7 6) (z7 7))) (y9 (jS true (z7 8) (kU 4))) [sC (.int cc),sC m,sC t,sC (.int n),some (.ow (ts.map j0)),sC (.int k),sC (.int a),sC (.int b),sC (j0 tie)]=some (!(a==b)&&!decide (tie∈ts)):=by
  refine IW (v7 rfl) λ_=>v7 ((wH (d:=j0 tie) (ds:=ts.map j0) rfl rfl (B3 (DE ts) (by decide)) (by rw[CO];decide)).trans ?_)
  rw[EF];rfl
 rw[K9 et]
 cases hc:(!(a==b)&&!decide (tie∈ts)) with
 |false=>exact⟨ts,_,_,_,rfl,hok,ay,Dq _⟩
 |true=>
  rw[Be]at hc
  have ak:a≠b:=by simpa using hc.1
  have il:tie∉ts:=by simpa using hc.2
  refine⟨ts++[tie],sC (.int a),sC (.int b),sC (j0 tie),?_,λu hu=>?_,?_,by simp⟩
  .rw[if_pos rfl];refine(LI (ds:=ts.map j0) (d:=j0 tie) rfl rfl (by rw[A0];unfold f9;omega)).trans ?_
   rw[B9];rfl
  .rcases Aq.mp hu with z|z
   .exact hok u z
   .have:u=tie:=by simpa using z
    subst this;show 0<=Ew a b/\Ew a b<Lh a b/\Lh a b<n;omega
  .rw[C5];refine⟨ay,by simp,λx hx y hy=>?_⟩
   have:y=tie:=by simpa using hy
   subst this;exact λz=>il (z▸hx)
def U4(c:Int){most ties:Int}(h1:1<=most)(h6:most<=6)(t0:0<=ties)(t12:ties<=12):
  ∃(n:Int) (ts:List f8),CM [.int c,.int most,.int ties]=some (Y9 n ts)/\CG n ts/\n<=most/\(ts.length:Int)<=ties:=by
 have a1:=AO c 9973 (show 0<most by omega);have a2:=AN c 9973 (show 0<most by omega);have b1:=AO c 9967 (show 0<ties+1 by omega);have b2:=AN c 9967 (show 0<ties+1 by omega)
 obtain⟨n,hn1,hn2,e1⟩:∃n:Int,1<=n/\n<=most/\∀k:EO,J8 (i8 3 (d2 jN (dI 1) (x8 Z9 (z9 (z7 0) (z9 (dI 9973) (jT 1))))))
   (J8 (jL (oQ (y9 (d2 pE (z7 3) (dI 4))) (y9 (d2 yY (d2 oR (z7 0) (dI 4)) (dI 0)))) (i8 3 (z7 1)) Y1) k) [sC (.int c),sC (.int most),sC (.int ties),none,none,none,none,none,none] =
   k [sC (.int c),sC (.int most),sC (.int ties),sC (.int n),none,none,none,none,none]:=by
  have s1:∀k,J8 (i8 3 (d2 jN (dI 1) (x8 Z9 (z9 (z7 0) (z9 (dI 9973) (jT 1)))))) k [sC (.int c),sC (.int most),sC (.int ties),none,none,none,none,none,none] =
    k [sC (.int c),sC (.int most),sC (.int ties),sC (.int (1+nU c 9973 most)),none,none,none,none,none]:=λk=>
   v5 (J4 (d:=.int (1+nU c 9973 most)) ((jI (x:=.int 1) (y:=.int (nU c 9973 most)) rfl ((x6 (ds:=[.int c,.int 9973,.int most]) rfl).trans (AD c (by decide) (by omega)))).trans rfl)) rfl
  have s2:oQ (y9 (d2 pE (z7 3) (dI 4))) (y9 (d2 yY (d2 oR (z7 0) (dI 4)) (dI 0))) [sC (.int c),sC (.int most),sC (.int ties),sC (.int (1+nU c 9973 most)),none,none,none,none,none]=some (decide (1+nU c 9973 most<4)&&decide (0<c % 4)):=IW (v7 rfl) λ_=>v7 ((jI (x:=.int (c % 4)) (y:=.int 0) ((jI (x:=.int c) (y:=.int 4) rfl rfl).trans (LS c (by decide))) rfl).trans rfl)
  cases hc:(decide (1+nU c 9973 most<4)&&decide (0<c % 4)) with
  |true=>refine⟨most,h1,Ja _,λk=>(s1 _).trans (v5 ((K9 s2).trans ?_) rfl)⟩;rw[hc];rfl
  |false=>refine⟨1+nU c 9973 most,by omega,by omega,λk=>(s1 _).trans (v5 ((K9 s2).trans ?_) rfl)⟩;rw[hc];rfl
 have hok:mW (nU c 9967 (ties+1))=true:=by unfold mW;rw[decide_eq_true (by omega),decide_eq_true (by omega)];rfl
 obtain⟨Y',l1,ts,c5,c6,c7,c8,rfl,q1,q2,q3⟩:=xW (h:=u5 5) (g:=JK) (λpre Y=>∃(ts:List f8) (c5 c6 c7 c8:Option Cell),Y=[sC (.int c),sC (.int most),sC (.int ties),sC (.int n),some (.ow (ts.map j0)),c5,c6,c7,c8]/\(∀t∈ts,0<=t.1/\t.1<t.2/\t.2<n)/\ts.Nodup/\ts.length<=pre.length)
  (ds:=Q5 0 (nU c 9967 (ties+1)).toNat) (Y:=[sC (.int c),sC (.int most),sC (.int ties),sC (.int n),some (.ow []),none,none,none,none]) ⟨[],none,none,none,none,rfl,λt h=>absurd h (by simp),Dm,Ak _⟩ (λpre d post Y he hI=>by
   obtain⟨ts,c5,c6,c7,c8,rfl,q1,q2,q3⟩:=hI;obtain⟨k,hk,rfl⟩:=WP (show d∈Q5 0 _ by rw[<-he];simp)
   have ab:=congrArg Fz he;rw[qB,Af]at ab;obtain⟨gQ,bZ,cu,fr,w1,w2,w3,w4⟩:=Zd (c:=.non) (cc:=c) (m:=.int most) (t:=.int ties) (k:=(k:Int)) (c6:=c6) (c7:=c7) (c8:=c8) (show 0<n by omega) q1 q2 (by omega);refine⟨_,_,rfl,.inl w1,gQ,_,bZ,cu,fr,rfl,w2,w3,?_⟩;rw[Af]
   exact B3 w4 (Nat.succ_le_succ q3))
 have hJ:(ts.length:Int)<=ties:=by rw[qB]at q3;omega
 refine⟨n,qJ ts,?_,⟨hn1,by omega,RA ts q2,λt ht=>q1 t ((AA ts).mem_iff.mp ht)⟩,hn2,by rw[(AA ts).length_eq];exact hJ⟩
 refine mG (x:=Ow [sC (.int c),sC (.int most),sC (.int ties),none,none,none,none,none,none]) ?_;refine(e1 _).trans (v5 (vK (ds:=[]) (tU (ds:=[]) rfl (by decide))) ?_);refine v5 ((mJ (ds:=Q5 0 (nU c 9967 (ties+1)).toNat) ?_).trans l1) ?_
 .exact vJ ((x6 (ds:=[.int c,.int 9967,.int (ties+1)]) rfl).trans (AD c (by decide) (by omega))) hok
 .refine j7 (pM (ds:=[.int n,.tup ((qJ ts).map j0)]) (u3 rfl (u3 (xM ((MK (ds:=ts.map j0) rfl).trans (Pi (by omega)))) rfl)) (show 2<=f9 by decide))
def O4(lo:Int)(m:Nat):Q5 lo (m+1) = .int lo::Q5 (lo+1) m:=by
 unfold Q5;rw[G7,Aj,B8];congr 1
 .simp
 .refine B6 λk _=>?_;simp only[Kl];congr 1;omega
def BA{n j:Nat}(h:j<n):pD n (j:Int)=some j:=by unfold pD;rw[if_pos (by omega),if_pos (by omega),Ai]
theorem OG{α β:Type}(f:α->β):∀(l:List α) (j:Nat),(l.map f).eraseIdx j=(l.eraseIdx j).map f
 | [],_=>rfl
 |_::_,0=>rfl
 |a::l,j+1=>by show f a::(l.map f).eraseIdx j=f a::(l.eraseIdx j).map f;rw[OG f l j]
theorem erase_perm{α:Type}:∀(l:List α) (j:Nat) (h:j<l.length),(l[j]::l.eraseIdx j).Perm l
 |a::l,0,_=>Gu _
 |a::l,j+1,h=>by
  have ih:=erase_perm l j (by simpa using h)
  have hj:j<l.length:=by simpa using h
  show (l[j]::a::l.eraseIdx j).Perm (a::l);exact(Ln _ _ _).trans (ih.cons a)
def AR:J5->Option (D×J5):=zA 1 (x8 Z9 (z9 (d2 jN (z7 2) (d2 oK (dI 5) (z7 0))) (z9 (dI 9931) (z9 (d2 wG (z7 3) (z7 0)) i3))))
def XA{n k:Nat}{ls:List Int}(hl:ls.length+k=n)(hk:k<n)(hn:n<=1000):
  ∃(j:Nat) (h:j<ls.length),AR [sC (.int (k:Int)),some (.ow (ls.map D.int)),sC (.int c),sC (.int (n:Int))]=some (.int ls[j],[sC (.int (k:Int)),some (.ow ((ls.eraseIdx j).map D.int)),sC (.int c),sC (.int (n:Int))]):=by
 have hm:(0:Int)<(n:Int)-(k:Int):=by omega
 have a1:=AO (c+5*(k:Int)) 9931 hm;have a2:=AN (c+5*(k:Int)) 9931 hm;obtain⟨j,hj⟩:=Cb a1
 have cy:j<ls.length:=by omega
 refine⟨j,cy,?_⟩
 have ef:x8 Z9 (z9 (d2 jN (z7 2) (d2 oK (dI 5) (z7 0))) (z9 (dI 9931) (z9 (d2 wG (z7 3) (z7 0)) i3))) [sC (.int (k:Int)),some (.ow (ls.map D.int)),sC (.int c),sC (.int (n:Int))]=some (.int (j:Int)):=by refine(x6 (ds:=[.int (c+5*(k:Int)),.int 9931,.int ((n:Int)-(k:Int))]) (u3 ((jI (x:=.int c) (y:=.int (5*(k:Int))) rfl ((jI (x:=.int 5) (y:=.int (k:Int)) rfl rfl).trans (Qn _ (by decide)))).trans rfl) rfl)).trans ?_;rw[AD _ (by decide) hm,hj]
 have eo:kU 1 [sC (.int (k:Int)),some (.ow (ls.map D.int)),sC (.int c),sC (.int (n:Int))]=some (ls.map D.int):=rfl;unfold AR zA;rw[eo,ef];dsimp only;rw[A0,BA cy];dsimp only;rw[As,A3 cy];dsimp only[Option.map_some];rw[if_pos (by unfold f9;omega),OG]
 rfl
theorem Ts{n:Nat}(hn:n<=1000):∀(m k:Nat) (ls:List Int) (c0:Option Cell),ls.length=m->m+k=n ->
  ∃r:List Int,sG (u5 0) AR [c0,some (.ow (ls.map D.int)),sC (.int c),sC (.int (n:Int))] (Q5 (k:Int) m)=some (r.map D.int)/\r.Perm ls
 | 0,k,ls,c0,hl,hk=>by
  have:ls=[]:=Ea hl
  subst this;exact⟨[],rfl,Gu _⟩
 |m+1,k,ls,c0,hl,hk=>by
  obtain⟨j,hj,e⟩:=XA (c:=c) (n:=n) (k:=k) (ls:=ls) (by omega) (by omega) hn;obtain⟨r,e2,hp⟩:=Ts hn m (k+1) (ls.eraseIdx j) (sC (.int (k:Int))) (by rw[List.length_eraseIdx,if_pos hj];omega) (by omega)
  refine⟨ls[j]::r,?_,(hp.cons _).trans (erase_perm ls j hj)⟩;rw[O4];unfold sG
  show (match AR [sC (.int (k:Int)),some (.ow (ls.map D.int)),sC (.int c),sC (.int (n:Int))] with
   |some (y,Y2)=>(match sG (u5 0) AR Y2 (Q5 ((k:Int)+1) m) with|some ys=>some (y::ys)|none=>none)
   |none=>none)=_
  rw[e];dsimp only
  have ek:((k:Int)+1)=((k+1:Nat):Int):=by omega
  rw[ek,e2];rfl
def U3(c:Int){n:Int}(h0:0<=n)(h1:n<=1000):∃r:List Int,CL [.int c,.int n]=some (.tup (r.map D.int))/\r.Perm (lR 0 n.toNat):=by
 obtain⟨m,rfl⟩:=Cb h0
 have ab:(lR 0 m).length=m:=by unfold lR;rw[A0,An]
 obtain⟨r,e,hp⟩:=Ts (c:=c) (n:=m) (by omega) m 0 (lR 0 m) none ab (by omega);have e0:((0:Nat):Int)=0:=rfl;rw[e0]at e;refine⟨r,?_,by rw[Ai];exact hp⟩
 refine mG (x:=Ov [sC (.int c),sC (.int (m:Int)),none]) ?_
 have el:oX (z7 1) [sC (.int c),sC (.int (m:Int)),none]=some ((lR 0 m).map D.int):=by rw[GX (j:=(m:Int)) rfl (by omega) (by omega),Ai]
 refine v5 (vK (ds:=(lR 0 m).map D.int) el) ?_
 have er:lO (z7 1) [sC (.int c),sC (.int (m:Int)),some (.ow ((lR 0 m).map D.int))]=some (Q5 0 m):=by rw[vJ (j:=(m:Int)) rfl (by unfold mW;rw[decide_eq_true (by omega),decide_eq_true (by omega)];rfl),Ai]
 exact j7 (xM ((Ë er (by rw[qB];unfold f9;omega)).trans e))
def Wl(n:Nat):(lR 0 n).length=n:=by unfold lR;simp
def jY(r:List Int)(p:Int):Int:=(r.idxOf p:Nat)
def W8(r:List Int):List f7:=r.map Bv
def YU(r:List Int)(p:Int):W8 (r++[p])=W8 r++[Bv p]:=by unfold W8;rw[B9];rfl
def YV:(Bv p:f7)∈W8 r↔p∈r:=by
 unfold W8;constructor
 .intro h;obtain⟨q,hq,e⟩:=Ah.mp h;cases e;exact hq
 .exact λh=>Bq h
def Vh{r:List Int}(h:r.Nodup):(W8 r).Nodup:=by unfold W8;exact Br.mpr (h.imp λ{a b} cN z=>cN (Fy z))
theorem EW:∀(ks:List f7) (vs:List D) (j:f7) (d:D),ks.length=vs.length->j∉ks->lJ ks vs j d=(ks++[j],vs++[d])
 | [],[],_,_,_,_=>rfl
 | [],_::_,_,_,h,_=>by cases h
 |_::_,[],_,_,h,_=>by cases h
 |k::ks,v::vs,j,d,hl,hn=>by have ak:k≠j:=λz=>hn (z▸A6);unfold lJ;rw[if_neg ak,EW ks vs j d (by simpa using hl) λz=>hn (A7 _ z)];rfl
def Yq(n:Nat):Q5 0 (n+1)=Q5 0 n++[.int (n:Int)]:=by unfold Q5;rw[Lg,B9];simp
theorem Pc:∀(r:List Int) (k:Nat) (p:Int),p∈r->kK (W8 r) (Q5 (k:Int) r.length) (Bv p)=some (.int ((k+r.idxOf p:Nat):Int))
 | [],_,_,h=>by cases h
 |q::r,k,p,h=>by
  have e:Q5 (k:Int) (q::r).length = .int (k:Int)::Q5 ((k+1:Nat):Int) r.length:=by rw[Av,O4];rfl
  rw[e];show (if (Bv q:f7)=Bv p then some (D.int (k:Int)) else kK (W8 r) (Q5 ((k+1:Nat):Int) r.length) (Bv p))=_;by_cases hq:q=p
  .subst hq;rw[if_pos rfl,Jc];rfl
  .have hp:p∈r:=by
    rcases Ad.mp h with z|z
    .exact absurd z.symm hq
    .exact z
   have hi:(q::r).idxOf p=r.idxOf p+1:=by rw[List.idxOf_cons,beq_false_of_ne hq];rfl
   rw[if_neg λz=>hq (Fy z),Pc r (k+1) p hp,hi];congr 2;omega
def Rg{r:List Int}{p:Int}(h:p∈r):kK (W8 r) (Q5 0 r.length) (Bv p)=some (.int (jY r p)):=by
 have:=Pc r 0 p h
 rw[L8]at this;exact this
theorem P3:∀(r done:List Int) (c3 c4:Option Cell),(done++r).Nodup->(done++r).length<=1000 ->
  ∃fm bJ,kH (qE 2 (mH (u5 2) (mH (u5 3) (qD)))) (nK 1 (z7 3) (z7 2)) (lS done.length (r.map D.int)) [sC rw',some (.od (W8 done) (Q5 0 done.length)),c3,c4] =
   some (.nx [sC rw',some (.od (W8 (done++r)) (Q5 0 (done++r).length)),fm,bJ])
 | [],done,c3,c4,_,_=>⟨c3,c4,by rw[Ci];rfl⟩
 |p::r,done,c3,c4,hn,hl=>by
  have bj:((done++[p])++r).Nodup:=by rw[Co];exact hn
  have cq:((done++[p])++r).length<=1000:=by rw[Co];exact hl
  obtain⟨fm,bJ,ih⟩:=P3 r (done++[p]) (sC (.int (done.length:Int))) (sC (.int p)) bj cq;refine⟨fm,bJ,?_⟩
  have hp:p∉done:=λz=>by
   have:=(C5.mp hn).2.2
   exact this p z p A6 rfl
  have hd:done.Nodup:=(C5.mp hn).1
  have ab:done.length<1000:=by rw[Af,Av]at hl;omega
  have step:nK 1 (z7 3) (z7 2) [sC rw',some (.od (W8 done) (Q5 0 done.length)),sC (.int (done.length:Int)),sC (.int p)] =
    some (.nx [sC rw',some (.od (W8 (done++[p])) (Q5 0 (done++[p]).length)),sC (.int (done.length:Int)),sC (.int p)]):=by
   show (if (W8 done).Nodup/\(W8 done).length<f9 then some (Out.nx [sC rw',some (.od (lJ (W8 done) (Q5 0 done.length) (Bv p) (.int (done.length:Int))).1 (lJ (W8 done) (Q5 0 done.length) (Bv p) (.int (done.length:Int))).2),sC (.int (done.length:Int)),sC (.int p)]) else none)=_;rw[if_pos ⟨Vh hd,by unfold W8;rw[A0];unfold f9;omega⟩,EW _ _ _ _ (by unfold W8;rw[A0,qB]) (λz=>hp (YV.mp z)),<-YU,Af,Ay,Yq]
  rw[Aj];show kH _ _ (.tup [.int (done.length:Int),.int p]::lS (done.length+1) (r.map D.int)) _=_;unfold kH
  show (match nK 1 (z7 3) (z7 2) [sC rw',some (.od (W8 done) (Q5 0 done.length)),sC (.int (done.length:Int)),sC (.int p)] with
   |some (.nx Y2)=>kH _ _ (lS (done.length+1) (r.map D.int)) Y2
   |some (.ct Y2)=>kH _ _ (lS (done.length+1) (r.map D.int)) Y2
   |some (.bk Y2)=>some (.nx Y2)
   |some (.rt v)=>some (.rt v)
   |none=>none)=_
  rw[step];dsimp only;rw[Af,Ay]at ih ⊢;rw[ih,Co];rfl
def Vo{r:List Int}(hn:r.Nodup)(hr:r.length<=1000):GV [.tup (r.map D.int)]=some (.dct (W8 r) (Q5 0 r.length)):=by
 show lA (HA [sC (.tup (r.map D.int)),none,none,none])=_;obtain⟨c3,c4,hl⟩:=P3 (rw':=.tup (r.map D.int)) r [] none none (by simpa using hn) (by simpa using hr)
 have fin:HA [sC (.tup (r.map D.int)),none,none,none]=some (.rt (.dct (W8 r) (Q5 0 r.length))):=by refine v5 rfl ?_;refine v5 ((mJ (ds:=lS 0 (r.map D.int)) rfl).trans hl) ?_;rfl
 rw[fin];rfl
def kL(r:List Int)(t:f8):f8:=(Ew (jY r t.1) (jY r t.2),Lh (jY r t.1) (jY r t.2))
def NX(a b:Int):DO [.int a,.int b]=some (.tup [.int (Ew a b),.int (Lh a b)]):=by
 refine mG (x:=NG [sC (.int a),sC (.int b)]) ?_;refine j7 (pM (ds:=[.int (Ew a b),.int (Lh a b)]) (u3 ?_ (u3 ?_ rfl)) (show 2<=f9 by decide))
 .exact FQ a b
 .exact SW a b
def U5{r:List Int}{t:f8}(h1:t.1∈r)(h2:t.2∈r):KJ [.dct (W8 r) (Q5 0 r.length),j0 t]=some (j0 (kL r t)):=by
 show lA (KQ [sC (.dct (W8 r) (Q5 0 r.length)),sC (j0 t)])=_;have e1:m8 (z7 0) (jC 1 0) [sC (.dct (W8 r) (Q5 0 r.length)),sC (j0 t)]=some (.int (jY r t.1)):=Rg h1;have e2:m8 (z7 0) (jC 1 1) [sC (.dct (W8 r) (Q5 0 r.length)),sC (j0 t)]=some (.int (jY r t.2)):=Rg h2
 have fin:KQ [sC (.dct (W8 r) (Q5 0 r.length)),sC (j0 t)]=some (.rt (j0 (kL r t))):=by refine j7 ?_;exact(x6 (ds:=[.int (jY r t.1),.int (jY r t.2)]) (u3 e1 (u3 e2 rfl))).trans (NX _ _)
 rw[fin];rfl
def HX{ts:List f8}{r:List Int}(hn:r.Nodup)(hr:r.length<=1000)(ht:ts.length<=1000)(hm:∀t∈ts,t.1∈r/\t.2∈r):
  zV [Y9 n ts,.tup (r.map D.int)]=some (.lst (ts.map λt=>j0 (kL r t))):=by
 refine mG (x:=O8 [sC (Y9 n ts),sC (.tup (r.map D.int)),none]) ?_;refine v5 (J4 (d:=.dct (W8 r) (Q5 0 r.length)) ((x6 (ds:=[.tup (r.map D.int)]) rfl).trans (Vo hn hr))) ?_;show jB (kX (Y2 _ _ _ _ _)) [sC (Y9 n ts),sC (.tup (r.map D.int)),sC (.dct (W8 r) (Q5 0 r.length))]=_;refine j7 (mR ?_);refine(mT (ds:=ts.map j0) rfl (by rw[A0];unfold f9;omega)).trans ?_
 refine(uN (λY=>∃c,Y=[c,sC (.dct (W8 r) (Q5 0 r.length))]) (λd=>match d with|.tup [.int a,.int b]=>j0 (kL r (a,b))|_=>.non) _ _ ⟨none,rfl⟩ ?_).trans ?_
 .rintro d hd Y ⟨c,rfl⟩;obtain⟨t,ht',rfl⟩:=Ah.mp hd;refine⟨_,rfl,⟨_,rfl⟩,?_⟩;exact(x6 (ds:=[.dct (W8 r) (Q5 0 r.length),j0 t]) rfl).trans (U5 (hm t ht').1 (hm t ht').2)
 .rw[B8];rfl
def lT(s t:f8):Bg:=if s.1=t.1\/s.1=t.2\/s.2=t.1\/s.2=t.2 then "meet" else
 if (if jO t s then t else s).2<(if jO s t then t else s).1 then "apart" else if (if jO t s then t else s).2<(if jO s t then t else s).2 then "cross" else "within"
def GO(a c d:Int):nM (.int a) [.int c,.int d]=(decide (a=c)||decide (a=d)):=by
 show ((c==a)||((d==a)||false))=_;rw[M2];congr 1
 .rw[show (c==a)=decide (c=a) from rfl];exact decide_eq_decide.mpr eq_comm
 .rw[show (d==a)=decide (d=a) from rfl];exact decide_eq_decide.mpr eq_comm
def WT(s t:f8):MO [j0 s,j0 t]=some (j0 (if jO t s then t else s)):=by
 show some (if HT.lexLt [t.1,t.2] [s.1,s.2]=true then j0 t else j0 s)=_;rw[sJ];by_cases h:jO t s
 .rw[if_pos h,if_pos (decide_eq_true h)]
 .rw[if_neg h,if_neg (by rw[decide_eq_false h];decide)]
def WS(s t:f8):ML [j0 s,j0 t]=some (j0 (if jO s t then t else s)):=by
 show some (if HT.lexLt [s.1,s.2] [t.1,t.2]=true then j0 t else j0 s)=_;rw[sJ];by_cases h:jO s t
 .rw[if_pos h,if_pos (decide_eq_true h)]
 .rw[if_neg h,if_neg (by rw[decide_eq_false h];decide)]
def Â(s t:f8):IH [j0 s,j0 t]=some (.str (lT s t)):=by
 show lA (II [sC (j0 s),sC (j0 t),none,none])=_
 have e1:lM (y9 (jS false (jC 0 0) (d8 (z7 1)))) (y9 (jS false (jC 0 1) (d8 (z7 1)))) [sC (j0 s),sC (j0 t),none,none] =
   some ((decide (s.1=t.1)||decide (s.1=t.2))||(decide (s.2=t.1)||decide (s.2=t.2))):=by
  refine Z0 (v7 ((wH (d:=.int s.1) (ds:=[.int t.1,.int t.2]) rfl rfl (by simp[Z8,depth,jK]) (by simp[depth,jK])).trans ?_)) λ_=>v7 ((wH (d:=.int s.2) (ds:=[.int t.1,.int t.2]) rfl rfl (by simp[Z8,depth,jK]) (by simp[depth,jK])).trans ?_)
  .rw[GO];rfl
  .rw[GO];rfl
 have fin:II [sC (j0 s),sC (j0 t),none,none]=some (.rt (.str (lT s t))):=by
  unfold lT;by_cases hm:s.1=t.1\/s.1=t.2\/s.2=t.1\/s.2=t.2
  .rw[if_pos hm];refine mL ?_;rw[K9 e1]
   have:((decide (s.1=t.1)||decide (s.1=t.2))||(decide (s.2=t.1)||decide (s.2=t.2)))=true:=by simp only[Hq,decide_eq_true_eq];omega
   rw[this];rfl
  .rw[if_neg hm];refine v5 (Y':=[sC (j0 s),sC (j0 t),none,none]) ?_ ?_
   .rw[K9 e1]
    have:((decide (s.1=t.1)||decide (s.1=t.2))||(decide (s.2=t.1)||decide (s.2=t.2)))=false:=by simp only[Bool.or_eq_false_iff,decide_eq_false_iff_not];omega
    rw[this];rfl
   .generalize hf:(if jO t s then t else s)=f;generalize hg:(if jO s t then t else s)=g;refine v5 (J4 (d:=j0 f) ((x6 (ds:=[j0 s,j0 t]) rfl).trans (by rw[WT,hf]))) ?_;refine v5 (J4 (d:=j0 g) ((x6 (ds:=[j0 s,j0 t]) rfl).trans (by rw[WS,hg]))) ?_;have e2:y9 (d2 pE (jC 2 1) (jC 3 0)) [sC (j0 s),sC (j0 t),sC (j0 f),sC (j0 g)]=some (decide (f.2<g.1)):=rfl;have e3:y9 (d2 pE (jC 2 1) (jC 3 1)) [sC (j0 s),sC (j0 t),sC (j0 f),sC (j0 g)]=some (decide (f.2<g.2)):=rfl
    by_cases h1:f.2<g.1
    .rw[if_pos h1];refine mL ((K9 e2).trans ?_);rw[decide_eq_true h1];rfl
    .rw[if_neg h1];refine v5 (Y':=[sC (j0 s),sC (j0 t),sC (j0 f),sC (j0 g)]) ((K9 e2).trans ?_) ?_
     .rw[decide_eq_false h1];rfl
     .refine j7 ((Ϟ e3).trans ?_);by_cases h2:f.2<g.2
      .rw[if_pos h2,decide_eq_true h2];rfl
      .rw[if_neg h2,decide_eq_false h2];rfl
 rw[fin];rfl
def kO(a b c:Int):Bool:=decide (Ew a b<c)&&decide (c<Lh a b)
def wQ(a b c d:Int):Bg:=if a=c\/a=d\/b=c\/b=d then "meet" else
 if (kO a b c&&!kO a b d)||(!kO a b c&&kO a b d) then "cross" else if (kO a b c&&kO a b d)||(decide (Ew c d<Ew a b)&&decide (Ew a b<Lh c d)) then "within" else "apart"
def MC(s t:f8):Nat:=if s.1=t.1\/s.1=t.2\/s.2=t.1\/s.2=t.2 then 0 else
 if (if jO t s then t else s).2<(if jO s t then t else s).1 then 1 else if (if jO t s then t else s).2<(if jO s t then t else s).2 then 2 else 3
def Nd(a b c d:Int):Nat:=if a=c\/a=d\/b=c\/b=d then 0 else
 if (kO a b c&&!kO a b d)||(!kO a b c&&kO a b d) then 2 else if (kO a b c&&kO a b d)||(decide (Ew c d<Ew a b)&&decide (Ew a b<Lh c d)) then 3 else 1
def uO:Nat->Bg
 | 0=>"meet"
 | 1=>"apart"
 | 2=>"cross"
 |_=>"within"
def Õ(s t:f8):lT s t=uO (MC s t):=by unfold MC;rw[apply_ite uO,apply_ite uO,apply_ite uO];rfl
def Ò(a b c d:Int):wQ a b c d=uO (Nd a b c d):=by unfold Nd;rw[apply_ite uO,apply_ite uO,apply_ite uO];rfl
def ŏ:∀a b c d:Fin 6,a≠b->c≠d->MC (Ew (a.val:Int) b.val,Lh (a.val:Int) b.val) (Ew (c.val:Int) d.val,Lh (c.val:Int) d.val)=Nd a.val b.val c.val d.val:=by decide +kernel
def Ő{a b c d:Int}(h1:a≠b)(h2:c≠d)(ha:0<=a/\a<6)(hb:0<=b/\b<6)(hc:0<=c/\c<6)(hd:0<=d/\d<6):lT (Ew a b,Lh a b) (Ew c d,Lh c d)=wQ a b c d:=by
 obtain⟨a,rfl⟩:=Cb ha.1;obtain⟨b,rfl⟩:=Cb hb.1;obtain⟨c,rfl⟩:=Cb hc.1;obtain⟨d,rfl⟩:=Cb hd.1;rw[Õ,Ò]
 have:=ŏ ⟨a,by omega⟩ ⟨b,by omega⟩ ⟨c,by omega⟩ ⟨d,by omega⟩ (λz=>h1 (by rw[Fin.mk.injEq]at z;rw[z])) (λz=>h2 (by rw[Fin.mk.injEq]at z;rw[z]))
 rw[this]
theorem P8:∀(r:List Int) (p:Int),p∈r->zB (.int p) (r.map D.int)=some (r.idxOf p)
 | [],_,h=>by cases h
 |q::r,p,h=>by
  unfold zB;rw[Aj,List.findIdx?_cons];show (if (q==p)=true then some 0 else ((r.map D.int).findIdx? λy=>kC y (.int p)).map (·+1))=_;by_cases hq:q=p
  .subst hq;rw[if_pos (by simp),Jc]
  .have hp:p∈r:=by
    rcases Ad.mp h with z|z
    .exact absurd z.symm hq
    .exact z
   have ih:=P8 r p hp;unfold zB at ih
   have hi:(q::r).idxOf p=r.idxOf p+1:=by rw[List.idxOf_cons,beq_false_of_ne hq];rfl
   rw[if_neg (by simpa using hq),ih,hi];rfl
theorem Pv:∀r:List Int,Z8 (r.map D.int)=0
 | []=>by rw[G6,Z8]
 |p::r=>by
  have e:depth (.int p)=0:=by simp[depth]
  rw[Aj,Z8,Pv r,e];rfl
def QX{r:List Int}{p:Int}{fa fb:ED}(h:p∈r)(ha:fa Y=some (.tup (r.map D.int)))(hb:fb Y=some (.int p)):wO fa fb Y=some (.int (jY r p)):=by
 unfold wO;rw[ha,hb];dsimp only;rw[if_pos ⟨by rw[Pv];decide,by simp[depth,jK]⟩,P8 r p h]
 rfl
def PR{ts:List f8}{i:Nat}{s:f8}(h:ts[i]?=some s):lU (ts.map j0) (i:Int)=some (j0 s):=by have ah:i<ts.length:=(Ax.mp h).1;unfold lU;rw[A0,BA ah];show (ts.map j0)[i]?=_;rw[As,h];rfl
def Pk{r:List Int}{s:f8}{fi:EL}(h0:fi Y=some [.int s.1,.int s.2])(hc:mE [none,some 1] Y=[none,sC (.tup (r.map D.int))])(h1:s.1∈r)(h2:s.2∈r):
  Y2 [none,some 1] fi (u5 0) mQ (wO (z7 1) (z7 0)) Y=some [.int (jY r s.1),.int (jY r s.2)]:=by
 refine(mT h0 (show 2<=f9 by decide)).trans ?_;rw[hc];refine(uN (λY=>∃c,Y=[c,sC (.tup (r.map D.int))]) (λd=>match d with|.int p=>.int (jY r p)|_=>.non) _ _ ⟨none,rfl⟩ ?_).trans rfl;rintro d hd Y ⟨c,rfl⟩;refine⟨_,rfl,⟨_,rfl⟩,?_⟩;rcases Ad.mp hd with rfl|hd
 .exact QX h1 rfl rfl
 .obtain rfl:=Ae.mp hd
  exact QX h2 rfl rfl
def ϟ(p:D->Bool)(x y:D):[x,y].filter p=if p x=true then (if p y=true then [x,y] else [x]) else (if p y=true then [y] else []):=by
 rw[Iw,Iw,List.filter_nil];by_cases h:p x=true
 .rw[if_pos h,if_pos h];by_cases h':p y=true
  .rw[if_pos h',if_pos h']
  .rw[if_neg h',if_neg h']
 .rw[if_neg h,if_neg h]
def Yz{ts:List f8}{r:List Int}{i j:Nat}{s t:f8}(hi:ts[i]?=some s)(hj:ts[j]?=some t)(hs:s.1∈r/\s.2∈r)(ht:t.1∈r/\t.2∈r):
  zQ [Y9 n ts,.tup (r.map D.int),.int (i:Int),.int (j:Int)]=some (.str (wQ (jY r s.1) (jY r s.2) (jY r t.1) (jY r t.2))):=by
 show lA (KP [sC (Y9 n ts),sC (.tup (r.map D.int)),sC (.int (i:Int)),sC (.int (j:Int)),none,none,none])=_;generalize ea:jY r s.1=a;generalize eb:jY r s.2=b;generalize ec:jY r t.1=c;generalize ed:jY r t.2=d;have c1:=λY h0 hc=>Pk (r:=r) (s:=s) (fi:=d8 (jH (d8 (jC 0 1)) (z7 2))) (Y:=Y) h0 hc hs.1 hs.2;have c2:=λY h0 hc=>Pk (r:=r) (s:=t) (fi:=d8 (jH (d8 (jC 0 1)) (z7 3))) (Y:=Y) h0 hc ht.1 ht.2
 rw[ea,eb]at c1;rw[ec,ed]at c2
 let W:D:=Y9 n ts
 let R:D:=.tup (r.map D.int)
 have fin:KP [sC W,sC R,sC (.int (i:Int)),sC (.int (j:Int)),none,none,none]=some (.rt (.str (wQ a b c d))):=by
  refine v5 (J4 (d:=.lst [.int a,.int b]) (mR (c1 _ (sA (ds:=[.int s.1,.int s.2]) ((lY (ds:=ts.map j0) rfl rfl).trans (PR hi))) rfl))) ?_;refine v5 (J4 (d:=.lst [.int c,.int d]) (mR (c2 _ (sA (ds:=[.int t.1,.int t.2]) ((lY (ds:=ts.map j0) rfl rfl).trans (PR hj))) rfl))) ?_
  have e3:yQ (Y2 [none,some 5] (d8 (z7 4)) (u5 0) (y9 (jS false (z7 0) (d8 (z7 1)))) (z7 0)) [sC W,sC R,sC (.int (i:Int)),sC (.int (j:Int)),sC (.lst [.int a,.int b]),sC (.lst [.int c,.int d]),none] =
    some ((decide (a=c)||decide (a=d))||(decide (b=c)||decide (b=d))):=by
   have:Y2 [none,some 5] (d8 (z7 4)) (u5 0) (y9 (jS false (z7 0) (d8 (z7 1)))) (z7 0) [sC W,sC R,sC (.int (i:Int)),sC (.int (j:Int)),sC (.lst [.int a,.int b]),sC (.lst [.int c,.int d]),none] =
     some (([.int a,.int b].filter λx=>nM x [.int c,.int d]).map id):=by
    refine(mT (ds:=[.int a,.int b]) rfl (show 2<=f9 by decide)).trans ?_;refine K8 (λY=>∃c0,Y=[c0,sC (.lst [.int c,.int d])]) (λx=>nM x [.int c,.int d]) id _ _ ⟨none,rfl⟩ ?_;rintro x hx Y ⟨c0,rfl⟩;refine⟨_,rfl,⟨_,rfl⟩,v7 ((wH (d:=x) (ds:=[.int c,.int d]) rfl rfl (by simp[Z8,depth,jK]) ?_).trans rfl),λ_=>rfl⟩;rcases Ad.mp hx with rfl|hx
    .simp[depth,jK]
    .obtain rfl:=Ae.mp hx;simp[depth,jK]
   unfold yQ;rw[this];dsimp only;rw[Ib,Iw,Iw,List.filter_nil,GO,GO];cases (decide (a=c)||decide (a=d))<;>cases (decide (b=c)||decide (b=d))<;>rfl
  unfold wQ;by_cases hm:a=c\/a=d\/b=c\/b=d
  .rw[if_pos hm];refine mL ((K9 e3).trans ?_)
   have:((decide (a=c)||decide (a=d))||(decide (b=c)||decide (b=d)))=true:=by simp only[Hq,decide_eq_true_eq];omega
   rw[this];rfl
  .rw[if_neg hm];refine v5 (Y':=[sC W,sC R,sC (.int (i:Int)),sC (.int (j:Int)),sC (.lst [.int a,.int b]),sC (.lst [.int c,.int d]),none]) ((K9 e3).trans ?_) ?_
   .have:((decide (a=c)||decide (a=d))||(decide (b=c)||decide (b=d)))=false:=by simp only[Bool.or_eq_false_iff,decide_eq_false_iff_not];omega
    rw[this];rfl
   .have e4:Y2 [none,some 4] (d8 (z7 5)) (u5 0) (y9 (nP nS nS (pH (mI (z7 1))) (z7 0) (wE (mI (z7 1))))) (z7 0) [sC W,sC R,sC (.int (i:Int)),sC (.int (j:Int)),sC (.lst [.int a,.int b]),sC (.lst [.int c,.int d]),none] =
      some (([.int c,.int d].filter λx=>match x with|.int y=>kO a b y|_=>false).map id):=by
     refine(mT (ds:=[.int c,.int d]) rfl (show 2<=f9 by decide)).trans ?_;refine K8 (λY=>∃c0,Y=[c0,sC (.lst [.int a,.int b])]) (λx=>match x with|.int y=>kO a b y|_=>false) id _ _ ⟨none,rfl⟩ ?_;rintro x hx Y ⟨c0,rfl⟩
     have aE:∀y:Int,y9 (nP nS nS (pH (mI (z7 1))) (z7 0) (wE (mI (z7 1)))) [sC (.int y),sC (.lst [.int a,.int b])]=some (kO a b y):=λy=>v7 (ES (x:=.int (Ew a b)) (y:=.int y) (z:=.int (Lh a b)) rfl rfl rfl (λ_=>rfl) λ_=>rfl)
     refine⟨_,rfl,⟨_,rfl⟩,?_,λ_=>rfl⟩;rcases Ad.mp hx with rfl|hx
     .exact aE c
     .obtain rfl:=Ae.mp hx;exact aE d
    rw[Ib]at e4;generalize el:([.int c,.int d].filter λx=>match x with|.int y=>kO a b y|_=>false:List D)=L at e4
    have eL:L=(if kO a b c=true then (if kO a b d=true then [.int c,.int d] else [.int c]) else (if kO a b d=true then [.int d] else [])):=by rw[<-el,ϟ]
    refine v5 (J4 (mR e4)) ?_;have e5:∀k:Int,y9 (d2 kM (jP (d8 (z7 6))) (dC (.int k))) [sC W,sC R,sC (.int (i:Int)),sC (.int (j:Int)),sC (.lst [.int a,.int b]),sC (.lst [.int c,.int d]),sC (.lst L)]=some ((L.length:Int)==k):=λk=>rfl
    have e6:y9 (nP nS nS (pH (mI (z7 5))) (pH (mI (z7 4))) (wE (mI (z7 5)))) [sC W,sC R,sC (.int (i:Int)),sC (.int (j:Int)),sC (.lst [.int a,.int b]),sC (.lst [.int c,.int d]),sC (.lst L)]=some (decide (Ew c d<Ew a b)&&decide (Ew a b<Lh c d)):=v7 (ES (x:=.int (Ew c d)) (y:=.int (Ew a b)) (z:=.int (Lh c d)) rfl rfl rfl (λ_=>rfl) λ_=>rfl)
    have k1:((L.length:Int)==1)=((kO a b c&&!kO a b d)||(!kO a b c&&kO a b d)):=by rw[eL];cases kO a b c<;>cases kO a b d<;>rfl
    have k2:((L.length:Int)==2)=(kO a b c&&kO a b d):=by rw[eL];cases kO a b c<;>cases kO a b d<;>rfl
    have iH:=e5 1;have e52:=e5 2;rw[k1]at iH;rw[k2]at e52
    cases h1:((kO a b c&&!kO a b d)||(!kO a b c&&kO a b d)) with
    |true=>
     rw[h1]at iH;rw[if_pos rfl];exact mL (K9 iH)
    |false=>
     rw[h1]at iH;rw[if_neg B0];refine v5 (K9 iH) ?_;have e7:=Z0 e52 (λ_=>e6)
     cases h2:((kO a b c&&kO a b d)||(decide (Ew c d<Ew a b)&&decide (Ew a b<Lh c d))) with
     |true=>rw[h2]at e7;rw[if_pos rfl];exact mL (K9 e7)
     |false=>rw[h2]at e7;rw[if_neg B0];exact v5 (K9 e7) rfl
 rw[fin];rfl
def uF(h:jO s t)(h':jO t s):False:=rB s (OS h h')
theorem Pl:∀{xs ys:List f8},xs.Pairwise jO->ys.Pairwise jO->(∀t,t∈xs↔t∈ys)->xs=ys
 | [],[],_,_,_=>rfl
 | [],y::ys,_,_,h=>absurd ((h y).mpr A6) (by simp)
 |x::xs,[],_,_,h=>absurd ((h x).mp A6) (by simp)
 |x::xs,y::ys,hx,hy,h=>by
  rw[D5]at hx hy
  have e:x=y:=by
   rcases Ad.mp ((h x).mp A6) with z|z
   .exact z
   .rcases Ad.mp ((h y).mpr A6) with q|q
    .exact q.symm
    .exact absurd (hx.1 y q) λw=>uF w (hy.1 x z)
  subst e;congr 1;refine Pl hx.2 hy.2 λt=>?_;constructor
  .intro ht;rcases Ad.mp ((h t).mp (A7 _ ht)) with z|z
   .subst z;exact absurd (hx.1 _ ht) (rB _)
   .exact z
  .intro ht;rcases Ad.mp ((h t).mpr (A7 _ ht)) with z|z
   .subst z;exact absurd (hy.1 _ ht) (rB _)
   .exact z
theorem OJ{α:Type}[DecidableEq α]:∀(xs ys:List α),xs.Nodup->(∀x∈xs,x∈ys)->xs.length<=ys.length
 | [],_,_,_=>Bh _
 |x::xs,ys,hn,h=>by
  rw[Bm]at hn;have hx:=h x A6;have ih:=OJ xs (ys.erase x) hn.2 λy hy=>(Jd (λe:y=x=>hn.1 (e▸hy))).mpr (h y (A7 _ hy));rw[List.length_erase_of_mem hx]at ih
  have:0<ys.length:=List.length_pos_of_mem hx
  rw[Av];omega
def w8(m:Nat)(cl:Nat->Nat->Bool)(k:Nat):List f8:=(Aa k).flatMap λi=>(((Aa (m-(i+1))).map λq=>i+1+q).filter (cl i)).map λ(j:Nat)=>((i:Int),(j:Int))
def nR(cl:Nat->Nat->Bool)(k:Nat):List f8:=(Aa k).flatMap λj=>((Aa j).filter λi=>cl i j).map λ(i:Nat)=>((i:Int),(j:Int))
def Y0{t:f8}:t∈w8 m cl k↔∃i j:Nat,t=((i:Int),(j:Int))/\i<k/\i<j/\j<m/\cl i j=true:=by
 unfold w8;rw[Kx];constructor
 .rintro ⟨i,hi,h⟩;obtain⟨j,hj,rfl⟩:=Ah.mp h;obtain⟨hj1,hj2⟩:=Az.mp hj;obtain⟨q,hq,rfl⟩:=Ah.mp hj1
  have:=Ap.mp hi
  have:=Ap.mp hq
  exact⟨i,i+1+q,rfl,by omega,by omega,by omega,hj2⟩
 .rintro ⟨i,j,rfl,h1,h2,h3,h4⟩;refine⟨i,Ap.mpr h1,Ah.mpr ⟨j,Az.mpr ⟨Ah.mpr ⟨j-(i+1),Ap.mpr (by omega),by omega⟩,h4⟩,rfl⟩⟩
def DK{t:f8}:t∈nR cl k↔∃i j:Nat,t=((i:Int),(j:Int))/\i<j/\j<k/\cl i j=true:=by
 unfold nR;rw[Kx];constructor
 .rintro ⟨j,hj,h⟩;obtain⟨i,hi,rfl⟩:=Ah.mp h;obtain⟨cY,dq⟩:=Az.mp hi;exact⟨i,j,rfl,Ap.mp cY,Ap.mp hj,dq⟩
 .rintro ⟨i,j,rfl,h1,h2,h3⟩;exact⟨j,Ap.mpr h2,Ah.mpr ⟨i,Az.mpr ⟨Ap.mpr h1,h3⟩,rfl⟩⟩
def NA(m k:Nat)(cl:Nat->Nat->Bool):(w8 m cl k).Pairwise jO:=by
 unfold w8;rw[List.pairwise_flatMap];refine⟨λi _=>?_,?_⟩
 .rw[Br];refine Kn.filter _ ?_;rw[Br]
  exact Ej.imp λ{a b} h=>by unfold jO;dsimp only;omega
 .refine Ej.imp λ{a b} h x hx y hy=>?_;obtain⟨p,_,rfl⟩:=Ah.mp hx;obtain⟨q,_,rfl⟩:=Ah.mp hy;unfold jO;dsimp only;omega
def NN(k:Nat)(cl:Nat->Nat->Bool):(nR cl k).Nodup:=by
 unfold nR Lb;rw[List.pairwise_flatMap];refine⟨λj _=>?_,?_⟩
 .rw[Br];refine Kn.filter _ ?_
  exact Ej.imp λ{a b} h z=>by have:=(Gv z).1;omega
 .refine Ej.imp λ{a b} h x hx y hy z=>?_;obtain⟨p,_,rfl⟩:=Ah.mp hx;obtain⟨q,_,rfl⟩:=Ah.mp hy
  have:=(Gv z).2
  omega
def RD(m:Nat)(cl:Nat->Nat->Bool):qJ (nR cl m)=w8 m cl m:=by
 refine Pl (RA _ (NN m cl)) (NA m m cl) λt=>?_;rw[(AA _).mem_iff,DK,Y0];constructor
 .rintro ⟨i,j,h1,h2,h3,h4⟩;exact⟨i,j,h1,by omega,h2,h3,h4⟩
 .rintro ⟨i,j,h1,h2,h3,h4,h5⟩;exact⟨i,j,h1,h3,h4,h5⟩
def Nj:List f8:=[(0,1),(0,2),(0,3),(0,4),(0,5),(1,2),(1,3),(1,4),(1,5),(2,3),(2,4),(2,5),(3,4),(3,5),(4,5)]
def Qc{t:f8}(h:0<=t.1/\t.1<t.2/\t.2<6):t∈Nj:=by
 obtain⟨a,b⟩:=t;dsimp only at h
 have ha:a=0\/a=1\/a=2\/a=3\/a=4:=by omega
 have hb:b=1\/b=2\/b=3\/b=4\/b=5:=by omega
 rcases ha with rfl|rfl|rfl|rfl|rfl<;>rcases hb with rfl|rfl|rfl|rfl|rfl<;>first|(exfalso;omega)|decide
def dis(s t:f8):Bool:=decide (jO s t)&&!((decide (s.1=t.1)||decide (s.1=t.2))||(decide (s.2=t.1)||decide (s.2=t.2)))
def GM:List (f8×f8):=Nj.flatMap λs=>(Nj.filter (dis s)).map λt=>(s,t)
def ŋ:GM.length=45:=by decide +kernel
def zE:List (Bg×Bg):=[("pile","cross"),("queue","within")]
def O1{k w:Bg}(hk:zE.lookup k=some w)(s t:f8):Q9 [j0 s,j0 t,.str k]=some (.bl (lT s t==w)):=by
 have e:IL [sC (j0 s),sC (j0 t),sC (.str k)]=some (.rt (.bl (lT s t==w))):=by refine j7 ((jI (x:=.str (lT s t)) (y:=.str w) ((x6 (ds:=[j0 s,j0 t]) rfl).trans (Â s t)) ?_).trans rfl);show (match zE.lookup k with|some y=>some (D.str y)|none=>none)=_;rw[hk]
 show lA (IL [sC (j0 s),sC (j0 t),sC (.str k)])=_;rw[e];rfl
def W9(r:List Int)(ts:List f8)(i:Nat):f8:=kL r (ts.getD i (0,0))
def i4(r:List Int)(ts:List f8)(w:Bg)(i j:Nat):Bool:=lT (W9 r ts i) (W9 r ts j)==w
def vM{ts:List f8}{i:Nat}{s:f8}(h:ts[i]?=some s):W9 r ts i=kL r s:=by unfold W9;rw[C9,h];rfl
def xT{ts:List f8}{j:Nat}(h:j<ts.length):lU (ts.map λt=>j0 (kL r t)) (j:Int)=some (j0 (W9 r ts j)):=by unfold lU;rw[A0,BA h];show (ts.map λt=>j0 (kL r t))[j]?=_;rw[As,A3 h,vM (A3 h)];rfl
def FK{r:List Int}{p q:Int}(hp:p∈r)(hq:q∈r)(h:p≠q):jY r p≠jY r q:=λe=>by
 have e':r.idxOf p=r.idxOf q:=by unfold jY at e;omega
 have l1:r.idxOf p<r.length:=Cf hp;have l2:r.idxOf q<r.length:=Cf hq
 have g1:r[r.idxOf p]?=some p:=by rw[A3 l1,Hx]
 have g2:r[r.idxOf q]?=some q:=by rw[A3 l2,Hx]
 rw[e',g2]at g1;exact h (Bb g1).symm
def FP{r:List Int}{p:Int}(hr:r.length<=6)(h:p∈r):0<=jY r p/\jY r p<6:=by
 unfold jY
 have:=Cf h
 omega
def Qe{r:List Int}{s t:f8}(hr:r.length<=6)(hs:s.1∈r/\s.2∈r)(ht:t.1∈r/\t.2∈r)(h1:s.1≠s.2)(h2:t.1≠t.2):wQ (jY r s.1) (jY r s.2) (jY r t.1) (jY r t.2)=lT (kL r s) (kL r t):=(Ő (FK hs.1 hs.2 h1) (FK ht.1 ht.2 h2) (FP hr hs.1) (FP hr hs.2) (FP hr ht.1) (FP hr ht.2)).symm
def KW(k w:Bg):Prop:=(k = "pile"/\w = "cross")\/(k = "queue"/\w = "within")
def KW.tab(h:KW k w):zE.lookup k=some w:=by rcases h with⟨rfl,rfl⟩|⟨rfl,rfl⟩<;>decide +kernel
def KW.meet(h:KW k w):(("meet":Bg)==w)=false:=by rcases h with⟨rfl,rfl⟩|⟨rfl,rfl⟩<;>decide +kernel
def NH(cl:Nat->Nat->Bool)(k:Nat):nR cl (k+1)=nR cl k++((Aa k).filter λi=>cl i k).map λ(i:Nat)=>((i:Int),(k:Int)):=by unfold nR;rw[Lg,List.flatMap_append,List.flatMap_singleton]
theorem HS(cl:Nat->Nat->Bool):∀k,k<=12->(nR cl k).length<=k*12
 | 0,_=>by unfold nR;simp
 |k+1,h=>by
  have ih:=HS cl k (by omega);rw[NH,Af,A0]
  have:=D9 (λi=>cl i k) (Aa k)
  rw[An]at this;omega
def few{ts:List f8}{r:List Int}(hr:r.length<=6)(aK:∀t∈ts,t.1∈r/\t.2∈r)(gY:KW k w)(gn:ts.Pairwise jO)(hok:∀t∈ts,0<=t.1/\t.1<t.2/\t.2<6):(nR (i4 r ts w) ts.length).length<=45:=by
 let f:f8->f8×f8:=λp=>(ts.getD p.1.toNat (0,0),ts.getD p.2.toNat (0,0))
 have dG:∀{i:Nat} (h:i<ts.length),ts.getD i (0,0)=ts[i]:=λ{i} h=>by rw[C9,A3 h];rfl
 have ah:∀{i j:Nat} (hj:j<ts.length) (h:i<j),jO (ts[i]'(by omega)) ts[j]:=λ{i j} hj h=>Ey.mp gn i j (by omega) hj h
 have inj:∀{i j:Nat} (hi:i<ts.length) (hj:j<ts.length),ts[i]=ts[j]->i=j:=λ{i j} hi hj e=>by
  rcases Kf i j with h|h|h
  .have:=ah hj h;rw[e]at this;exact absurd this (rB _)
  .exact h
  .have:=ah hi h;rw[e]at this;exact absurd this (rB _)
 have hn:((nR (i4 r ts w) ts.length).map f).Nodup:=by rw[Lb,Br];refine(NN ts.length (i4 r ts w)).imp_of_mem λ{p q} hp hq ak e=>ak ?_;obtain⟨i,j,rfl,h1,h2,_⟩:=DK.mp hp;obtain⟨i',j',rfl,hZ,cP,_⟩:=DK.mp hq;have e1:ts.getD i (0,0)=ts.getD i' (0,0):=(Gv e).1;have e2:ts.getD j (0,0)=ts.getD j' (0,0):=(Gv e).2;rw[dG (by omega),dG (by omega)]at e1;rw[dG h2,dG cP]at e2;rw[inj _ _ e1,inj _ _ e2]
 have hm:∀x∈(nR (i4 r ts w) ts.length).map f,x∈GM:=λx hx=>by
  obtain⟨p,hp,rfl⟩:=Ah.mp hx;obtain⟨i,j,rfl,h1,h2,hc⟩:=DK.mp hp;show (ts.getD i (0,0),ts.getD j (0,0))∈GM;have hs:=hok _ (Bo (show i<ts.length by omega));have ht:=hok _ (Bo h2)
  have hd:dis (ts.getD i (0,0)) (ts.getD j (0,0))=true:=by
   unfold dis;rw[dG (by omega),dG h2,decide_eq_true (ah h2 h1),Dw]
   cases hh:((decide ((ts[i]'(by omega)).1=ts[j].1)||decide ((ts[i]'(by omega)).1=ts[j].2))||(decide ((ts[i]'(by omega)).2=ts[j].1)||decide ((ts[i]'(by omega)).2=ts[j].2))) with
   |false=>rfl
   |true=>
    exfalso;simp only[Hq,decide_eq_true_eq]at hh;unfold i4 at hc;rw[vM (A3 (show i<ts.length by omega)),vM (A3 h2)]at hc
    have jm:lT (kL r (ts[i]'(by omega))) (kL r ts[j]) = "meet":=by
     rw[<-Qe hr (aK _ (Bo _)) (aK _ (Bo _)) (λz=>by omega) (λz=>by omega)];unfold wQ;rw[if_pos];rcases hh with (z|z)|(z|z)
     .exact .inl (by rw[z])
     .exact .inr (.inl (by rw[z]))
     .exact .inr (.inr (.inl (by rw[z])))
     .exact .inr (.inr (.inr (by rw[z])))
    rw[jm,gY.meet]at hc;cases hc
  unfold GM;rw[Kx];refine⟨_,Qc (by rw[dG (by omega)];exact hs),Ah.mpr ⟨_,Az.mpr ⟨Qc (by rw[dG h2];exact ht),hd⟩,rfl⟩⟩
 have:=OJ _ _ hn hm
 rw[A0,ŋ]at this;exact this
def SH:EO:=rQ 4 (Y2 [none,some 5,some 0,some 1,some 3] (lO (z7 5)) (u5 0) (y9 (d2 kM (x8 zQ (zH 2 3 0 1)) (z7 4))) (jW (kF 0 1)))
def Xg{ts:List f8}{r:List Int}{j:Nat}{found:List f8}(hr:r.length<=6)(hj:j<ts.length)(hm:ts.length<=12)(hf:found.length<=1000)(aK:∀t∈ts,t.1∈r/\t.2∈r)(ak:∀t∈ts,t.1≠t.2):
  SH [sC (Y9 n ts),sC (.tup (r.map D.int)),sC (.str k),sC (.str w),some (.ow (found.map j0)),sC (.int (j:Int))] =
   some (.nx [sC (Y9 n ts),sC (.tup (r.map D.int)),sC (.str k),sC (.str w),some (.ow ((found++((Aa j).filter λi=>i4 r ts w i j).map λ(i:Nat)=>((i:Int),(j:Int))).map j0)),sC (.int (j:Int))]):=by
 have e1:Y2 [none,some 5,some 0,some 1,some 3] (lO (z7 5)) (u5 0) (y9 (d2 kM (x8 zQ (zH 2 3 0 1)) (z7 4))) (jW (kF 0 1))
   [sC (Y9 n ts),sC (.tup (r.map D.int)),sC (.str k),sC (.str w),some (.ow (found.map j0)),sC (.int (j:Int))]=some ((((Aa j).filter λi=>i4 r ts w i j).map λ(i:Nat)=>((i:Int),(j:Int))).map j0):=by
  have e0:lO (z7 5) [sC (Y9 n ts),sC (.tup (r.map D.int)),sC (.str k),sC (.str w),some (.ow (found.map j0)),sC (.int (j:Int))]=some ((Aa j).map λ(i:Nat)=>D.int (i:Int)):=by
   rw[vJ (j:=(j:Int)) rfl (by unfold mW;rw[decide_eq_true (by omega),decide_eq_true (by omega)];rfl),Ai]
   unfold Q5;congr 1;refine B6 λq _=>?_;rw[Lc]
  refine(mT e0 (by rw[A0,An];unfold f9;omega)).trans ?_
  refine(K8 (λY=>∃c0,Y=[c0,sC (.int (j:Int)),sC (Y9 n ts),sC (.tup (r.map D.int)),sC (.str w)]) (λd=>match d with|.int i=>i4 r ts w i.toNat j|_=>false) (λd=>.tup [d,.int (j:Int)]) _ _ ⟨none,rfl⟩ ?_).trans ?_
  .rintro d hd Y ⟨c0,rfl⟩;obtain⟨i,hi,rfl⟩:=Ah.mp hd
   have bo:i<ts.length:=by have:=Ap.mp hi;omega
   refine⟨_,rfl,⟨_,rfl⟩,v7 ?_,λ_=>pM (ds:=[.int (i:Int),.int (j:Int)]) rfl (show 2<=f9 by decide)⟩;have gi:=A3 bo;have gj:=A3 hj;have mi:=Bo bo;have mj:=Bo hj;have hF:=Yz (n:=n) (r:=r) gi gj (aK _ mi) (aK _ mj);rw[Qe hr (aK _ mi) (aK _ mj) (ak _ mi) (ak _ mj),<-vM (r:=r) gi,<-vM (r:=r) gj]at hF;refine(jI (x:=.str (lT (W9 r ts i) (W9 r ts j))) (y:=.str w) ((x6 (ds:=[Y9 n ts,.tup (r.map D.int),.int (i:Int),.int (j:Int)]) rfl).trans hF) rfl).trans ?_
   show some (D.bl (i4 r ts w i j))=some (D.bl (i4 r ts w (i:Int).toNat j));rw[Ai]
  .rw[Jj,B8,B8];rfl
 refine(LJ (ds:=found.map j0) rfl e1 ?_).trans ?_
 .rw[A0,A0,A0]
  have:=D9 (λi=>i4 r ts w i j) (Aa j)
  rw[An]at this;unfold f9;omega
 .rw[B9];rfl
def Wb{ts:List f8}{r:List Int}(hr:r.length<=6)(gY:KW k w)(hm:ts.length<=12)(gn:ts.Pairwise jO)(hok:∀t∈ts,0<=t.1/\t.1<t.2/\t.2<6)(aK:∀t∈ts,t.1∈r/\t.2∈r):
  DM [Y9 n ts,.tup (r.map D.int),.str k]=some (.lst ((w8 ts.length (i4 r ts w) ts.length).map j0)):=by
 have ak:∀t∈ts,t.1≠t.2:=λt ht=>by have:=hok t ht;omega
 obtain⟨Y',l1,c5,rfl⟩:=xW (h:=u5 5) (g:=SH) (λpre Y=>∃c5,Y=[sC (Y9 n ts),sC (.tup (r.map D.int)),sC (.str k),sC (.str w),some (.ow ((nR (i4 r ts w) pre.length).map j0)),c5])
  (ds:=Q5 0 ts.length) (Y:=[sC (Y9 n ts),sC (.tup (r.map D.int)),sC (.str k),sC (.str w),some (.ow []),none]) ⟨none,rfl⟩ (λpre d post Y he hI=>by
   obtain⟨c5,rfl⟩:=hI;have ab:=congrArg Fz he;rw[qB,Af,Av]at ab
   have hd:d = .int (pre.length:Int):=by
    have h1:(Q5 0 ts.length)[pre.length]?=some d:=by rw[<-he];simp
    rw[KM (by omega)]at h1;exact(Bb h1).symm
   subst hd;refine⟨_,_,rfl,.inl (Xg (found:=nR (i4 r ts w) pre.length) hr (by omega) hm ?_ aK ak),⟨sC (.int (pre.length:Int)),?_⟩⟩
   .have:=HS (i4 r ts w) pre.length (by omega)
    omega
   .rw[Af,Ay,NH])
 rw[qB]at l1
 have e3:jH (nC (z9 (dC (.str "cross")) (z9 (dC (.str "within")) i3))) (x8 BW (z9 (d2 kM (z7 2) (dC (.str "queue"))) i3)) [sC (Y9 n ts),sC (.tup (r.map D.int)),sC (.str k),none,none,none]=some (.str w):=by
  refine(lY (ds:=[.str "cross",.str "within"]) (j:=if k=="queue" then 1 else 0) (tU rfl (show 2<=f9 by decide)) ?_).trans ?_
  .refine(x6 (ds:=[.bl (k=="queue")]) rfl).trans ?_;rcases gY with⟨rfl,rfl⟩|⟨rfl,rfl⟩
   .rw[show (("pile":Bg)=="queue")=false by decide +kernel];rfl
   .rw[show (("queue":Bg)=="queue")=true by decide +kernel];rfl
  .rcases gY with⟨rfl,rfl⟩|⟨rfl,rfl⟩
   .rw[show (("pile":Bg)=="queue")=false by decide +kernel];rfl
   .rw[show (("queue":Bg)=="queue")=true by decide +kernel];rfl
 refine mG (x:=NF [sC (Y9 n ts),sC (.tup (r.map D.int)),sC (.str k),none,none,none]) ?_;refine v5 (J4 e3) ?_;refine v5 (vK (ds:=[]) (tU (ds:=[]) rfl (by decide))) ?_;refine v5 ((mJ (ds:=Q5 0 ts.length) ?_).trans l1) ?_
 .have e4:=vJ (fa:=jP (d8 (jC 0 1))) (Y:=[sC (Y9 n ts),sC (.tup (r.map D.int)),sC (.str k),sC (.str w),some (.ow []),none]) (j:=((ts.map j0).length:Int)) rfl (by rw[A0];unfold mW;rw[decide_eq_true (by omega),decide_eq_true (by omega)];rfl)
  rw[A0,Ai]at e4;exact e4
 .refine j7 (mR ((MK (ds:=(nR (i4 r ts w) ts.length).map j0) rfl).trans ?_));rw[Pi (by have:=few (r:=r) hr aK gY gn hok;omega),RD]
end P
namespace P
section
variable{cl:Nat->Nat->Bool}
def PW(cl:Nat->Nat->Bool)(e:List Nat):Prop:=e.Pairwise λi j=>cl i j=true
instance (cl:Nat->Nat->Bool) (e:List Nat):Decidable (PW cl e):=by unfold PW;exact inferInstance
structure tN(cl:Nat->Nat->Bool)(done:List Nat)(cs:List (List Nat)):Prop where
 ok:∀c∈cs,PW cl c/\c.Sublist done/\c≠[]
 top:∀e:List Nat,e.Sublist done->PW cl e->∀t:Nat,e.getLast?=some t->∃c∈cs,c.getLast?=some t/\e.length<=c.length
def tN.zero:tN cl [] []:=⟨(λc h=>by cases h),(λe h _ t ht=>by rw[Ky.mp h]at ht;cases ht)⟩
theorem Ÿ{e:List Nat}{t:Nat}(h:e.Sublist [t]):e=[]\/e=[t]:=by
 cases h with
 |cons _ h=>exact .inl (Ky.mp h)
 |cons_cons _ h=>exact .inr (by rw[Ky.mp h])
def tN.step{b:List Nat}(h:tN cl done cs)(tr:∀x y,[x,y].Sublist done->cl x y=true->cl y t=true->cl x t=true)(hb:b=[]\/(b∈cs/\∃u,b.getLast?=some u/\cl u t=true))(hm:∀c∈cs,(∃u,c.getLast?=some u/\cl u t=true)->c.length<=b.length):tN cl (done++[t]) (cs++[b++[t]]):=by
 have bok:PW cl (b++[t])/\(b++[t]).Sublist (done++[t]):=by
  rcases hb with rfl|⟨hbc,u,hu,hut⟩
  .exact⟨Da _ _,Hk (List.nil_sublist _) (Kg _)⟩
  .obtain⟨p1,p2,_⟩:=h.ok b hbc;refine⟨Cq.mpr ⟨p1,Da _ _,λx hx y hy=>?_⟩,Hk p2 (Kg _)⟩;rw[Ae.mp hy];obtain⟨ys,rfl⟩:=He.mp hu;rcases Aq.mp hx with z|z
   .refine tr x u (List.Sublist.trans ?_ p2) ((Cq.mp p1).2.2 x z u (Ae.mpr rfl)) hut;exact Hk (List.singleton_sublist.mpr z) (Kg [u])
   .rw[Ae.mp z];exact hut
 refine⟨λc hc=>?_,λe he pe s hs=>?_⟩
 .rcases Aq.mp hc with z|z
  .obtain⟨p1,p2,p3⟩:=h.ok c z;exact⟨p1,p2.trans (List.sublist_append_left _ _),p3⟩
  .rw[Ae.mp z];exact⟨bok.1,bok.2,by simp⟩
 .obtain⟨e1,e2,rfl,s1,s2⟩:=List.sublist_append_iff.mp he;rcases Ÿ s2 with rfl|rfl
  .rw[Ci]at hs pe ⊢;obtain⟨c,hc,q1,q2⟩:=h.top e1 s1 pe s hs;exact⟨c,B4 _ hc,q1,q2⟩
  .rw[List.getLast?_append]at hs
   have bO:s=t:=by simpa using hs.symm
   subst bO;refine⟨b++[s],Ab _ (Ae.mpr rfl),by simp,?_⟩;rw[Af,Af];refine Nat.add_le_add_right ?_ _
   cases hl:e1.getLast? with
   |none=>rw[Hf.mp hl];exact Bh _
   |some u=>obtain⟨c,hc,q1,q2⟩:=h.top e1 s1 (Cq.mp pe).1 u hl;have mu:u∈e1:=List.mem_of_getLast? hl;exact B3 q2 (hm c hc ⟨u,q1,(Cq.mp pe).2.2 u mu s (Ae.mpr rfl)⟩)
def yW(cs:List (List Nat))(b:List Nat):Prop:=(cs=[]/\b=[])\/(b∈cs/\∀c∈cs,c.length<=b.length)
def tN.best(h:tN cl L cs)(hb:yW cs b):PW cl b/\b.Sublist L/\∀e:List Nat,e.Sublist L->PW cl e->e.length<=b.length:=by
 have top:∀e:List Nat,e.Sublist L->PW cl e->e=[]\/∃c∈cs,e.length<=c.length:=λe he pe=>by
  cases hl:e.getLast? with
  |none=>exact .inl (Hf.mp hl)
  |some u=>obtain⟨c,hc,_,q⟩:=h.top e he pe u hl;exact .inr ⟨c,hc,q⟩
 rcases hb with⟨rfl,rfl⟩|⟨hb,hm⟩
 .refine⟨Ed,List.nil_sublist _,λe he pe=>?_⟩;rcases top e he pe with rfl|⟨c,hc,_⟩
  .exact Ak _
  .cases hc
 .obtain⟨p1,p2,_⟩:=h.ok b hb;refine⟨p1,p2,λe he pe=>?_⟩;rcases top e he pe with rfl|⟨c,hc,q⟩
  .exact Bh _
  .exact B3 q (hm c hc)
def yW.step{cs:List (List Nat)}(hp:∀c∈cs,c≠[])(hb:yW (cs.filter p) b)(hpe:∀c∈cs,p c=true↔∃u,c.getLast?=some u/\cl u t=true):
  (b=[]\/(b∈cs/\∃u,b.getLast?=some u/\cl u t=true))/\(∀c∈cs,(∃u,c.getLast?=some u/\cl u t=true)->c.length<=b.length):=by
 rcases hb with⟨h1,rfl⟩|⟨h1,h2⟩
 .refine⟨.inl rfl,λc hc hu=>?_⟩
  have:c∈cs.filter p:=Az.mpr ⟨hc,(hpe c hc).mpr hu⟩
  rw[h1]at this;cases this
 .obtain⟨m1,m2⟩:=Az.mp h1;exact⟨.inr ⟨m1,(hpe b m1).mp m2⟩,λc hc hu=>h2 c (Az.mpr ⟨hc,(hpe c hc).mpr hu⟩)⟩
theorem FT(hs:∀i j,cl i j=cl j i):∀{S:List Nat},PW cl S->∀{x y},x∈S->y∈S->x≠y->cl x y=true
 | [],_,_,_,h,_,_=>by cases h
 |a::S,hp,x,y,hx,hy,ak=>by
  have fJ:=D5.mp hp;rcases Ad.mp hx with rfl|hx
  .rcases Ad.mp hy with rfl|hy
   .exact absurd rfl ak
   .exact fJ.1 y hy
  .rcases Ad.mp hy with z|hy
   .rw[hs,z];exact fJ.1 x hx
   .exact FT hs fJ.2 hx hy ak
def R0{S:List Nat}(hn:S.Nodup)(h:∀x∈S,∀y∈S,x≠y->cl x y=true):PW cl S:=E9 (λ{a b} ha hb cN=>h a ha b hb cN) hn
def Ŧ(hs:∀i j,cl i j=cl j i){S T:List Nat}(hn:S.Nodup)(hp:S.Perm T)(h:PW cl S):PW cl T:=R0 (hp.nodup_iff.mp hn) λx hx y hy ak=>FT hs h (hp.mem_iff.mpr hx) (hp.mem_iff.mpr hy) ak
theorem zM{α:Type}[DecidableEq α]:∀(xs ys:List α),xs.Nodup->(∀x∈xs,x∈ys)->xs.length<=ys.length
 | [],_,_,_=>Bh _
 |x::xs,ys,hn,hs=>by
  have bj:=Bm.mp hn;have hx:x∈ys:=hs x A6
  have:=zM xs (ys.erase x) bj.2 λy hy=>(Jd (a:=y) (b:=x) (λz=>bj.1 (by rw[<-z];exact hy))).mpr (hs y (A7 _ hy))
  rw[List.length_erase_of_mem hx]at this;have hpos:0<ys.length:=List.length_pos_of_mem hx;rw[Av];omega
def ZU(hs:∀i j,cl i j=cl j i){L S:List Nat}(hL:L.Nodup)(hS:S.Nodup)(dR:∀x∈S,x∈L)(hp:PW cl S):∃e:List Nat,e.Sublist L/\PW cl e/\S.length<=e.length:=by
 refine⟨L.filter λx=>decide (x∈S),Fk,?_,zM S _ hS λx hx=>Az.mpr ⟨dR x hx,decide_eq_true hx⟩⟩;refine R0 (hL.sublist Fk) λx hx y hy ak=>FT hs hp ?_ ?_ ak
 .exact of_decide_eq_true (Az.mp hx).2
 .exact of_decide_eq_true (Az.mp hy).2
structure tK(m:Nat)(cl:Nat->Nat->Bool)(bx:Nat->List Nat)(k:Nat)(f:List Nat):Prop where
 pw:PW cl f
 nd:f.Nodup
 lt:∀x∈f,x<m
 top:∀g,g<k->∀e:List Nat,e.Sublist (bx g)->PW cl e->e.length<=f.length
def tK.zero:tK m cl bx 0 []:=⟨Ed,Ed,(λx h=>by cases h),(λg h=>absurd h (F5 _))⟩
def tK.step(h:tK m cl bx k f)(ho:(bx k).Nodup)(hl:∀x∈bx k,x<m)(hb:PW cl b/\b.Sublist (bx k)/\∀e:List Nat,e.Sublist (bx k)->PW cl e->e.length<=b.length):
  tK m cl bx (k+1) (if f.length<b.length then b else f):=by
 obtain⟨b1,b2,b3⟩:=hb;by_cases hc:f.length<b.length
 .rw[if_pos hc];refine⟨b1,ho.sublist b2,λx hx=>hl x (b2.subset hx),λg hg e he pe=>?_⟩;rcases Fj.mp hg with z|rfl
  .exact B3 (h.top g z e he pe) (De hc)
  .exact b3 e he pe
 .rw[if_neg hc];refine⟨h.pw,h.nd,h.lt,λg hg e he pe=>?_⟩;rcases Fj.mp hg with z|rfl
  .exact h.top g z e he pe
  .exact B3 (b3 e he pe) (Nat.le_of_not_lt hc)
def tK.all(h:tK m cl bx k f)(hs:∀i j,cl i j=cl j i)(ho:∀g,g<k->(bx g).Nodup)(helly:∀S:List Nat,S≠[]->S.Nodup->(∀x∈S,x<m)->PW cl S->∃g,g<k/\∀x∈S,x∈bx g){S:List Nat}(hn:S.Nodup)(hl:∀x∈S,x<m)(hp:PW cl S):S.length<=f.length:=by
 by_cases hS:S=[]
 .rw[hS];exact Bh _
 .obtain⟨g,hg,dR⟩:=helly S hS hn hl hp;obtain⟨e,e1,e2,e3⟩:=ZU hs (ho g hg) hn dR hp;exact B3 e3 (h.top g hg e e1 e2)
structure xI(cl:Nat->Nat->Bool)(aD left:List Nat)(R:Nat):Prop where
 has:∃e:List Nat,e.Sublist left/\PW cl (aD++e)/\R=aD.length+e.length
 top:∀e:List Nat,e.Sublist left->PW cl (aD++e)->aD.length+e.length<=R
structure qS(cl:Nat->Nat->Bool)(aD pre post:List Nat)(R:Nat):Prop where
 has:∃e:List Nat,e.Sublist (pre++post)/\PW cl (aD++e)/\R=aD.length+e.length
 le:aD.length<=R
 top:∀(p:List Nat) (t:Nat) (q:List Nat),p++t::q=pre->∀e:List Nat,e.Sublist (q++post)->PW cl (aD++t::e)->aD.length+(e.length+1)<=R
theorem qS.all(h:qS cl aD left [] R):xI cl aD left R:=by
 refine⟨by have:=h.has;rw[Ci]at this;exact this,λe he pe=>?_⟩
 cases e with
 |nil=>exact h.le
 |cons t e=>
  obtain⟨r1,r2,er,ht,hs⟩:=List.cons_sublist_iff.mp he;obtain⟨p,q,rfl⟩:=List.append_of_mem ht;refine h.top p t (q++r2) (by rw[er];simp) e ?_ pe
  rw[Ci];exact hs.trans (List.sublist_append_right _ _)
end
end P
namespace P
open PySem L2 L3
def Rf(s t:f8):lT s t=lT t s:=by
 unfold lT;by_cases h:s.1=t.1\/s.1=t.2\/s.2=t.1\/s.2=t.2
 .rw[if_pos h,if_pos (by omega)]
 .have h':¬(t.1=s.1\/t.1=s.2\/t.2=s.1\/t.2=s.2):=by omega
  rw[if_neg h,if_neg h'];rcases vW s t with z|z|z
  .have z':¬jO t s:=λq=>uF z q;rw[if_neg z',if_pos z,if_pos z,if_neg z']
  .subst z;exact absurd (.inl rfl) h
  .have z':¬jO s t:=λq=>uF z q;rw[if_pos z,if_neg z',if_neg z',if_pos z]
def SU(h:jO s t):lT s t=(if s.1=t.1\/s.1=t.2\/s.2=t.1\/s.2=t.2 then ("meet":Bg) else if s.2<t.1 then ("apart":Bg) else if s.2<t.2 then ("cross":Bg) else ("within":Bg):Bg):=by unfold lT;rw[if_neg (λq=>uF h q),if_pos h]
def Tz(h:jO s t):s.1<=t.1:=by unfold jO at h;omega
def zT(h:jO s t)(hs:s.1<s.2)(ht:t.1<t.2):lT s t = "cross"↔(s.1<t.1/\t.1<s.2/\s.2<t.2):=by
 have hl:=Tz h;rw[SU h];by_cases h1:s.1=t.1\/s.1=t.2\/s.2=t.1\/s.2=t.2
 .rw[if_pos h1];exact⟨λe=>absurd e (by decide),λe=>by omega⟩
 .rw[if_neg h1];by_cases h2:s.2<t.1
  .rw[if_pos h2];exact⟨λe=>absurd e (by decide),λe=>by omega⟩
  .rw[if_neg h2];by_cases h3:s.2<t.2
   .rw[if_pos h3];exact⟨λ_=>by omega,λ_=>rfl⟩
   .rw[if_neg h3];exact⟨λe=>absurd e (by decide),λe=>by omega⟩
def vZ(h:jO s t)(hs:s.1<s.2)(ht:t.1<t.2):lT s t = "within"↔(s.1<t.1/\t.2<s.2):=by
 have hl:=Tz h;rw[SU h];by_cases h1:s.1=t.1\/s.1=t.2\/s.2=t.1\/s.2=t.2
 .rw[if_pos h1];exact⟨λe=>absurd e (by decide),λe=>by omega⟩
 .rw[if_neg h1];by_cases h2:s.2<t.1
  .rw[if_pos h2];exact⟨λe=>absurd e (by decide),λe=>by omega⟩
  .rw[if_neg h2];by_cases h3:s.2<t.2
   .rw[if_pos h3];exact⟨λe=>absurd e (by decide),λe=>by omega⟩
   .rw[if_neg h3];exact⟨λ_=>by omega,λ_=>rfl⟩
def ĉ(hk:KW k w)(h1:jO s t)(h2:jO t u)(hs:s.1<s.2)(ht:t.1<t.2)(hu:u.1<u.2)(hg:u.1<s.2)(a:lT s t=w)(b:lT t u=w):lT s u=w:=by
 have h3:=OS h1 h2;rcases hk with⟨_,rfl⟩|⟨_,rfl⟩
 .have a':=(zT h1 hs ht).mp a;have b':=(zT h2 ht hu).mp b;exact(zT h3 hs hu).mpr (by omega)
 .have a':=(vZ h1 hs ht).mp a;have b':=(vZ h2 ht hu).mp b;exact(vZ h3 hs hu).mpr (by omega)
def Ö(hk:KW k w){s t:f8}(hs:s.1<s.2)(ht:t.1<t.2)(a:lT s t=w):s.1<t.2/\t.1<s.2:=by
 rcases vW s t with z|z|z
 .rcases hk with⟨_,rfl⟩|⟨_,rfl⟩
  .have:=(zT z hs ht).mp a;omega
  .have:=(vZ z hs ht).mp a;omega
 .subst z;exact⟨hs,ht⟩
 .rw[Rf]at a;rcases hk with⟨_,rfl⟩|⟨_,rfl⟩
  .have:=(zT z ht hs).mp a;omega
  .have:=(vZ z ht hs).mp a;omega
structure kJ(n:Int)(ts:List f8)(r:List Int):Prop where
 up:ts.Pairwise jO
 ok:∀t∈ts,0<=t.1/\t.1<t.2/\t.2<n
 nd:r.Nodup
 len:(r.length:Int)=n
 mem:∀t∈ts,t.1∈r/\t.2∈r
 n6:n<=6
 m12:ts.length<=12
section
variable{n:Int}{ts:List f8}{r:List Int}{k w:Bg}
def kJ.rl(h:kJ n ts r):r.length<=1000:=by have:=h.len;have:=h.n6;omega
def kJ.hm'(h:kJ n ts r):ts.length<=1000:=by have:=h.m12;omega
def RR(r:List Int)(p:Int):0<=jY r p:=by unfold jY;omega
def RQ{r:List Int}{p:Int}(h:p∈r):jY r p<(r.length:Int):=by
 unfold jY
 have:=Cf h
 omega
def kJ.sp(h:kJ n ts r){i:Nat}(hi:i<ts.length):∃t∈ts,ts[i]?=some t/\W9 r ts i=kL r t:=
 ⟨ts[i],Bo hi,A3 hi,vM (A3 hi)⟩
def kJ.sp_ok(h:kJ n ts r){i:Nat}(hi:i<ts.length):0<=(W9 r ts i).1/\(W9 r ts i).1<(W9 r ts i).2/\(W9 r ts i).2<n:=by
 obtain⟨t,ht,_,e⟩:=h.sp hi;rw[e];unfold kL;dsimp only;have hm:=h.mem t ht;have ak:=FK hm.1 hm.2 (by have:=h.ok t ht;omega)
 have a1:=RR r t.1;have a2:=RR r t.2;have b1:=RQ hm.1;have b2:=RQ hm.2
 have:=h.len
 omega
def FO{r:List Int}{p q:Int}(hp:p∈r)(hq:q∈r)(e:jY r p=jY r q):p=q:=by
 by_cases h:p=q
 .exact h
 .exact absurd e (FK hp hq h)
def Zk{a b c d:Int}(h1:Ew a b=Ew c d)(h2:Lh a b=Lh c d):(a=c/\b=d)\/(a=d/\b=c):=by
 rcases L5 a b with x|x<;>rcases L5 c d with y|y
 .rw[Gd x,Gd y]at h1;rw[Ft x,Ft y]at h2;exact .inl ⟨h1,h2⟩
 .rw[Gd x,Fs y]at h1;rw[Ft x,Ge y]at h2;exact .inr ⟨h1,h2⟩
 .rw[Fs x,Gd y]at h1;rw[Ge x,Ft y]at h2;exact .inr ⟨h2,h1⟩
 .rw[Fs x,Fs y]at h1;rw[Ge x,Ge y]at h2;exact .inl ⟨h2,h1⟩
def kJ.sp_inj(h:kJ n ts r){i j:Nat}(hi:i<ts.length)(hj:j<ts.length)(e:W9 r ts i=W9 r ts j):i=j:=by
 obtain⟨s,hs,gs,es⟩:=h.sp hi;obtain⟨t,ht,gt,et⟩:=h.sp hj;rw[es,et]at e;unfold kL at e;have e1:=congrArg B5 e;have e2:=congrArg Kz e;dsimp only at e1 e2;have ms:=h.mem s hs;have mt:=h.mem t ht;have os:=h.ok s hs;have ot:=h.ok t ht;have hc:(jY r s.1=jY r t.1/\jY r s.2=jY r t.2)\/(jY r s.1=jY r t.2/\jY r s.2=jY r t.1):=Zk e1 e2
 have est:s=t:=by
  rcases hc with⟨c1,c2⟩|⟨c1,c2⟩
  .exact Mv (FO ms.1 mt.1 c1) (FO ms.2 mt.2 c2)
  .have q1:=FO ms.1 mt.2 c1;have q2:=FO ms.2 mt.1 c2;omega
 subst est;have gi:=(Ax.mp gs).2;have gj:=(Ax.mp gt).2;have pw:=Ey.mp h.up;rcases Kf i j with q|q|q
 .have:=pw i j hi hj q
  rw[gi,gj]at this;exact absurd this (rB _)
 .exact q
 .have:=pw j i hj hi q
  rw[gi,gj]at this;exact absurd this (rB _)
def vO(i j:Nat):i4 r ts w i j=i4 r ts w j i:=by unfold i4;rw[Rf]
def xK:i4 r ts w i j=true↔lT (W9 r ts i) (W9 r ts j)=w:=by unfold i4;exact beq_iff_eq
def pN(r:List Int)(ts:List f8)(g:Nat)(i:Nat):Bool:=decide ((W9 r ts i).1<=(g:Int))&&decide ((g:Int)<(W9 r ts i).2)
def pA(r:List Int)(ts:List f8)(i j:Nat):Bool:=lL (lK (W9 r ts i)) (lK (W9 r ts j))
def kI(r:List Int)(ts:List f8)(g:Nat):List Nat:=((Aa ts.length).filter (pN r ts g)).mergeSort (pA r ts)
def Rp(g:Nat):(kI r ts g).Perm ((Aa ts.length).filter (pN r ts g)):=Dh _ _
def qZ{g i:Nat}:i∈kI r ts g↔i<ts.length/\pN r ts g i=true:=by rw[(Rp g).mem_iff,Az,Ap]
def CQ(g:Nat):(kI r ts g).Nodup:=(Rp g).nodup_iff.mpr (Ds.sublist Fk)
def kJ.ovr_up(h:kJ n ts r)(g:Nat):(kI r ts g).Pairwise λi j=>jO (W9 r ts i) (W9 r ts j):=by
 have h1:(kI r ts g).Pairwise λi j=>pA r ts i j=true:=Dr (λa b c h1 h2=>by
  unfold pA lL at h1 h2 ⊢;simp only[Fd]at h1 h2 ⊢
  exact xV _ _ _ h1 h2) (λa b=>by
  unfold pA lL
  have:=sJ (W9 r ts a) (W9 r ts b)
  have h2:=sJ (W9 r ts b) (W9 r ts a);unfold lK;rw[this,h2];rcases vW (W9 r ts a) (W9 r ts b) with z|z|z
  .rw[decide_eq_false (λq=>uF z q)];rfl
  .rw[z,decide_eq_false (rB _)];rfl
  .rw[decide_eq_false (λq=>uF z q)];simp) _
 refine E9 (λ{a b} ha hb q=>?_) (h1.and (CQ g));have la:=(qZ.mp ha).1;have lb:=(qZ.mp hb).1;obtain⟨q1,q2⟩:=q;unfold pA lL at q1;have l2:=sJ (W9 r ts b) (W9 r ts a);unfold lK at q1;rw[l2]at q1;rcases vW (W9 r ts a) (W9 r ts b) with z|z|z
 .exact z
 .exact absurd (h.sp_inj la lb z) q2
 .rw[decide_eq_true z]at q1;cases q1
def kJ.helly(h:kJ n ts r)(hk:KW k w){S:List Nat}(hS:S≠[])(hl:∀x∈S,x<ts.length)(hp:PW (i4 r ts w) S):∃g:Nat,(g:Int)<n-1/\∀x∈S,x∈kI r ts g:=by
 have mx:∀T:List Nat,T≠[]->(∀x∈T,x<ts.length)->∃a∈T,∀b∈T,(W9 r ts b).1<=(W9 r ts a).1:=by
  intro T
  induction T with
  |nil=>intro e;exact absurd rfl e
  |cons x T ih=>
   intro _ hl;by_cases hT:T=[]
   .subst hT;exact⟨x,A6,λb hb=>by rw[Ae.mp hb];exact Ja _⟩
   .obtain⟨a,ha,hb⟩:=ih hT λy hy=>hl y (A7 _ hy);by_cases hc:(W9 r ts a).1<=(W9 r ts x).1
    .refine⟨x,A6,λb aP=>?_⟩;rcases Ad.mp aP with rfl|z
     .exact Ja _
     .exact Int.le_trans (hb b z) hc
    .refine⟨a,A7 _ ha,λb aP=>?_⟩;rcases Ad.mp aP with rfl|z
     .omega
     .exact hb b z
 obtain⟨a,ha,hmax⟩:=mx S hS hl;have oa:=h.sp_ok (hl a ha);refine⟨(W9 r ts a).1.toNat,by omega,λx hx=>qZ.mpr ⟨hl x hx,?_⟩⟩;have ox:=h.sp_ok (hl x hx);have e:((W9 r ts a).1.toNat:Int)=(W9 r ts a).1:=Hj oa.1;unfold pN;rw[e,decide_eq_true (hmax x hx)];by_cases hxa:x=a
 .subst hxa;rw[decide_eq_true oa.2.1];rfl
 .have:=xK.mp (FT (λi j=>vO (r:=r) (ts:=ts) (w:=w) i j) hp hx ha hxa)
  rw[decide_eq_true (Ö hk ox.2.1 oa.2.1 this).2];rfl
def kJ.tr(h:kJ n ts r)(hk:KW k w){done post:List Nat}{t:Nat}(hL:done++t::post=kI r ts g):∀x y,[x,y].Sublist done->i4 r ts w x y=true->i4 r ts w y t=true->i4 r ts w x t=true:=λx y hs h1 h2=>by
 have up:=h.ovr_up g;rw[<-hL]at up
 have sub:[x,y,t].Sublist (done++t::post):=by
  have:([x,y]++[t]).Sublist (done++t::post):=Hk hs (List.singleton_sublist.mpr A6)
  exact this
 have up3:=up.sublist sub;have p1:=D5.mp up3;have p2:=D5.mp p1.2
 have m:∀z∈[x,y,t],z∈kI r ts g:=λz hz=>by rw[<-hL];exact sub.subset hz
 have mx:=qZ.mp (m x (by simp));have my:=qZ.mp (m y (by simp));have mt:=qZ.mp (m t (by simp));have ox:=h.sp_ok mx.1;have oy:=h.sp_ok my.1;have ot:=h.sp_ok mt.1;have gx:=mx.2;have gt:=mt.2;unfold pN at gx gt;simp only[Be,decide_eq_true_eq]at gx gt;exact xK.mpr (ĉ hk (p1.1 y (by simp)) (p2.1 t (by simp)) ox.2.1 oy.2.1 ot.2.1 (by omega) (xK.mp h1) (xK.mp h2))
end
def z8(i:Nat):D:=.int (i:Int)
def jZ(c:List Nat):D:=.tup (c.map z8)
def lF(r:List Int)(ts:List f8):D:=.lst (ts.map λt=>j0 (kL r t))
def ŗ{j:Nat}(h:j<=100000):mW (j:Int)=true:=by unfold mW;rw[decide_eq_true (by omega),decide_eq_true (by omega)];rfl
def EI{fa:ED}{j:Nat}(h:fa Y=some (.int (j:Int)))(hj:j<=100000):lO fa Y=some ((Aa j).map z8):=by rw[vJ h (ŗ hj),Ai];unfold Q5;congr 1;refine B6 λq _=>?_;rw[Lc];rfl
def xU{p:D->Bool}{q:Nat->Bool}(l:List Nat)(h:∀i∈l,p (z8 i)=q i):(l.map z8).filter p=(l.filter q).map z8:=by rw[Jj];congr 1;exact List.filter_congr λi hi=>h i hi
theorem ET{fb:ED}{Y:J5}{f:D->D}:∀(ds:List D),(∀d∈ds,fb (Y.set 0 (sC d))=some (f d))->pB fb Y ds=some (ds.map f)
 | [],_=>rfl
 |d::ds,h=>by unfold pB;rw[h d A6];dsimp only;rw[ET ds λx hx=>h x (A7 _ hx)];rfl
section
variable{n:Int}{ts:List f8}{r:List Int}{k w:Bg}
def WF(S:List Nat):wM lL (S.map λi=>lK (W9 r ts i)) (S.map z8)=(S.mergeSort (pA r ts)).map z8:=by
 unfold wM
 have e:(S.map λi=>lK (W9 r ts i)).zip (S.map z8)=S.map λi=>(lK (W9 r ts i),z8 i):=by
  induction S with
  |nil=>rfl
  |cons a S ih=>rw[Aj,Aj,E5,ih];rfl
 rw[e]
 have:=List.map_mergeSort (r:=pA r ts) (s:=λ(a b:List Int×D)=>lL a.1 b.1) (f:=λi=>(lK (W9 r ts i),z8 i)) (l:=S) (λa _ b _=>rfl)
 rw[<-this,B8];rfl
theorem Ry(h:kJ n ts r){S:List Nat}(hn:S.Nodup)(hl:∀i∈S,i<ts.length):FE (S.map λi=>j0 (W9 r ts i)) (S.map z8)=some ((S.mergeSort (pA r ts)).map z8):=by
 have ab:S.length<64:=by
  have:=zM S (Aa ts.length) hn λi hi=>Ap.mpr (hl i hi)
  rw[An]at this
  have:=h.m12
  omega
 unfold FE;rw[if_pos (by rw[A0];exact ab)]
 cases S with
 |nil=>simp[lE,wM]
 |cons a S=>
  have e1:lE ((a::S).map λi=>j0 (W9 r ts i))=none:=rfl
  have e2:nI ((a::S).map λi=>j0 (W9 r ts i))=some ((a::S).map λi=>lK (W9 r ts i)):=by
   have:=DC (nss:=(a::S).map λi=>lK (W9 r ts i)) (λns h=>by
    obtain⟨u,_,rfl⟩:=Ah.mp h
    simp[lK])
   rw[B8]at this;exact this
  have e3:((a::S).map λi=>lK (W9 r ts i)).Nodup:=by refine Br.mpr (E9 (λ{x y} hx hy hxy z=>hxy ?_) hn);refine h.sp_inj (hl x hx) (hl y hy) ?_;unfold lK at z;have z1:=(Ko z).1;have z2:=(Ko (Ko z).2).1;exact Mv z1 z2
  rw[e1];dsimp only;rw[e2];dsimp only;rw[if_pos e3,WF]
def VG(h:kJ n ts r)(g:Nat):DD [lF r ts,.int (g:Int)]=some (.lst ((kI r ts g).map z8)):=by
 have e1:Y2 [none,some 0,some 1] (lO (jP (d8 (z7 0)))) (u5 0) (y9 (nP uX nS (jH (d8 (jH (d8 (z7 1)) (z7 0))) (dI 0)) (z7 2) (jH (d8 (jH (d8 (z7 1)) (z7 0))) (dI 1)))) (z7 0)
   [sC (lF r ts),sC (.int (g:Int)),none]=some (((Aa ts.length).filter (pN r ts g)).map z8):=by
  have e0:lO (jP (d8 (z7 0))) [sC (lF r ts),sC (.int (g:Int)),none]=some ((Aa ts.length).map z8):=by
   refine EI ?_ (by have:=h.m12;omega)
   refine(l9 (ds:=ts.map λt=>j0 (kL r t)) (m9 rfl)).trans ?_;rw[A0]
  refine(mT e0 (by rw[A0,An];have:=h.m12;unfold f9;omega)).trans ?_
  refine(K8 (λY=>∃c0,Y=[c0,sC (lF r ts),sC (.int (g:Int))]) (λd=>match d with|.int i=>pN r ts g i.toNat|_=>false) (λd=>d) _ _ ⟨none,rfl⟩ ?_).trans ?_
  .rintro d hd Y ⟨c0,rfl⟩;obtain⟨i,hi,rfl⟩:=Ah.mp hd;have bo:i<ts.length:=Ap.mp hi;refine⟨_,rfl,⟨_,rfl⟩,?_,λ_=>rfl⟩;have at':jH (d8 (z7 1)) (z7 0) [sC (z8 i),sC (lF r ts),sC (.int (g:Int))]=some (j0 (W9 r ts i)):=(lY (ds:=ts.map λt=>j0 (kL r t)) (j:=(i:Int)) (m9 rfl) rfl).trans (xT bo);refine v7 (ES (x:=.int (W9 r ts i).1) (y:=.int (g:Int)) (z:=.int (W9 r ts i).2) (a:=decide ((W9 r ts i).1<=(g:Int))) (b:=decide ((g:Int)<(W9 r ts i).2)) ?_ rfl rfl (λ_=>?_) (λ_=>rfl))
   .exact(lY (ds:=[.int (W9 r ts i).1,.int (W9 r ts i).2]) (j:=0) (sA at') rfl).trans rfl
   .exact(lY (ds:=[.int (W9 r ts i).1,.int (W9 r ts i).2]) (j:=1) (sA at') rfl).trans rfl
  .rw[xU (q:=pN r ts g) _ (λi _=>rfl),Hb]
 have e2:HJ [sC (lF r ts),sC (.int (g:Int)),none]=some (.rt (.lst ((kI r ts g).map z8))):=by
  refine v5 (J4 (mR e1)) (j7 (mR ?_));show qV [none,some 0] (d8 (z7 2)) (jH (d8 (z7 1)) (z7 0)) [sC (lF r ts),sC (.int (g:Int)),sC (.lst (((Aa ts.length).filter (pN r ts g)).map z8))]=some ((kI r ts g).map z8);have lt:∀i∈(Aa ts.length).filter (pN r ts g),i<ts.length:=λi hi=>Ap.mp (Az.mp hi).1;have nd:((Aa ts.length).filter (pN r ts g)).Nodup:=Ds.sublist Fk
  unfold kI;generalize (Aa ts.length).filter (pN r ts g)=S at lt nd
  have hm:pB (jH (d8 (z7 1)) (z7 0)) [none,sC (lF r ts)] (S.map z8)=some (S.map λi=>j0 (W9 r ts i)):=by
   refine(ET (f:=λd=>match d with|.int i=>j0 (W9 r ts i.toNat)|_=>d) _ λd hd=>?_).trans ?_
   .obtain⟨i,hi,rfl⟩:=Ah.mp hd;exact(lY (ds:=ts.map λt=>j0 (kL r t)) (j:=(i:Int)) (m9 rfl) rfl).trans (xT (lt i hi))
   .rw[B8];rfl
  unfold qV;rw[show d8 (z7 2) [sC (lF r ts),sC (.int (g:Int)),sC (.lst (S.map z8))]=some (S.map z8) from rfl];dsimp only;rw[show mE [none,some 0] [sC (lF r ts),sC (.int (g:Int)),sC (.lst (S.map z8))]=[none,sC (lF r ts)] from rfl,hm];exact Ry h nd lt
 show lA (HJ [sC (lF r ts),sC (.int (g:Int)),none])=_;rw[e2];rfl
def SM(c:List Nat):BX (jZ c)=some (c.length:Int):=by show some ((c.map z8).length:Int)=_;rw[A0]
theorem Qk:∀cs:List (List Nat),pK (cs.map jZ)=some (cs.map λc=>(c.length:Int))
 | []=>rfl
 |c::cs=>by rw[Aj];unfold pK;rw[SM c];dsimp only;rw[Qk cs];rfl
theorem IR{f:Nat->Int}:∀(q j b:Nat),b<j->(∀i,i<j->f i<=f b)->W2 (λi j=>decide (f j<f i)) q j b<j+q/\∀i,i<j+q->f i<=f (W2 (λi j=>decide (f j<f i)) q j b)
 | 0,j,b,hb,hm=>⟨hb,hm⟩
 |q+1,j,b,hb,hm=>by
  unfold W2;by_cases hc:f b<f j
  .rw[if_pos (decide_eq_true hc)]
   have:=IR (f:=f) q (j+1) j (by omega) λi hi=>by
    rcases Fj.mp hi with z|rfl
    .have:=hm i z;omega
    .exact Ja _
   rw[show j+(q+1)=j+1+q by omega];exact this
  .rw[if_neg (by simpa using hc)]
   have:=IR (f:=f) q (j+1) b (by omega) λi hi=>by
    rcases Fj.mp hi with z|rfl
    .exact hm i z
    .omega
   rw[show j+(q+1)=j+1+q by omega];exact this
theorem OH(cs:List (List Nat)):∃b,yI (cs.map jZ) (jZ [])=some (jZ b)/\yW cs b:=by
 unfold yI;rw[Qk];dsimp only
 cases cs with
 |nil=>exact⟨[],rfl,.inl ⟨rfl,rfl⟩⟩
 |cons c cs=>
  rw[Aj];dsimp only;rw[<-Aj];unfold rE;have hgt:tE ((c::cs).map λc=>(c.length:Int))=λi j=>decide (((c::cs).map λc=>(c.length:Int)).getD j 0<((c::cs).map λc=>(c.length:Int)).getD i 0):=rfl;rw[hgt]
  have:=IR (f:=λi=>((c::cs).map λc=>(c.length:Int)).getD i 0) (((c::cs).map jZ).length-1) 1 0 (by omega) (λi hi=>by rw[show i=0 by omega];exact Ja _)
  generalize W2 (λi j=>decide (((c::cs).map λc=>(c.length:Int)).getD j 0<((c::cs).map λc=>(c.length:Int)).getD i 0)) (((c::cs).map jZ).length-1) 1 0=b at this;obtain⟨h1,h2⟩:=this
  have ab:1+(((c::cs).map jZ).length-1)=(c::cs).length:=by rw[A0,Av];omega
  rw[ab]at h1 h2
  have get:∀(i:Nat) (hi:i<(c::cs).length),((c::cs).map λc=>(c.length:Int)).getD i 0=((c::cs)[i].length:Int):=λi hi=>by rw[C9,As,A3 hi];rfl
  refine⟨(c::cs)[b],?_,.inr ⟨Bo h1,λd hd=>?_⟩⟩
  .rw[As,A3 h1];rfl
  .obtain⟨i,hi,rfl⟩:=Gt.mp hd
   have:=h2 i hi
   rw[get i hi,get b h1]at this;omega
def ł{c:List Nat}{u:Nat}(h:c.getLast?=some u)(hc:c.length<=1000):lU (c.map z8) (-1)=some (z8 u):=by
 obtain⟨ys,rfl⟩:=He.mp h;unfold lU pD;rw[if_neg (by omega),if_pos (by rw[A0,Af,Ay];omega)]
 show ((ys++[u]).map z8)[(-1+(((ys++[u]).map z8).length:Int)).toNat]?=_;rw[A0,Af,Ay,show (-1+((ys.length+1:Nat):Int)).toNat=ys.length by omega,As];simp
def r8(r:List Int)(ts:List f8)(w:Bg)(t:Nat)(c:List Nat):Bool:=match c.getLast? with|some u=>i4 r ts w u t|none=>false
def SN:EO:=J8 (i8 5 (kX (Y2 [none,some 0,some 4,some 2] (kU 3) (u5 0) (y9 (x8 Q9 (z9 (jH (d8 (z7 1)) (jH (d8 (z7 0)) (n8 (dI 1)))) (z9 (jH (d8 (z7 1)) (z7 2)) (jT 3))))) (z7 0))))
 (qN 3 (d2 jN (AW (d8 (z7 5)) (jW i3)) (jW (jT 4))))
def Xh(h:kJ n ts r)(hk:KW k w){cs:List (List Nat)}{t:Nat}{c5:Option Cell}(ht:t<ts.length)(cS:cs.length<=12)(hc:∀c∈cs,c≠[]/\c.length<=12/\∀x∈c,x<ts.length):
  ∃b,yW (cs.filter (r8 r ts w t)) b/\SN [sC (lF r ts),sC tiesD,sC (.str k),some (.ow (cs.map jZ)),sC (z8 t),c5] =
   some (.nx [sC (lF r ts),sC tiesD,sC (.str k),some (.ow ((cs++[b++[t]]).map jZ)),sC (z8 t),sC (.lst ((cs.filter (r8 r ts w t)).map jZ))]):=by
 have e1:Y2 [none,some 0,some 4,some 2] (kU 3) (u5 0) (y9 (x8 Q9 (z9 (jH (d8 (z7 1)) (jH (d8 (z7 0)) (n8 (dI 1)))) (z9 (jH (d8 (z7 1)) (z7 2)) (jT 3))))) (z7 0)
   [sC (lF r ts),sC tiesD,sC (.str k),some (.ow (cs.map jZ)),sC (z8 t),c5]=some ((cs.filter (r8 r ts w t)).map jZ):=by
  refine(mT (ds:=cs.map jZ) rfl (by rw[A0];unfold f9;omega)).trans ?_
  refine(K8 (λY=>∃c0,Y=[c0,sC (lF r ts),sC (z8 t),sC (.str k)]) (λd=>match d with|.tup ds=>(match ds.getLast? with|some (.int u)=>i4 r ts w u.toNat t|_=>false)|_=>false) (λd=>d) _ _ ⟨none,rfl⟩ ?_).trans ?_
  .rintro d hd Y ⟨c0,rfl⟩;obtain⟨c,hcm,rfl⟩:=Ah.mp hd;obtain⟨h1,h2,h3⟩:=hc c hcm;refine⟨_,rfl,⟨_,rfl⟩,?_,λ_=>rfl⟩
   cases hl:c.getLast? with
   |none=>exact absurd (Hf.mp hl) h1
   |some u=>
    have hu:u<ts.length:=h3 u (List.mem_of_getLast? hl)
    have el:(c.map z8).getLast?=some (z8 u):=by obtain⟨ys,rfl⟩:=He.mp hl;simp
    show y9 _ _=some (match (c.map z8).getLast? with|some (.int u)=>i4 r ts w u.toNat t|_=>false);rw[el];show y9 _ _=some (i4 r ts w u t);refine v7 ?_;have a0:jH (d8 (z7 0)) (n8 (dI 1)) [sC (jZ c),sC (lF r ts),sC (z8 t),sC (.str k)]=some (z8 u):=(lY (ds:=c.map z8) (j:=-1) (sA rfl) rfl).trans (ł hl (by omega));have a1:jH (d8 (z7 1)) (jH (d8 (z7 0)) (n8 (dI 1))) [sC (jZ c),sC (lF r ts),sC (z8 t),sC (.str k)]=some (j0 (W9 r ts u)):=(lY (ds:=ts.map λt=>j0 (kL r t)) (j:=(u:Int)) (m9 rfl) a0).trans (xT hu)
    have a2:jH (d8 (z7 1)) (z7 2) [sC (jZ c),sC (lF r ts),sC (z8 t),sC (.str k)]=some (j0 (W9 r ts t)):=(lY (ds:=ts.map λt=>j0 (kL r t)) (j:=(t:Int)) (m9 rfl) rfl).trans (xT ht);exact(x6 (u3 a1 (u3 a2 (u3 (d:=.str k) rfl rfl)))).trans (O1 hk.tab _ _)
  .rw[Hb,Jj];refine congrArg (λl=>some (List.map jZ l)) (List.filter_congr λc hcm=>?_);show (match (c.map z8).getLast? with|some (.int u)=>i4 r ts w u.toNat t|_=>false)=r8 r ts w t c;unfold r8;rw[List.getLast?_map]
   cases c.getLast? with
   |none=>rfl
   |some u=>rfl
 obtain⟨b,eb,hb⟩:=OH (cs.filter (r8 r ts w t));refine⟨b,hb,?_⟩
 have hbl:b.length<=12:=by
  rcases hb with⟨_,rfl⟩|⟨hb,_⟩
  .exact Bh _
  .exact(hc b (Az.mp hb).1).2.1
 refine v5 (J4 (mR e1)) ?_;refine(LI (ds:=cs.map jZ) (d:=jZ (b++[t])) rfl ?_ (by rw[A0];unfold f9;omega)).trans ?_
 .refine(jI (x:=jZ b) (y:=jZ [t]) ?_ (pM (ds:=[z8 t]) rfl (show 1<=f9 by decide))).trans ?_
  .show yI ((cs.filter (r8 r ts w t)).map jZ) (jZ [])=some (jZ b);exact eb
  .show (if (b.map z8).length+([t].map z8).length<=f9 then some (D.tup (b.map z8++[t].map z8)) else none)=_;rw[if_pos (by rw[A0,A0,Ay];unfold f9;omega),<-B9]
   rfl
 .rw[B9];rfl
theorem Yo:r8 r ts w t c=true↔∃u,c.getLast?=some u/\i4 r ts w u t=true:=by
 unfold r8
 cases c.getLast? with
 |none=>exact⟨(λe=>by cases e),(λ⟨u,e,_⟩=>by cases e)⟩
 |some v=>exact⟨λe=>⟨v,rfl,e⟩,λ⟨u,e,q⟩=>by cases e;exact q⟩
def Uw(h:kJ n ts r)(hk:KW k w)(g:Nat):∃b:List Nat,DS [lF r ts,.lst ((kI r ts g).map z8),.str k]=some (jZ b) /\
  PW (i4 r ts w) b/\b.Sublist (kI r ts g)/\∀e:List Nat,e.Sublist (kI r ts g)->PW (i4 r ts w) e->e.length<=b.length:=by
 have hL:(kI r ts g).length<=12:=by
  have:=zM (kI r ts g) (Aa ts.length) (CQ g) λi hi=>Ap.mpr (qZ.mp hi).1
  rw[An]at this
  have:=h.m12
  omega
 obtain⟨Y',l1,cs,c4,c5,bM,az,rfl⟩:=xW (h:=u5 4) (g:=SN) (λpre Y=>∃cs c4 c5,tN (i4 r ts w) ((kI r ts g).take pre.length) cs/\cs.length=pre.length /\
   Y=[sC (lF r ts),sC (.lst ((kI r ts g).map z8)),sC (.str k),some (.ow (cs.map jZ)),c4,c5])
  (ds:=(kI r ts g).map z8) (Y:=[sC (lF r ts),sC (.lst ((kI r ts g).map z8)),sC (.str k),some (.ow []),none,none]) ⟨[],none,none,by rw[Bx,Ii];exact tN.zero,rfl,rfl⟩ (λpre d post Y he hI=>by
   obtain⟨cs,c4,c5,bM,az,rfl⟩:=hI;have ab:=congrArg Fz he;rw[A0,Af,Av]at ab
   have ah:pre.length<(kI r ts g).length:=by omega
   have hd:d=z8 (kI r ts g)[pre.length]:=by
    have h1:((kI r ts g).map z8)[pre.length]?=some d:=by rw[<-he];simp
    rw[As,A3 ah]at h1;exact(Bb h1).symm
   have ht:=(qZ.mp (Bo ah)).1
   have dJ:(kI r ts g).take pre.length++(kI r ts g)[pre.length]::(kI r ts g).drop (pre.length+1)=kI r ts g:=by rw[<-Ex ah,List.take_append_drop]
   have bt:(kI r ts g).take (pre.length+1)=(kI r ts g).take pre.length++[(kI r ts g)[pre.length]]:=(List.take_append_getElem ah).symm;generalize (kI r ts g)[pre.length]=t at hd ht dJ bt;subst hd
   have hok:∀c∈cs,c≠[]/\c.length<=12/\∀x∈c,x<ts.length:=λc hc=>by obtain⟨_,q2,q3⟩:=bM.ok c hc;have q4:c.Sublist (kI r ts g):=q2.trans (F7 _ _);exact⟨q3,B3 q4.length_le hL,λx hx=>(qZ.mp (q4.subset hx)).1⟩
   obtain⟨b,hb,e⟩:=Xh h hk (tiesD:=.lst ((kI r ts g).map z8)) (cs:=cs) (t:=t) (c5:=c5) ht (by omega) hok;refine⟨_,_,rfl,.inl e,⟨cs++[b++[t]],_,_,?_,?_,rfl⟩⟩
   .rw[Af,Ay,bt];obtain⟨b1,b2⟩:=yW.step (λc hc=>(hok c hc).1) hb (λc hc=>Yo (r:=r) (ts:=ts) (w:=w) (t:=t) (c:=c));exact bM.step (h.tr hk dJ) b1 b2
   .rw[Af,Af,az];rfl)
 rw[A0,Ha]at bM;obtain⟨b,eb,hb⟩:=OH cs;refine⟨b,?_,bM.best hb⟩;refine mG (x:=NV [sC (lF r ts),sC (.lst ((kI r ts g).map z8)),sC (.str k),none,none,none]) ?_;refine v5 (vK (ds:=[]) rfl) ?_;refine v5 ((mJ (ds:=(kI r ts g).map z8) rfl).trans l1) ?_;refine j7 ?_;show yI (cs.map jZ) (jZ [])=some (jZ b);exact eb
def YC(a b:List Nat):xN (jZ a) (jZ b)=some (jZ (if a.length<b.length then b else a)):=by
 have e:=SM;unfold xN;rw[e a,e b];dsimp only;by_cases hc:a.length<b.length
 .rw[if_pos hc,if_pos (by omega)]
 .rw[if_neg hc,if_neg (by omega)]
theorem zL:∀f:List Nat,lE (f.map z8)=some (f.map λ(i:Nat)=>(i:Int))
 | []=>rfl
 |a::f=>by
  rw[Aj];unfold z8 lE
  have:=zL f
  unfold z8 at this;rw[this];rfl
def XO(f:List Nat):sU (f.map λ(i:Nat)=>(i:Int))=(f.mergeSort λa b=>decide (a<=b)).map λ(i:Nat)=>(i:Int):=by
 unfold sU
 exact(List.map_mergeSort (r:=λ(a b:Nat)=>decide (a<=b)) (s:=λ(a b:Int)=>decide (a<=b)) (f:=λ(i:Nat)=>(i:Int)) (l:=f) (λa _ b _=>by
  by_cases hc:a<=b
  .rw[decide_eq_true hc,decide_eq_true (by omega)]
  .rw[decide_eq_false hc,decide_eq_false (by omega)])).symm
def XN(f:List Nat)(h:f.length<64):qI (f.map z8)=some ((f.mergeSort λa b=>decide (a<=b)).map z8):=by
 unfold qI;rw[if_pos (by rw[A0];exact h),zL]
 dsimp only;rw[XO,B8];rfl
def ź(f:List Nat)(hn:f.Nodup):(f.mergeSort λa b=>decide (a<=b)).Pairwise (· < ·):=by
 have h1:(f.mergeSort λa b=>decide (a<=b)).Pairwise λa b=>decide (a<=b)=true:=Dr (λa b c h1 h2=>by
  have:=of_decide_eq_true h1
  have:=of_decide_eq_true h2
  exact decide_eq_true (by omega)) (λa b=>by
  by_cases hc:a<=b
  .rw[decide_eq_true hc];rfl
  .rw[decide_eq_true (show b<=a by omega)];simp) _
 have h2:(f.mergeSort λa b=>decide (a<=b)).Nodup:=(Dh _ _).nodup_iff.mpr hn;refine(h1.and h2).imp λ{a b} q=>?_
 have:=of_decide_eq_true q.1
 have:=q.2
 omega
structure qT(m:Nat)(cl:Nat->Nat->Bool)(F:List Nat):Prop where
 up:F.Pairwise (· < ·)
 lt:∀x∈F,x<m
 pw:PW cl F
 top:∀S:List Nat,S.Nodup->(∀x∈S,x<m)->PW cl S->S.length<=F.length
def NC(h:kJ n ts r)(hk:KW k w):∃F:List Nat,yD [Y9 n ts,.tup (r.map D.int),.str k]=some (jZ F)/\qT ts.length (i4 r ts w) F:=by
 have hs:=HX (n:=n) h.nd h.rl h.hm' h.mem
 have hlo:0<=n:=by have:=h.len;omega
 have h6:=h.n6
 obtain⟨Y',l1,f,c5,hg,rfl⟩:=xW (h:=u5 5) (g:=i8 4 (d2 xN (z7 4) (x8 DS (z9 (z7 3) (z9 (x8 DD (kF 3 5)) (jT 2))))))
  (λpre Y=>∃f c5,tK ts.length (i4 r ts w) (kI r ts) pre.length f/\Y=[sC (Y9 n ts),sC (.tup (r.map D.int)),sC (.str k),sC (lF r ts),sC (jZ f),c5])
  (ds:=Q5 0 (n-1).toNat) (Y:=[sC (Y9 n ts),sC (.tup (r.map D.int)),sC (.str k),sC (lF r ts),sC (jZ []),none]) ⟨[],none,tK.zero,rfl⟩ (λpre d post Y he hI=>by
   obtain⟨f,c5,hg,rfl⟩:=hI;have ab:=congrArg Fz he;rw[qB,Af,Av]at ab
   have hd:d = .int (pre.length:Int):=by
    have h1:(Q5 0 (n-1).toNat)[pre.length]?=some d:=by rw[<-he];simp
    rw[KM (by omega)]at h1;exact(Bb h1).symm
   subst hd;obtain⟨b,e,hb⟩:=Uw h hk pre.length;refine⟨_,_,rfl,.inl (J4 (d:=jZ (if f.length<b.length then b else f)) ?_),⟨_,_,?_,rfl⟩⟩
   .refine(jI (x:=jZ f) (y:=jZ b) rfl ?_).trans (YC f b);refine(x6 (ds:=[lF r ts,.lst ((kI r ts pre.length).map z8),.str k]) (u3 rfl (u3 ?_ rfl))).trans e;exact(x6 (ds:=[lF r ts,.int (pre.length:Int)]) rfl).trans (VG h _)
   .rw[Af,Ay]
    exact hg.step (CQ _) (λx hx=>(qZ.mp hx).1) hb)
 rw[qB]at hg
 have hfl:f.length<=12:=by
  have:=zM f (Aa ts.length) hg.nd λi hi=>Ap.mpr (hg.lt i hi)
  rw[An]at this
  have:=h.m12
  omega
 have pm:(f.mergeSort λa b=>decide (a<=b)).Perm f:=Dh _ _;refine⟨f.mergeSort λa b=>decide (a<=b),?_,⟨ź f hg.nd,λx hx=>hg.lt x (pm.mem_iff.mp hx),Ŧ (λi j=>vO i j) hg.nd pm.symm hg.pw,λS hS hl hp=>?_⟩⟩
 .have fin:GY [sC (Y9 n ts),sC (.tup (r.map D.int)),sC (.str k),none,none,none]=some (.rt (jZ (f.mergeSort λa b=>decide (a<=b)))):=by
   refine v5 (J4 ((x6 (ds:=[Y9 n ts,.tup (r.map D.int)]) rfl).trans hs)) ?_;refine v5 (J4 (d:=jZ []) (pM (ds:=[]) rfl (show 0<=f9 by decide))) ?_;refine v5 ((mJ (ds:=Q5 0 (n-1).toNat) (vJ (j:=n-1) ((jI (x:=.int n) (y:=.int 1) rfl rfl).trans rfl) (by unfold mW;rw[decide_eq_true (by omega),decide_eq_true (by omega)];rfl))).trans l1) ?_
   refine j7 (xM ((MK (ds:=f.map z8) (sA rfl)).trans (XN f (by omega))))
  show lA (GY [sC (Y9 n ts),sC (.tup (r.map D.int)),sC (.str k),none,none,none])=_;rw[fin];rfl
 .rw[pm.length_eq];refine hg.all (λi j=>vO i j) (λg _=>CQ g) (λS hS hn hl hp=>?_) hS hl hp;obtain⟨g,g1,g2⟩:=h.helly hk hS hl hp;exact⟨g,by omega,g2⟩
end
end P
namespace P
open PySem L2
theorem K4{α:Type}[DecidableEq α]:∀(xs ys:List α),xs.Nodup->(∀x∈xs,x∈ys)->xs.length<=ys.length
 | [],_,_,_=>Bh _
 |x::xs,ys,hn,hs=>by
  have bj:=Bm.mp hn;have p:=List.perm_cons_erase (hs x A6)
  have ih:=K4 xs (ys.erase x) bj.2 λy hy=>by have ak:y≠x:=λe=>bj.1 (e▸hy);exact(Jd ak).mpr (hs y (A7 _ hy))
  have:=p.length_eq
  rw[Av]at this ⊢;omega
section
variable{cl:Nat->Nat->Bool}
structure CJ(cl:Nat->Nat->Bool)(m:Nat)(c:Nat->Nat)(K:Nat):Prop where
 lt:∀i,i<m->c i<K
 ne:∀i j,i<m->j<m->cl i j=true->c i≠c j
structure jU(cl:Nat->Nat->Bool)(G:List Nat)(K u:Nat)(P:List (Nat×Nat)):Prop where
 nd:(P.map B5).Nodup
 sub:∀x∈P,x.1∈G
 ok:∀x∈P,∀y∈P,cl x.1 y.1=true->x.2≠y.2
 use:∀v,(∃x∈P,x.2=v)↔v<u
 uK:u<=K
structure lD(cl:Nat->Nat->Bool)(G:List Nat)(c:Nat->Nat)(K:Nat):Prop where
 lt:∀i∈G,c i<K
 ne:∀i∈G,∀j∈G,cl i j=true->c i≠c j
def wZ(c:Nat->Nat)(P:List (Nat×Nat)):Prop:=∀x∈P,c x.1=x.2
variable{G:List Nat}{K u:Nat}{P:List (Nat×Nat)}
def jU.zero:jU cl G K 0 []:=⟨Dm,λx h=>by simp at h,λx h=>by simp at h,λv=>⟨λ⟨x,h,_⟩=>by simp at h,λh=>by omega⟩,Bh _⟩
def jU.add(h:jU cl G K u P)(hs:∀i j,cl i j=cl j i)(hr:∀i,cl i i=false){t v:Nat}(ht:t∈G)(hn:t∉P.map B5)(hv:v<=u)(hK:v<K)(aY:∀x∈P,cl t x.1=true->x.2≠v):
  jU cl G K (if v=u then u+1 else u) (P++[(t,v)]):=by
 refine⟨?_,λx hx=>?_,λx hx y hy hc=>?_,λw=>?_,by have:=h.uK;split<;>omega⟩
 .rw[B9,C5];refine⟨h.nd,by simp,λa ha b hb e=>?_⟩
  have:b=t:=by simpa using hb
  exact hn (this▸e▸ha)
 .rcases Aq.mp hx with z|z
  .exact h.sub x z
  .rw[Ae.mp z];exact ht
 .rcases Aq.mp hx with z|z<;>rcases Aq.mp hy with z'|z'
  .exact h.ok x z y z' hc
  .rw[Ae.mp z']at hc ⊢;exact aY x z (by rw[hs];exact hc)
  .rw[Ae.mp z]at hc ⊢;exact λe=>aY y z' hc e.symm
  .rw[Ae.mp z,Ae.mp z']at hc;rw[hr]at hc;cases hc
 .constructor
  .rintro ⟨x,hx,rfl⟩;rcases Aq.mp hx with z|z
   .have:=(h.use x.2).mp ⟨x,z,rfl⟩
    split<;>omega
   .rw[Ae.mp z];show v<_
    split<;>omega
  .intro hw;by_cases c:w=v
   .exact⟨(t,v),Ab _ (Ae.mpr rfl),c.symm⟩
   .obtain⟨x,hx,e⟩:=(h.use w).mpr (by split at hw<;>omega)
    exact⟨x,B4 _ hx,e⟩
def jU.try(h:jU cl G K u P)(hc:lD cl G c K)(he:wZ c P){t:Nat}(ht:t∈G)(hn:t∉P.map B5):
  ∃v,v<=u/\v<K/\(∀x∈P,cl t x.1=true->x.2≠v)/\∃c',lD cl G c' K/\wZ c' (P++[(t,v)]):=by
 have aE:∀c:Nat->Nat,lD cl G c K->wZ c P->c t<=u->∃v,v<=u/\v<K/\(∀x∈P,cl t x.1=true->x.2≠v)/\∃c',lD cl G c' K/\wZ c' (P++[(t,v)]):=λc hc he hu=>by
  refine⟨c t,hu,hc.lt t ht,λx hx az e=>hc.ne t ht x.1 (h.sub x hx) az (by rw[he x hx,e]),c,hc,λx hx=>?_⟩;rcases Aq.mp hx with z|z
  .exact he x z
  .rw[Ae.mp z]
 by_cases hu:c t<=u
 .exact aE c hc he hu
 .let sw:Nat->Nat:=λv=>if v=u then c t else if v=c t then u else v
  have inj:∀a b,sw a=sw b->a=b:=λa b e=>by simp only[sw]at e;split at e<;>split at e<;>(try split at e)<;>(try split at e)<;>omega
  refine aE (λi=>sw (c i)) ⟨λi hi=>?_,λi hi j hj az e=>hc.ne i hi j hj az (inj _ _ e)⟩ (λx hx=>?_) ?_
  .have:=hc.lt i hi
   have:=hc.lt t ht
   show (if c i=u then c t else if c i=c t then u else c i)<K;split
   .omega
   .split<;>omega
  .have hv:=(h.use x.2).mp ⟨x,hx,rfl⟩;show (if c x.1=u then c t else if c x.1=c t then u else c x.1)=x.2;rw[he x hx,if_neg (by omega),if_neg (by omega)]
  .show (if c t=u then c t else if c t=c t then u else c t)<=u;rw[if_neg (by omega),if_pos rfl];exact Ak _
def jU.full(h:jU cl G K u P)(hG:G.Nodup)(hl:P.length=G.length):∀t∈G,t∈P.map B5:=λt ht=>by
 by_cases c:t∈P.map B5
 .exact c
 .exfalso;have ay:(t::P.map B5).Nodup:=Bm.mpr ⟨c,h.nd⟩
  have ck:∀x∈t::P.map B5,x∈G:=λx hx=>by
   rcases Ad.mp hx with z|z
   .rw[z];exact ht
   .obtain⟨y,hy,rfl⟩:=Ah.mp z;exact h.sub y hy
  have:=K4 _ _ ay ck
  rw[Av,A0]at this;omega
end
end P
namespace P
open PySem L2 L3
def jD(P:List (Nat×Nat)):List f7:=P.map λx=>(Bv (x.1:Int):f7)
def jQ(P:List (Nat×Nat)):List D:=P.map λx=>z8 x.2
def e9(P:List (Nat×Nat)):D:=.dct (jD P) (jQ P)
theorem sK(t:Nat):∀P:List (Nat×Nat),kK (jD P) (jQ P) (Bv (t:Int))=(P.lookup t).map z8
 | []=>rfl
 | (a,b)::P=>by
  show (if (Bv (a:Int):f7)=Bv (t:Int) then some (z8 b) else kK (jD P) (jQ P) (Bv (t:Int)))=_;rw[Bi,sK t P];by_cases h:a=t
  .subst h;rw[if_pos rfl,beq_self_eq_true];rfl
  .rw[if_neg (λz=>h (by have:=Fy z;omega)),show (t==a)=false from by rw[beq_eq_false_iff_ne];exact Cw h]
theorem vQ{P:List (Nat×Nat)}(hn:(P.map B5).Nodup){t v:Nat}:P.lookup t=some v↔(t,v)∈P:=by
 induction P with
 |nil=>simp
 |cons x P ih=>
  obtain⟨a,b⟩:=x;rw[Aj]at hn;have bj:=Bm.mp hn;rw[Bi];by_cases h:t=a
  .subst h;rw[beq_self_eq_true];constructor
   .intro z;cases z;exact A6
   .intro z;rcases Ad.mp z with y|y
    .rw[(Gv y).2]
    .exact absurd (Bq (f:=B5) y) bj.1
  .rw[show (t==a)=false from by rw[beq_eq_false_iff_ne];exact h]
   dsimp only;rw[ih bj.2,Ad];exact⟨.inr,λz=>z.elim (λy=>absurd (Gv y).1 h) id⟩
theorem qC{P:List (Nat×Nat)}:(P.lookup t).isSome=decide (t∈P.map B5):=by
 induction P with
 |nil=>rfl
 |cons x P ih=>
  obtain⟨a,b⟩:=x;rw[Bi,Aj];by_cases h:t=a
  .subst h;rw[beq_self_eq_true,decide_eq_true A6];rfl
  .rw[show (t==a)=false from by rw[beq_eq_false_iff_ne];exact h]
   dsimp only;rw[ih];refine decide_eq_decide.mpr ⟨A7 _,λz=>(Ad.mp z).elim (λy=>absurd y h) id⟩
def CS{P:List (Nat×Nat)}(h:(P.map B5).Nodup):(jD P).Nodup:=by unfold jD;rw[Lb,Br]at *;exact h.imp λ{a b} q z=>q (by have:=Fy z;omega)
def ş{P:List (Nat×Nat)}{t:Nat}(h:t∉P.map B5):(Bv (t:Int):f7)∉jD P:=λz=>by
 obtain⟨x,hx,e⟩:=Ah.mp z
 have:x.1=t:=by have:=Fy e;omega
 exact h (this▸Bq hx)
def FS{P:List (Nat×Nat)}{t v:Nat}(h:t∉P.map B5):lJ (jD P) (jQ P) (Bv (t:Int)) (z8 v)=(jD (P++[(t,v)]),jQ (P++[(t,v)])):=by
 rw[EW _ _ _ _ (by unfold jD jQ;rw[A0,A0]) (ş h)]
 unfold jD jQ;rw[B9,B9];rfl
def i9(R:Nat->List Nat)(m:Nat):D:=.lst ((Aa m).map λi=>.lst ((R i).map z8))
def FH{R:Nat->List Nat}{m t:Nat}(h:t<m):lU ((Aa m).map λi=>D.lst ((R i).map z8)) (t:Int)=some (.lst ((R t).map z8)):=by unfold lU;rw[A0,An,BA h];show ((Aa m).map λi=>D.lst ((R i).map z8))[t]?=_;rw[As,Ei h];rfl
def lV(R:Nat->List Nat)(P:List (Nat×Nat))(t:Nat):List Nat:=((R t).filter λj=>decide (j∈P.map B5)).map λj=>(P.lookup j).getD 0
def CU{P:List (Nat×Nat)}(hn:(P.map B5).Nodup){t v:Nat}:v∈lV R P t↔∃x∈P,x.1∈R t/\x.2=v:=by
 unfold lV;rw[Ah];constructor
 .rintro ⟨j,hj,rfl⟩;obtain⟨h1,h2⟩:=Az.mp hj
  have h3:(P.lookup j).isSome=true:=by rw[qC];exact h2
  obtain⟨v,hv⟩:=Ct.mp h3;exact⟨(j,v),(vQ hn).mp hv,h1,by rw[hv];rfl⟩
 .rintro ⟨⟨j,v'⟩,hx,h1,rfl⟩;refine⟨j,Az.mpr ⟨h1,decide_eq_true (Bq (f:=B5) hx)⟩,?_⟩;rw[(vQ hn).mpr hx];rfl
def wK{α:Type}{f g:J5->Option α}(h:f Y=none):kZ f g Y=g Y:=by unfold kZ;rw[h]
def GW{R:Nat->List Nat}{m t:Nat}(ht:t<m)(hl:(R t).length<=1000):J6 [i9 R m,e9 P,z8 t]=some (.lst ((lV R P t).map z8)):=by
 refine mG (x:=N6 [sC (i9 R m),sC (e9 P),sC (z8 t)]) ?_;refine j7 (mR ((mT (ds:=(R t).map z8) (m9 ((lY (ds:=(Aa m).map λi=>D.lst ((R i).map z8)) (j:=(t:Int)) rfl rfl).trans (FH ht))) (by rw[A0];unfold f9;omega)).trans ?_))
 refine(K8 (λY=>∃c,Y=[c,sC (e9 P)]) (λd=>match d with|.int x=>(P.lookup x.toNat).isSome|_=>false) (λd=>match d with|.int x=>z8 ((P.lookup x.toNat).getD 0)|_=>.non) _ _ ⟨none,rfl⟩ ?_).trans ?_
 .rintro d hd Y ⟨c,rfl⟩;obtain⟨j,hj,rfl⟩:=Ah.mp hd;have lk:kK (jD P) (jQ P) (Bv (j:Int))=(P.lookup j).map z8:=sK j P;refine⟨_,rfl,⟨_,rfl⟩,(wK rfl).trans (v7 ?_),λhh=>?_⟩
  .show some (D.bl (kK (jD P) (jQ P) (Bv (j:Int))).isSome)=some (D.bl (P.lookup (j:Int).toNat).isSome);rw[lk,Ai,Ef]
  .show kK (jD P) (jQ P) (Bv (j:Int))=some (z8 ((P.lookup (j:Int).toNat).getD 0))
   have hh':(P.lookup j).isSome=true:=by
    have:(P.lookup (j:Int).toNat).isSome=true:=hh
    rw[Ai]at this;exact this
   obtain⟨v,hv⟩:=Ct.mp hh';rw[lk,Ai,hv];rfl
 .rw[xU (q:=λj=>decide (j∈P.map B5)) _ (λi _=>by
   show (P.lookup (i:Int).toNat).isSome=_
   rw[Ai,qC])]
  unfold lV;rw[B8,B8];rfl
def sX(vs:List Nat):Nat:=(nW (vs.map λ(i:Nat)=>(i:Int))).length
def DT{vs:List Nat}(hl:vs.length<=1000){d:D}(hd:d = .lst (vs.map z8)\/d = .tup (vs.map z8)):Y8 [d]=some (z8 (sX vs)):=by
 show lA (HQ [sC d])=_
 have hs:d8 (z7 0) [sC d]=some (vs.map z8):=by rcases hd with rfl|rfl<;>rfl
 have fin:HQ [sC d]=some (.rt (z8 (sX vs))):=by
  refine j7 ?_;unfold t9;rw[hs];dsimp only;rw[zL];dsimp only;rw[if_pos (by rw[A0];omega)]
  rfl
 rw[fin];rfl
def IT{vs:List Nat}{u:Nat}(h:∀v,v∈vs↔v<u):sX vs=u:=by
 unfold sX
 have h1:=K4 (nW (vs.map λ(i:Nat)=>(i:Int))) ((Aa u).map λ(i:Nat)=>(i:Int)) (DI _) λx hx=>by obtain⟨v,hv,rfl⟩:=Ah.mp (yC.mp hx);exact Bq (Ap.mpr ((h v).mp hv))
 have h2:=K4 ((Aa u).map λ(i:Nat)=>(i:Int)) (nW (vs.map λ(i:Nat)=>(i:Int))) (Br.mpr (Ds.imp λ{a b} q z=>q (by omega))) λx hx=>by obtain⟨v,hv,rfl⟩:=Ah.mp hx;exact yC.mpr (Bq ((h v).mpr (Ap.mp hv)))
 rw[A0,An]at h1 h2;omega
theorem PU(gt:Nat->Nat->Bool):∀(q j b:Nat),b<j->W2 gt q j b<j+q
 | 0,j,b,h=>h
 |q+1,j,b,h=>by
  unfold W2
  have:=PU gt q (j+1) (if gt j b=true then j else b) (by split<;>omega)
  omega
def zC(kf:Nat->List Int):D->D
 | .int x=>.tup ((kf x.toNat).map D.int)
 |_=>.non
def Nw{R:Nat->List Nat}{m:Nat}{G:List Nat}{P:List (Nat×Nat)}{gD:D}(hG:∀t∈G,t<m)(hr:∀t,t<m->(R t).length<=1000)(hGl:G.length<=50)(dg:∃t∈G,t∉P.map B5)(gR:gD = .lst (G.map z8)\/gD = .tup (G.map z8)):
  ∃t,DL [i9 R m,gD,e9 P]=some (z8 t)/\t∈G/\t∉P.map B5:=by
 let L:=G.filter λt=>!decide (t∈P.map B5)
 have hL:∀t∈L,t∈G/\t∉P.map B5:=λt ht=>by
  have:=Az.mp ht
  exact⟨this.1,by simpa using this.2⟩
 have hLl:L.length<=50:=B3 (D9 _ _) hGl
 have ak:L≠[]:=λe=>by
  obtain⟨t,h1,h2⟩:=dg
  have:t∈L:=Az.mpr ⟨h1,by simpa using h2⟩
  rw[e]at this;simp at this
 let kf:Nat->List Int:=λt=>[(sX (lV R P t):Int),((R t).length:Int)]
 have e1:Y2 [none,some 2] (d8 (z7 1)) (u5 0) (kZ (y9 (jS true (z7 0) (d8 (z7 1)))) (y9 (mN true (z7 0) (z7 1)))) (z7 0) [sC (i9 R m),sC gD,sC (e9 P),none]=some (L.map z8):=by
  refine(mT (ds:=G.map z8) (by rcases gR with rfl|rfl<;>rfl) (by rw[A0];unfold f9;omega)).trans ?_
  refine(K8 (λY=>∃c,Y=[c,sC (e9 P)]) (λd=>match d with|.int x=>!(P.lookup x.toNat).isSome|_=>false) (λd=>d) _ _ ⟨none,rfl⟩ ?_).trans ?_
  .rintro d hd Y ⟨c,rfl⟩;obtain⟨j,hj,rfl⟩:=Ah.mp hd;have lk:kK (jD P) (jQ P) (Bv (j:Int))=(P.lookup j).map z8:=sK j P;refine⟨_,rfl,⟨_,rfl⟩,(wK rfl).trans (v7 ?_),λ_=>rfl⟩;show some (D.bl (!(kK (jD P) (jQ P) (Bv (j:Int))).isSome))=some (D.bl (!(P.lookup (j:Int).toNat).isSome));rw[lk,Ai,Ef]
  .rw[Hb,xU (q:=λt=>!decide (t∈P.map B5)) _ (λi _=>by
    show (!(P.lookup (i:Int).toNat).isSome)=_
    rw[Ai,qC])]
 have ek:pB (jW (z9 (x8 Y8 (z9 (x8 J6 (kQ 1 2 0)) i3)) (z9 (jP (d8 (jH (d8 (z7 1)) (z7 0)))) i3))) [none,sC (i9 R m),sC (e9 P)] (L.map z8)=some ((L.map z8).map (zC kf)):=by
  refine ET _ λd hd=>?_;obtain⟨t,ht,rfl⟩:=Ah.mp hd;have ca:=hG t (hL t ht).1;have ft:=GW (P:=P) ca (hr t ca)
  have ah:(lV R P t).length<=1000:=by unfold lV;rw[A0];exact B3 (D9 _ _) (hr t ca)
  show jW _ [sC (z8 t),sC (i9 R m),sC (e9 P)]=some (D.tup ((kf (t:Int).toNat).map D.int));rw[Ai];refine pM (ds:=[z8 (sX (lV R P t)),z8 (R t).length]) (u3 ((x6 (ds:=[.lst ((lV R P t).map z8)]) (u3 ((x6 (ds:=[i9 R m,e9 P,z8 t]) rfl).trans ft) rfl)).trans (DT ah (.inl rfl))) (u3 ((l9 (ds:=(R t).map z8) (m9 ((lY (ds:=(Aa m).map λi=>D.lst ((R i).map z8)) (j:=(t:Int)) rfl rfl).trans (FH ca)))).trans (by rw[A0];rfl)) rfl)) (show 2<=f9 by decide)
 have hm:∃i,∃h:i<L.length,FX ((L.map z8).map (zC kf)) (L.map z8)=some (z8 L[i]):=by
  cases hLe:L with
  |nil=>exact absurd hLe ak
  |cons t L'=>
   have ei:lE (((t::L').map z8).map (zC kf))=none:=rfl
   have et:nI (((t::L').map z8).map (zC kf))=some ((t::L').map kf):=by
    have:=DC (nss:=(t::L').map kf) (λns h=>by
     obtain⟨u,_,rfl⟩:=Ah.mp h
     simp[kf])
    rw[B8]at this ⊢;exact this
   refine⟨W2 (xB ((t::L').map kf)) (((t::L').map z8).length-1) 1 0,?_,?_⟩
   .have:=PU (xB ((t::L').map kf)) (((t::L').map z8).length-1) 1 0 (by decide)
    rw[A0,Av]at this;rw[A0,Av];omega
   .show (match lE (((t::L').map z8).map (zC kf)) with
     |some ns=>rE (tE ns) ((t::L').map z8)
     |none=>(match nI (((t::L').map z8).map (zC kf)) with|some nss=>rE (xB nss) ((t::L').map z8)|none=>none))=_
    rw[ei];dsimp only;rw[et];dsimp only;unfold rE;rw[As,A3];rfl
 obtain⟨i,hi,em⟩:=hm;refine⟨L[i],?_,hL _ (Bo hi)⟩;refine mG (x:=NE [sC (i9 R m),sC gD,sC (e9 P),none]) ?_;refine v5 (J4 (mR e1)) ?_;refine j7 ?_;unfold EA;show (match pB _ [none,sC (i9 R m),sC (e9 P)] (L.map z8) with|some ks=>FX ks (L.map z8)|none=>none)=_;rw[ek];exact em
def Te(P:List (Nat×Nat)):jQ P=(P.map Kz).map z8:=by unfold jQ;rw[B8];rfl
def JR{P:List (Nat×Nat)}{K u:Nat}(hu:∀v,(∃x∈P,x.2=v)↔v<u)(hl:P.length<=1000)(hK:K<=1000):Y3 [e9 P,z8 K]=some (.lst ((Aa (Ew K (u+1))).map z8)):=by
 show lA (IF [sC (e9 P),sC (z8 K)])=_
 have hc:sX (P.map Kz)=u:=IT λv=>by rw[<-hu,Ah]
 have ul:u<=1000:=by
  by_cases c:u<=1000
  .exact c
  .exfalso
   have h2:=K4 (Aa u) (P.map Kz) Ds λv hv=>by obtain⟨x,hx,e⟩:=(hu v).mpr (Ap.mp hv);exact Ah.mpr ⟨x,hx,e⟩
   rw[An,A0]at h2;omega
 have fin:IF [sC (e9 P),sC (z8 K)]=some (.rt (.lst ((Aa (Ew K (u+1))).map z8))):=by
  refine j7 (mR ?_)
  have e1:x8 Y8 (z9 (kX (BK (z7 0))) i3) [sC (e9 P),sC (z8 K)]=some (z8 u):=by refine(x6 (ds:=[.lst (jQ P)]) rfl).trans ?_;rw[Te,DT (by rw[A0];exact hl) (.inl rfl),hc]
  have e2:x8 o9 (z9 (z7 1) (z9 (d2 jN (x8 Y8 (z9 (kX (BK (z7 0))) i3)) (dI 1)) i3)) [sC (e9 P),sC (z8 K)]=some (.int ((Ew K (u+1):Nat):Int)):=by refine(x6 (ds:=[D.int (K:Int),D.int ((u:Int)+1)]) (u3 rfl (u3 ((jI (x:=.int (u:Int)) (y:=.int 1) e1 rfl).trans rfl) rfl))).trans ((FQ _ _).trans ?_);congr 2;omega
  refine(GX e2 (by omega) (by omega)).trans ?_;rw[Ai];unfold lR;rw[B8];refine congrArg some (B6 λi _=>?_);show D.int (0+(i:Int))=D.int (i:Int);rw[Lc]
 rw[fin];rfl
def KL{P:List (Nat×Nat)}{t v:Nat}(hn:(P.map B5).Nodup)(ht:t∉P.map B5)(hl:P.length<=1000):sS [e9 P,z8 t,z8 v]=some (e9 (P++[(t,v)])):=by
 refine mG (x:=Py [sC (e9 P),sC (z8 t),sC (z8 v),none]) ?_;refine v5 (Y':=[sC (e9 P),sC (z8 t),sC (z8 v),some (.od (jD P) (jQ P))]) rfl ?_;refine v5 (Y':=[sC (e9 P),sC (z8 t),sC (z8 v),some (.od (jD (P++[(t,v)])) (jQ (P++[(t,v)])))]) ?_ rfl;show (if (jD P).Nodup/\(jD P).length<f9 then some (Out.nx [sC (e9 P),sC (z8 t),sC (z8 v),some (.od (lJ (jD P) (jQ P) (Bv (t:Int)) (z8 v)).1 (lJ (jD P) (jQ P) (Bv (t:Int)) (z8 v)).2)]) else none)=_
 rw[if_pos ⟨CS hn,by unfold jD;rw[A0];unfold f9;omega⟩,FS ht]
theorem P9(a:Nat):∀E:List Nat,nM (z8 a) (E.map z8)=decide (a∈E)
 | []=>by simp[nM]
 |b::E=>by
  have ih:=P9 a E;unfold nM at ih ⊢;rw[Aj,Ek,ih];show (((b:Int)==(a:Int))||decide (a∈E))=_;by_cases h:b=a
  .subst h;simp
  .have h':¬a=b:=λz=>h z.symm
   have h2:¬(b:Int)=(a:Int):=by omega
   simp[h2,h']
theorem O3:∀S:List Nat,Z8 (S.map z8)=0
 | []=>by simp[Z8]
 |a::S=>by rw[Aj,Z8,O3 S];simp[z8,depth]
def LM{fa:ED}{fl:EL}{E:List Nat}(ng:Bool)(h1:fa Y=some (z8 a))(h2:fl Y=some (E.map z8)):jS ng fa fl Y=some (.bl (if ng=true then !decide (a∈E) else decide (a∈E))):=by
 refine(wH h1 h2 (by rw[O3];decide) (by simp[z8,depth,jK])).trans ?_
 rw[P9]
def yF(a b:Nat):kM (z8 a) (z8 b)=some (.bl (decide (a=b))):=by
 unfold kM;rw[if_pos (by simp[z8,depth,jK])];show some (D.bl ((a:Int)==(b:Int)))=_;congr 2;by_cases h:a=b
 .subst h;simp
 .have:¬(a:Int)=(b:Int):=by omega
  simp[h,this]
def qY{h:D->J5->Option J5}{g:EO}{ds:List D}{Y Y1 Y2:J5}(h1:h d Y=some Y1)(h2:g Y1=some (.nx Y2)):kH h g (d::ds) Y=kH h g ds Y2:=by
 conv=>lhs;unfold kH
 rw[h1];dsimp only;rw[h2]
def Rh{h:D->J5->Option J5}{g:EO}{ds:List D}{Y Y1:J5}(h1:h d Y=some Y1)(h2:g Y1=some (.rt v)):kH h g (d::ds) Y=some (.rt v):=by unfold kH;rw[h1];dsimp only;rw[h2]
structure jJ(cl:Nat->Nat->Bool)(m:Nat)(R:Nat->List Nat):Prop where
 sy:∀i j,cl i j=cl j i
 ir:∀i,cl i i=false
 mem:∀t,t<m->∀j,j∈R t↔j<m/\cl t j=true
 len:∀t,t<m->(R t).length<=1000
 m12:m<=12
structure mZ(m:Nat)(G:List Nat):Prop where
 nd:G.Nodup
 lt:∀t∈G,t<m
def mZ.len(h:mZ m G):G.length<=m:=by
 have:=K4 G (Aa m) h.nd λt ht=>Ap.mpr (h.lt t ht)
 rw[An]at this;exact this
section
variable{cl:Nat->Nat->Bool}{m K u:Nat}{R:Nat->List Nat}{G:List Nat}{P:List (Nat×Nat)}
def jU.len(h:jU cl G K u P):P.length<=G.length:=by
 have:=K4 (P.map B5) G h.nd λt ht=>by obtain⟨x,hx,rfl⟩:=Ah.mp ht;exact h.sub x hx
 rw[A0]at this;exact this
def sI(Fr:LD):EO:=
 (jL (y9 (jS true (z7 6) (d8 (z7 5))))
 (J8 (i8 7 (x8 Fr (z9 (z7 0) (z9 (z7 1) (z9 (x8 sS (kQ 2 4 6)) (jT 3))))))
 (jL (y9 (d2 rR (z7 7) (dC .non)))
 (jB (z7 7))
 Y1))
 Y1)
def o5(R:Nat->List Nat)(m:Nat)(G:List Nat)(P:List (Nat×Nat))(K t:Nat)(c6 c7:Option Cell):J5:=[sC (i9 R m),sC (.lst (G.map z8)),sC (e9 P),sC (z8 K),sC (z8 t),sC (.lst ((lV R P t).map z8)),c6,c7]
def BV(cl:Nat->Nat->Bool)(G:List Nat)(K:Nat)(P:List (Nat×Nat))(res:D):Prop:=(res = .non/\∀c,lD cl G c K->¬wZ c P)\/∃P' u',res=e9 P'/\jU cl G K u' P'/\P'.length=G.length
theorem Rc(hg:jJ cl m R)(hG:mZ m G)(h:jU cl G K u P){t:Nat}(ht:t∈G)(hn:t∉P.map B5){Fr:LD}(hF:∀(P':List (Nat×Nat)) (u':Nat),jU cl G K u' P'->P'.length=P.length+1->∃res,Fr [i9 R m,.lst (G.map z8),e9 P',z8 K]=some res/\BV cl G K P' res):
  ∀(vs:List Nat) (c6 c7:Option Cell),(∀v∈vs,v<=u/\v<K) ->
   (∃P' u',kH (u5 6) (sI Fr) (vs.map z8) (o5 R m G P K t c6 c7)=some (.rt (e9 P'))/\jU cl G K u' P'/\P'.length=G.length) \/
   (∃bZ cu,kH (u5 6) (sI Fr) (vs.map z8) (o5 R m G P K t c6 c7)=some (.nx (o5 R m G P K t bZ cu))/\∀v∈vs,v∉lV R P t->∀c,lD cl G c K->¬wZ c (P++[(t,v)]))
 | [],c6,c7,_=>.inr ⟨c6,c7,rfl,λv hv=>by simp at hv⟩
 |v::vs,c6,c7,hv=>by
  have ca:=hG.lt t ht
  have pl:P.length<=1000:=by have:=h.len;have:=hG.len;have:=hg.m12;omega
  have gw:=hv v A6;have rest:=Rc hg hG h ht hn hF vs;have e1:y9 (jS true (z7 6) (d8 (z7 5))) (o5 R m G P K t (sC (z8 v)) c7)=some (!decide (v∈lV R P t)):=v7 (LM true rfl rfl);by_cases c:v∈lV R P t
  .rw[decide_eq_true c]at e1;have st:kH (u5 6) (sI Fr) ((v::vs).map z8) (o5 R m G P K t c6 c7)=kH (u5 6) (sI Fr) (vs.map z8) (o5 R m G P K t (sC (z8 v)) c7):=qY rfl ((K9 e1).trans rfl);rw[st];rcases rest (sC (z8 v)) c7 (λw hw=>hv w (A7 _ hw)) with z|⟨a,b,z1,z2⟩
   .exact .inl z
   .refine .inr ⟨a,b,z1,λw hw gu=>?_⟩;rcases Ad.mp hw with y|y
    .subst y;exact absurd c gu
    .exact z2 w y gu
  .rw[decide_eq_false c]at e1;have aY:∀x∈P,cl t x.1=true->x.2≠v:=λx hx hc e=>c ((CU h.nd).mpr ⟨x,hx,(hg.mem t ca x.1).mpr ⟨hG.lt _ (h.sub x hx),hc⟩,e⟩);have hp:=h.add hg.sy hg.ir ht hn gw.1 gw.2 aY;obtain⟨res,er,hT⟩:=hF _ _ hp (by rw[Af,Ay]);have ew:=KL (v:=v) h.nd hn pl
   have es:i8 7 (x8 Fr (z9 (z7 0) (z9 (z7 1) (z9 (x8 sS (kQ 2 4 6)) (jT 3))))) (o5 R m G P K t (sC (z8 v)) c7)=some (.nx (o5 R m G P K t (sC (z8 v)) (sC res))):=(J4 (d:=res) ((x6 (ds:=[i9 R m,.lst (G.map z8),e9 (P++[(t,v)]),z8 K]) (u3 rfl (u3 rfl (u3 ((x6 (ds:=[e9 P,z8 t,z8 v]) rfl).trans ew) rfl)))).trans er)).trans rfl
   rcases hT with⟨rfl,bL⟩|⟨P',u',rfl,hP',cq⟩
   .have st:kH (u5 6) (sI Fr) ((v::vs).map z8) (o5 R m G P K t c6 c7)=kH (u5 6) (sI Fr) (vs.map z8) (o5 R m G P K t (sC (z8 v)) (sC .non)):=qY rfl ((K9 e1).trans (v5 es ((K9 (a:=false) (v7 rfl)).trans rfl)))
    rw[st];rcases rest (sC (z8 v)) (sC .non) (λw hw=>hv w (A7 _ hw)) with z|⟨a,b,z1,z2⟩
    .exact .inl z
    .refine .inr ⟨a,b,z1,λw hw gu=>?_⟩;rcases Ad.mp hw with y|y
     .subst y;exact bL
     .exact z2 w y gu
   .exact .inl ⟨P',u',Rh rfl ((K9 e1).trans (v5 es ((K9 (a:=true) (v7 rfl)).trans rfl))),hP',cq⟩
theorem HP(hg:jJ cl m R)(hG:mZ m G)(hK:K<=1000):∀(q:Nat) (P:List (Nat×Nat)) (u:Nat),jU cl G K u P->G.length<q+P.length ->
  ∃res,Q8 q [i9 R m,.lst (G.map z8),e9 P,z8 K]=some res/\BV cl G K P res
 | 0,P,u,h,hq=>by have:=h.len;omega
 |q+1,P,u,h,hq=>by
  have hl:=h.len;have gl:=hG.len;have m12:=hg.m12
  have e0:y9 (d2 kM (wD (z7 2)) (jP (d8 (z7 1)))) [sC (i9 R m),sC (.lst (G.map z8)),sC (e9 P),sC (z8 K),none,none,none,none]=some (decide (P.length=G.length)):=by
   refine v7 ((jI (x:=z8 P.length) (y:=z8 G.length) ?_ ((l9 (ds:=G.map z8) rfl).trans (by rw[A0];rfl))).trans (yF _ _))
   show some (D.int ((jD P).length:Int))=_;unfold jD;rw[A0];rfl
  by_cases c:P.length=G.length
  .rw[decide_eq_true c]at e0;refine⟨e9 P,?_,.inr ⟨P,u,rfl,h,c⟩⟩;show lA (yA (Q8 q) [sC (i9 R m),sC (.lst (G.map z8)),sC (e9 P),sC (z8 K),none,none,none,none])=_;rw[show yA (Q8 q) [sC (i9 R m),sC (.lst (G.map z8)),sC (e9 P),sC (z8 K),none,none,none,none]=some (.rt (e9 P)) from mL ((K9 e0).trans rfl)];rfl
  .rw[decide_eq_false c]at e0
   have dg:∃t∈G,t∉P.map B5:=by
    by_cases hh:∃t∈G,t∉P.map B5
    .exact hh
    .exfalso
     have:=K4 G (P.map B5) hG.nd λt ht=>by
      by_cases z:t∈P.map B5
      .exact z
      .exact absurd ⟨t,ht,z⟩ hh
     rw[A0]at this;omega
   obtain⟨t,eh,ht,hn⟩:=Nw (R:=R) (P:=P) hG.lt hg.len (by omega) dg (.inl rfl);have ca:=hG.lt t ht;have et:=GW (P:=P) ca (hg.len t ca);have ey:=JR (K:=K) h.use (by omega) hK
   have pre:∀o,J8 (lG (d8 (x8 Y3 (kF 2 3))) (u5 6) (sI (Q8 q))) (jB (dC .non)) (o5 R m G P K t none none)=o->yA (Q8 q) [sC (i9 R m),sC (.lst (G.map z8)),sC (e9 P),sC (z8 K),none,none,none,none]=o:=λo ho=>by refine v5 ((K9 e0).trans rfl) ?_;refine v5 (J4 (d:=z8 t) ((x6 (ds:=[i9 R m,.lst (G.map z8),e9 P]) rfl).trans eh)) ?_;exact v5 (J4 (d:=.lst ((lV R P t).map z8)) ((x6 (ds:=[i9 R m,e9 P,z8 t]) rfl).trans et)) ho
   have iI:lG (d8 (x8 Y3 (kF 2 3))) (u5 6) (sI (Q8 q)) (o5 R m G P K t none none)=kH (u5 6) (sI (Q8 q)) ((Aa (Ew K (u+1))).map z8) (o5 R m G P K t none none):=mJ (m9 ((x6 (ds:=[e9 P,z8 K]) rfl).trans ey))
   rcases Rc hg hG h ht hn (Fr:=Q8 q) (λP' u' hP' cq=>HP hg hG hK q P' u' hP' (by omega)) (Aa (Ew K (u+1))) none none (λv hv=>by have:=Ap.mp hv;omega) with⟨P',u',z1,z2,z3⟩|⟨c6,c7,z1,z2⟩
   .refine⟨e9 P',?_,.inr ⟨P',u',rfl,z2,z3⟩⟩;show lA (yA (Q8 q) [sC (i9 R m),sC (.lst (G.map z8)),sC (e9 P),sC (z8 K),none,none,none,none])=_;rw[pre _ (mL (iI.trans z1))];rfl
   .refine⟨.non,?_,.inl ⟨rfl,λcc hc he=>?_⟩⟩
    .show lA (yA (Q8 q) [sC (i9 R m),sC (.lst (G.map z8)),sC (e9 P),sC (z8 K),none,none,none,none])=_;rw[pre (some (.rt .non)) (v5 (iI.trans z1) (j7 rfl))];rfl
    .obtain⟨v,v1,v2,v3,c',c1,c2⟩:=h.try hc he ht hn;refine z2 v (Ap.mpr (by omega)) (λhm=>?_) c' c1 c2;obtain⟨x,hx,hxr,e⟩:=(CU h.nd).mp hm;exact v3 x hx ((hg.mem t ca x.1).mp hxr).2 e
end
section
variable{cl:Nat->Nat->Bool}{m:Nat}{R:Nat->List Nat}
def wL(cl:Nat->Nat->Bool)(m:Nat)(G:List Nat):Prop:=∀x∈G,∀j,j<m->cl x j=true->j∈G
def TJ(cl:Nat->Nat->Bool)(m t:Nat)(G:List Nat):Prop:=∀A:Nat->Prop,(∀x j,x<m->j<m->A x->cl x j=true->A j)->¬A t->∀x∈G,¬A x
structure GI(cl:Nat->Nat->Bool)(m t:Nat)(R:Nat->List Nat)(G:List Nat)(k:Nat):Prop where
 gr:mZ m G
 kl:k<=G.length
 has:t∈G
 clo:∀i,i<k->∀x,G[i]?=some x->∀j∈R x,j∈G
 aw:TJ cl m t G
def Sw:EB:=y9 (d2 pE (z7 3) (jP (kU 2)))
def Sv:EO:=
 (J8 (rQ 2 (Y2 [none,some 2] (d8 (jH (d8 (z7 0)) (jH (kU 2) (z7 3)))) (u5 0) (y9 (jS true (z7 0) (kU 1))) (z7 0)))
 (yO 3 (dI 1)))
def uY(R:Nat->List Nat)(m t:Nat)(G:List Nat)(k:Nat):J5:=[sC (i9 R m),sC (z8 t),some (.ow (G.map z8)),sC (z8 k)]
def WX(t:Nat)(G:List Nat)(k:Nat):Sw (uY R m t G k)=some (decide (k<G.length)):=by
 refine v7 ((jI (x:=z8 k) (y:=z8 G.length) rfl ((l9 (ds:=G.map z8) rfl).trans (by rw[A0];rfl))).trans ?_)
 show some (D.bl (decide ((k:Int)<(G.length:Int))))=_;congr 2;exact decide_eq_decide.mpr (by omega)
def WW(hg:jJ cl m R)(ay:∀t,t<m->(R t).Nodup)(h:GI cl m t R G k)(hk:k<G.length):∃G',Sv (uY R m t G k)=some (.nx (uY R m t G' (k+1)))/\GI cl m t R G' (k+1):=by
 have hx:G[k]<m:=h.gr.lt _ (Bo hk);have m12:=hg.m12;have gl:=h.gr.len
 let new:=(R G[k]).filter λj=>!decide (j∈G)
 have e1:Y2 [none,some 2] (d8 (jH (d8 (z7 0)) (jH (kU 2) (z7 3)))) (u5 0) (y9 (jS true (z7 0) (kU 1))) (z7 0) (uY R m t G k)=some (new.map z8):=by
  have ei:jH (kU 2) (z7 3) (uY R m t G k)=some (z8 G[k]):=by refine(lY (ds:=G.map z8) (j:=(k:Int)) rfl rfl).trans ?_;unfold lU;rw[A0,BA hk];show (G.map z8)[k]?=_;rw[As,A3 hk];rfl
  refine(mT (ds:=(R G[k]).map z8) (m9 ((lY (ds:=(Aa m).map λi=>D.lst ((R i).map z8)) (j:=(G[k]:Int)) rfl ei).trans (FH hx))) (by rw[A0];have:=hg.len _ hx;unfold f9;omega)).trans ?_
  refine(K8 (λY=>∃c,Y=[c,some (.ow (G.map z8))]) (λd=>match d with|.int x=>!decide (x.toNat∈G)|_=>false) (λd=>d) _ _ ⟨none,rfl⟩ ?_).trans ?_
  .rintro d hd Y ⟨c,rfl⟩;obtain⟨j,hj,rfl⟩:=Ah.mp hd;refine⟨_,rfl,⟨_,rfl⟩,v7 ((LM true rfl rfl).trans ?_),λ_=>rfl⟩;show some (D.bl (!decide (j∈G)))=some (D.bl (!decide ((j:Int).toNat∈G)));rw[Ai]
  .rw[Hb,xU (q:=λj=>!decide (j∈G)) _ (λi _=>by
    show (!decide ((i:Int).toNat∈G))=_
    rw[Ai])]
 have bE:∀j∈new,(j<m/\cl G[k] j=true)/\j∉G:=λj hj=>by
  have:=Az.mp hj
  exact⟨(hg.mem _ hx j).mp this.1,by simpa using this.2⟩
 have gr':mZ m (G++new):=by
  refine⟨?_,λx aG=>?_⟩
  .rw[C5];refine⟨h.gr.nd,(ay _ hx).sublist Fk,λa ha b hb e=>(bE b hb).2 (e▸ha)⟩
  .rcases Aq.mp aG with z|z
   .exact h.gr.lt x z
   .exact(bE x z).1.1
 refine⟨G++new,?_,gr',by rw[Af];omega,B4 _ h.has,λi hi x aG j hj=>?_,λA hA hn x aG=>?_⟩
 .have gl':=gr'.len;rw[Af]at gl';refine v5 (Y':=uY R m t (G++new) k) ((LJ (ds:=G.map z8) rfl e1 (by rw[A0,A0];unfold f9;omega)).trans ?_) ?_
  .rw[<-B9];rfl
  .show some (Out.nx [sC (i9 R m),sC (z8 t),some (.ow ((G++new).map z8)),sC (.int ((k:Int)+1))])=_;rfl
 .by_cases c:i<k
  .rw[E3 (by omega)]at aG;exact B4 _ (h.clo i c x aG j hj)
  .have:i=k:=by omega
   subst this;rw[E3 hk,A3 hk]at aG;cases aG;by_cases d:j∈G
   .exact B4 _ d
   .exact Ab _ (Az.mpr ⟨hj,by simpa using d⟩)
 .rcases Aq.mp aG with z|z
  .exact h.aw A hA hn x z
  .intro hax;have hq:=bE x z;refine h.aw A hA hn _ (Bo hk) (hA x _ hq.1.1 hx hax ?_);rw[hg.sy];exact hq.1.2
theorem QW(hg:jJ cl m R)(ay:∀t,t<m->(R t).Nodup):∀(f:Nat) (G:List Nat) (k:Nat),GI cl m t R G k->m<f+k->∃G',oV f Sw Sv (uY R m t G k)=some (.nx (uY R m t G' G'.length))/\GI cl m t R G' G'.length
 | 0,G,k,h,hf=>by
  have:=h.kl
  have:=h.gr.len
  omega
 |f+1,G,k,h,hf=>by
  unfold oV;rw[WX];by_cases c:k<G.length
  .rw[decide_eq_true c];obtain⟨G',e,h'⟩:=WW hg ay h c;dsimp only;rw[e];exact QW hg ay f G' (k+1) h' (by omega)
  .rw[decide_eq_false c]
   have:k=G.length:=by have:=h.kl;omega
   subst this;exact⟨G,rfl,h⟩
def X5(hg:jJ cl m R)(ay:∀t,t<m->(R t).Nodup){t:Nat}(ht:t<m):∃G,DQ [i9 R m,z8 t]=some (.lst (G.map z8))/\mZ m G/\t∈G/\wL cl m G/\TJ cl m t G:=by
 have h0:GI cl m t R [t] 0:=⟨⟨Da _ _,λx hx=>by rw[Ae.mp hx];exact ht⟩,Bh _,Ae.mpr rfl,λi hi=>absurd hi (F5 _),λA _ hn x hx=>by rw[Ae.mp hx];exact hn⟩
 obtain⟨G,e,h⟩:=QW hg ay 200 [t] 0 h0 (by have:=hg.m12;omega)
 refine⟨G,?_,h.gr,h.has,λx hx j hj hc=>?_,h.aw⟩
 .show lA (IE [sC (i9 R m),sC (z8 t),none,none])=_
  have fin:IE [sC (i9 R m),sC (z8 t),none,none]=some (.rt (.lst (G.map z8))):=by refine v5 (vK (ds:=[z8 t]) (tU rfl (show 1<=f9 by decide))) ?_;refine v5 (J4 (d:=z8 0) rfl) ?_;exact v5 e rfl
  rw[fin];rfl
 .obtain⟨i,hi,e'⟩:=Dj hx;exact h.clo i hi x (by rw[A3 hi,e']) j ((hg.mem x (h.gr.lt x hx) j).mpr ⟨hj,hc⟩)
structure Nu(cl:Nat->Nat->Bool)(m:Nat)(Gs:List (List Nat))(gd:List Nat):Prop where
 gr:∀G∈Gs,mZ m G/\wL cl m G
 dis:Gs.Pairwise λG G'=>∀x∈G,x∉G'
 nd:gd.Nodup
 mem:∀x,x∈gd↔∃G∈Gs,x∈G
def oA(gd:List Nat):List f7:=gd.map λ(x:Nat)=>(Bv (x:Int):f7)
def rV(gd:List Nat):List D:=gd.map λ_=>D.bl true
def o8(R:Nat->List Nat)(m:Nat)(Gs:List (List Nat))(gd:List Nat)(c3 c4:Option Cell):J5:=[sC (i9 R m),some (.ow (Gs.map λG=>.lst (G.map z8))),some (.od (oA gd) (rV gd)),c3,c4]
theorem Ql(t:Nat):∀gd:List Nat,(kK (oA gd) (rV gd) (Bv (t:Int))).isSome=decide (t∈gd)
 | []=>rfl
 |a::gd=>by
  show (if (Bv (a:Int):f7)=Bv (t:Int) then some (D.bl true) else kK (oA gd) (rV gd) (Bv (t:Int))).isSome=_;by_cases h:a=t
  .subst h;rw[if_pos rfl];simp
  .rw[if_neg (λz=>h (by have:=Fy z;omega)),Ql t gd]
   have h':¬t=a:=λz=>h z.symm;simp[h']
def Ĥ{gd:List Nat}{t:Nat}(h:t∉gd):lJ (oA gd) (rV gd) (Bv (t:Int)) (.bl true)=(oA (gd++[t]),rV (gd++[t])):=by
 rw[EW _ _ _ _ (by unfold oA rV;rw[A0,A0]) (λz=>by
  obtain⟨x,hx,e⟩:=Ah.mp z
  have:x=t:=by have:=Fy e;omega
  exact h (this▸hx))]
 unfold oA rV;rw[B9,B9];rfl
def XT{gd:List Nat}(h:gd.Nodup):(oA gd).Nodup:=by unfold oA;exact Br.mpr (h.imp λ{a b} q z=>q (by have:=Fy z;omega))
theorem Pz:∀(G gd:List Nat) (c4:Option Cell),(gd++G).Nodup->(gd++G).length<=1000->∃bJ,kH (u5 4) (nK 2 (z7 4) (dC (.bl true))) (G.map z8) (o8 R m Gs gd c3 c4)=some (.nx (o8 R m Gs (gd++G) c3 bJ))
 | [],gd,c4,_,_=>⟨c4,by rw[Ci];rfl⟩
 |t::G,gd,c4,hn,hl=>by
  have bj:((gd++[t])++G).Nodup:=by rw[Co];exact hn
  have cq:((gd++[t])++G).length<=1000:=by rw[Co];exact hl
  obtain⟨bJ,e⟩:=Pz (Gs:=Gs) (c3:=c3) G (gd++[t]) (sC (z8 t)) bj cq;have ht:t∉gd:=λz=>(C5.mp hn).2.2 t z t A6 rfl;have hgd:=(C5.mp hn).1
  have st:nK 2 (z7 4) (dC (.bl true)) (o8 R m Gs gd c3 (sC (z8 t)))=some (.nx (o8 R m Gs (gd++[t]) c3 (sC (z8 t)))):=by
   show (if (oA gd).Nodup/\(oA gd).length<f9 then some (Out.nx [sC (i9 R m),some (.ow (Gs.map λG=>.lst (G.map z8))),some (.od (lJ (oA gd) (rV gd) (Bv (t:Int)) (.bl true)).1 (lJ (oA gd) (rV gd) (Bv (t:Int)) (.bl true)).2),c3,sC (z8 t)]) else none)=_;rw[Af]at hl;rw[if_pos ⟨XT hgd,by unfold oA;rw[A0];unfold f9;omega⟩,Ĥ ht]
   rfl
  refine⟨bJ,?_⟩;rw[Aj,qY rfl st,e,Co];rfl
def Sz:EO:=
 (jL (y9 (yP true (z7 3) 2))
 (J8 (qN 1 (x8 DQ (kF 0 3)))
 (lG (d8 (jH (kU 1) (n8 (dI 1)))) (u5 4)
 (nK 2 (z7 4) (dC (.bl true)))))
 Y1)
def WY(hg:jJ cl m R)(ay:∀t,t<m->(R t).Nodup)(h:Nu cl m Gs gd)(hGl:Gs.length<=100){t:Nat}(ht:t<m){c4:Option Cell}:
  ∃iL gP bJ,Sz (o8 R m Gs gd (sC (z8 t)) c4)=some (.nx (o8 R m iL gP (sC (z8 t)) bJ))/\Nu cl m iL gP/\iL.length<=Gs.length+1/\(∀x∈gd,x∈gP)/\t∈gP:=by
 have e0:y9 (yP true (z7 3) 2) (o8 R m Gs gd (sC (z8 t)) c4)=some (!decide (t∈gd)):=by refine v7 ?_;show some (D.bl (!(kK (oA gd) (rV gd) (Bv (t:Int))).isSome))=_;rw[Ql]
 by_cases c:t∈gd
 .rw[decide_eq_true c]at e0;exact⟨Gs,gd,c4,(K9 e0).trans rfl,h,Dq _,λx hx=>hx,c⟩
 .rw[decide_eq_false c]at e0;obtain⟨G,eG,g1,g2,g3,g4⟩:=X5 hg ay ht
  have bR:∀x∈G,x∉gd:=g4 (λx=>x∈gd) (λx j hx hj hA hc=>by
   obtain⟨G',bc,aG⟩:=(h.mem x).mp hA
   exact(h.mem j).mpr ⟨G',bc,(h.gr G' bc).2 x aG j hj hc⟩) c
  have hn:(gd++G).Nodup:=by rw[C5];exact⟨h.nd,g1.nd,λa ha b hb e=>bR b hb (e▸ha)⟩
  have m12:=hg.m12
  have ah:∀x∈gd++G,x<m:=λx hx=>by
   rcases Aq.mp hx with z|z
   .obtain⟨G',bc,aG⟩:=(h.mem x).mp z;exact(h.gr G' bc).1.lt x aG
   .exact g1.lt x z
  have hl:(gd++G).length<=1000:=by
   have:=K4 _ (Aa m) hn λx hx=>Ap.mpr (ah x hx)
   rw[An]at this;omega
  obtain⟨bJ,el⟩:=Pz (R:=R) (m:=m) (Gs:=Gs++[G]) (c3:=sC (z8 t)) G gd c4 hn hl;refine⟨Gs++[G],gd++G,bJ,?_,⟨λG' bc=>?_,?_,hn,λx=>?_⟩,by rw[Af,Ay];exact Ak _,λx hx=>B4 _ hx,Ab _ g2⟩
  .refine(K9 e0).trans ?_;rw[if_pos (by decide)];refine v5 (Y':=o8 R m (Gs++[G]) gd (sC (z8 t)) c4) ((LI (ds:=Gs.map λG=>D.lst (G.map z8)) (d:=.lst (G.map z8)) rfl ((x6 (ds:=[i9 R m,z8 t]) rfl).trans eG) (by rw[A0];unfold f9;omega)).trans ?_) ?_
   .unfold o8;rw[B9];rfl
   .refine(mJ (ds:=G.map z8) (m9 ((lY (ds:=(Gs++[G]).map λG=>D.lst (G.map z8)) (j:=-1) rfl rfl).trans ?_))).trans el;unfold lU pD;rw[A0,Af,Ay,if_neg (by decide),if_pos (by omega)];show ((Gs++[G]).map λG=>D.lst (G.map z8))[(-1+((Gs.length+1:Nat):Int)).toNat]?=_;rw[show (-1+((Gs.length+1:Nat):Int)).toNat=Gs.length by omega,As,List.getElem?_concat_length]
    rfl
  .rcases Aq.mp bc with z|z
   .exact h.gr G' z
   .rw[Ae.mp z];exact⟨g1,g3⟩
  .rw[Cq];refine⟨h.dis,Da _ _,λG' bc G2 hG2 x hx=>?_⟩;rw[Ae.mp hG2];exact λz=>bR x z ((h.mem x).mpr ⟨G',bc,hx⟩)
  .rw[Aq,h.mem];constructor
   .rintro (⟨G',bc,hx⟩|hx)
    .exact⟨G',B4 _ bc,hx⟩
    .exact⟨G,Ab _ (Ae.mpr rfl),hx⟩
   .rintro ⟨G',bc,hx⟩;rcases Aq.mp bc with z|z
    .exact .inl ⟨G',z,hx⟩
    .rw[Ae.mp z]at hx;exact .inr hx
def Pp(hg:jJ cl m R)(ay:∀t,t<m->(R t).Nodup):∃Gs:List (List Nat),AB [i9 R m]=some (.lst (Gs.map λG=>.lst (G.map z8)))/\(∀G∈Gs,mZ m G/\wL cl m G)/\(Gs.Pairwise λG G'=>∀x∈G,x∉G')/\(∀t,t<m->∃G∈Gs,t∈G)/\Gs.length<=m:=by
 have m12:=hg.m12
 obtain⟨Y',l1,Gs,gd,c3,c4,rfl,h,hl,cn⟩:=xW (h:=u5 3) (g:=Sz) (λpre Y=>∃(Gs:List (List Nat)) (gd:List Nat) (c3 c4:Option Cell),Y=o8 R m Gs gd c3 c4/\Nu cl m Gs gd/\Gs.length<=pre.length/\∀t,t<pre.length->t∈gd)
  (ds:=Q5 0 m) (Y:=o8 R m [] [] none none) ⟨[],[],none,none,rfl,⟨λG hG=>by simp at hG,Ed,Dm,λx=>by simp⟩,Ak _,λt ht=>absurd ht (F5 _)⟩ (λpre d post Y he hI=>by
   obtain⟨Gs,gd,c3,c4,rfl,h,hl,cn⟩:=hI;have ab:=congrArg Fz he;rw[qB,Af,Av]at ab
   have hd:d=z8 pre.length:=by
    have h1:(Q5 0 m)[pre.length]?=some d:=by rw[<-he];simp
    rw[KM (by omega)]at h1;exact(Bb h1).symm
   subst hd;obtain⟨iL,gP,bJ,e,h',l',s',t'⟩:=WY hg ay h (by omega) (show pre.length<m by omega) (c4:=c4);refine⟨_,_,rfl,.inl e,iL,gP,_,bJ,rfl,h',by rw[Af,Ay];omega,λt ht=>?_⟩
   rw[Af,Ay]at ht;by_cases c:t=pre.length
   .rw[c];exact t'
   .exact s' t (cn t (by omega)))
 refine⟨Gs,?_,h.gr,h.dis,λt ht=>(h.mem t).mp (cn t (by rw[qB];exact ht)),by rw[qB]at hl;exact hl⟩
 refine mG (x:=Px [sC (i9 R m),none,none,none,none]) ?_;refine v5 (vK (ds:=[]) (tU (ds:=[]) rfl (by decide))) ?_;refine v5 (Y':=o8 R m [] [] none none) rfl ?_;refine v5 ((mJ (ds:=Q5 0 m) ?_).trans l1) rfl;have e4:=vJ (fa:=jP (d8 (z7 0))) (Y:=o8 R m [] [] none none) (j:=(((Aa m).map λi=>D.lst ((R i).map z8)).length:Int)) rfl (by rw[A0,An];unfold mW;rw[decide_eq_true (by omega),decide_eq_true (by omega)];rfl)
 rw[A0,An,Ai]at e4;exact e4
def rL(cl:Nat->Nat->Bool)(m K:Nat):Prop:=∀c K',CJ cl m c K'->K<=K'
def IY{G:List Nat}{i j:Nat}(hi:i∈G)(hj:j∈G)(e:G.idxOf i=G.idxOf j):i=j:=by
 have l1:G.idxOf i<G.length:=Cf hi;have l2:G.idxOf j<G.length:=Cf hj
 have g1:G[G.idxOf i]?=some i:=by rw[A3 l1,Hx]
 have g2:G[G.idxOf j]?=some j:=by rw[A3 l2,Hx]
 rw[e,g2]at g1;exact(Bb g1).symm
def Í(hg:jJ cl m R){G:List Nat}{K:Nat}(h:G.length<=K):lD cl G (λi=>G.idxOf i) K:=by
 refine⟨λi hi=>?_,λi hi j hj hc e=>?_⟩
 .have:=Cf hi
  omega
 .have:=IY hi hj e
  subst this;rw[hg.ir]at hc;cases hc
def rL.up(h:rL cl m K)(hG:mZ m G)(bL:∀c,¬lD cl G c K):rL cl m (K+1):=λc K' hc=>by
 have h1:=h c K' hc;by_cases e:K'=K
 .exfalso;subst e;exact bL c ⟨λi hi=>hc.lt i (hG.lt i hi),λi hi j hj az=>hc.ne i j (hG.lt i hi) (hG.lt j hj) az⟩
 .omega
def MB:ED:=x8 (Q8 12) (z9 (z7 0) (z9 (z7 3) (z9 (oC (λ_=>some ([],[]))) (jT 1))))
def o6(R:Nat->List Nat)(m K:Nat)(P:List (Nat×Nat))(c3 c4:Option Cell):J5:=[sC (i9 R m),sC (z8 K),some (.od (jD P) (jQ P)),c3,c4]
def Qg(hg:jJ cl m R)(hG:mZ m G)(hm:m<=11){K:Nat}(hK:K<=1000){c4:Option Cell}:∃res,MB (o6 R m K P (sC (.lst (G.map z8))) c4)=some res/\BV cl G K [] res:=by
 obtain⟨res,e,h⟩:=HP hg hG hK 12 [] 0 jU.zero (by have:=hG.len;rw[Bx];omega)
 exact⟨res,(x6 (ds:=[i9 R m,.lst (G.map z8),e9 [],z8 K]) rfl).trans e,h⟩
def FG:EB:=y9 (d2 qQ (z7 4) (dC .non))
def MW:EO:=J8 (yO 1 (dI 1)) (i8 4 MB)
theorem TD(hg:jJ cl m R)(hG:mZ m G)(hm:m<=11):∀(f K:Nat) (res:D),BV cl G K [] res->K<=m->rL cl m K->m+1<f+K ->
  ∃K' P' u',oV f FG MW (o6 R m K P (sC (.lst (G.map z8))) (sC res))=some (.nx (o6 R m K' P (sC (.lst (G.map z8))) (sC (e9 P'))))/\jU cl G K' u' P'/\P'.length=G.length/\rL cl m K'/\K<=K'/\K'<=m
 | 0,K,res,hT,hK,hL,hf=>by omega
 |f+1,K,res,hT,hK,hL,hf=>by
  unfold oV;rcases hT with⟨rfl,bL⟩|⟨P',u',rfl,hP,hl⟩
  .have e0:FG (o6 R m K P (sC (.lst (G.map z8))) (sC .non))=some true:=rfl;rw[e0];dsimp only
   have eB:∀c,¬lD cl G c K:=λc hc=>bL c hc λx hx=>by simp at hx
   have hKm:K<m:=by
    by_cases z:K<m
    .exact z
    .exact absurd (Í hg (by have:=hG.len;omega)) (eB _)
   obtain⟨iR,er,hT'⟩:=Qg hg hG hm (K:=K+1) (by omega) (P:=P) (c4:=sC .non)
   have eb:MW (o6 R m K P (sC (.lst (G.map z8))) (sC .non))=some (.nx (o6 R m (K+1) P (sC (.lst (G.map z8))) (sC iR))):=v5 (Y':=o6 R m (K+1) P (sC (.lst (G.map z8))) (sC .non)) rfl ((J4 er).trans rfl)
   rw[eb];obtain⟨K',P',u',e,z1,z2,z3,z4,z5⟩:=TD hg hG hm f (K+1) iR hT' (by omega) (hL.up hG eB) (by omega);exact⟨K',P',u',e,z1,z2,z3,by omega,z5⟩
  .have e0:FG (o6 R m K P (sC (.lst (G.map z8))) (sC (e9 P')))=some false:=rfl;rw[e0];exact⟨K,P',u',rfl,hP,hl,hL,Ak _,hK⟩
theorem Ri:∀(P' P:List (Nat×Nat)),((P++P').map B5).Nodup->pO (jD P) (jQ P) (jD P') (jQ P')=(jD (P++P'),jQ (P++P'))
 | [],P,_=>by rw[Ci];unfold jD jQ;cases P<;>rfl
 | (t,v)::P',P,hn=>by
  have bj:(((P++[(t,v)])++P').map B5).Nodup:=by rw[Co];exact hn
  have ht:t∉P.map B5:=λz=>by rw[B9,C5]at hn;exact hn.2.2 t z t (by simp) rfl
  have ih:=Ri P' (P++[(t,v)]) bj;show pO (lJ (jD P) (jQ P) (Bv (t:Int)) (z8 v)).1 (lJ (jD P) (jQ P) (Bv (t:Int)) (z8 v)).2 (jD P') (jQ P')=_;rw[FS ht];dsimp only;rw[ih,Co];rfl
structure PI(cl:Nat->Nat->Bool)(m:Nat)(done:List (List Nat))(K:Nat)(P:List (Nat×Nat)):Prop where
 nd:(P.map B5).Nodup
 mem:∀x,x∈P.map B5↔∃G∈done,x∈G
 ok:∀x∈P,∀y∈P,cl x.1 y.1=true->x.2≠y.2
 lt:∀x∈P,x.2<K
 least:rL cl m K
 Km:K<=m
def RW:EO:=
 (J8 (i8 4 MB)
 (J8 (oV 200 FG MW)
 (FW 2 (z7 4))))
def ä(hg:jJ cl m R)(hm:m<=11){done:List (List Nat)}(hd:∀G'∈done,mZ m G'/\wL cl m G')(hG:mZ m G/\wL cl m G)(bR:∀G'∈done,∀x∈G',x∉G)(h:PI cl m done K P){c4:Option Cell}:
  ∃K' P' bJ,RW (o6 R m K P (sC (.lst (G.map z8))) c4)=some (.nx (o6 R m K' P' (sC (.lst (G.map z8))) bJ))/\PI cl m (done++[G]) K' P':=by
 have m12:=hg.m12;obtain⟨res,e1,hT⟩:=Qg hg hG.1 hm (K:=K) (by have:=h.Km;omega) (P:=P) (c4:=c4)
 obtain⟨K',P',u',e2,hP,hl,hL,hKK,hKm⟩:=TD hg hG.1 hm (P:=P) 200 K res hT h.Km h.least (by omega)
 have hx:∀x∈P',x.1∉P.map B5:=λx hx z=>by obtain⟨G',bc,aG⟩:=(h.mem x.1).mp z;exact bR G' bc x.1 aG (hP.sub x hx)
 have ay:((P++P').map B5).Nodup:=by rw[B9,C5];refine⟨h.nd,hP.nd,λa ha b hb e=>?_⟩;obtain⟨x,aG,rfl⟩:=Ah.mp hb;exact hx x aG (e▸ha)
 have ab:(P++P').length<=1000:=by
  have:=K4 ((P++P').map B5) (Aa m) ay λx aG=>by
   rw[B9,Aq]at aG;rcases aG with z|z
   .obtain⟨G',bc,fF⟩:=(h.mem x).mp z;exact Ap.mpr ((hd G' bc).1.lt x fF)
   .obtain⟨y,hy,rfl⟩:=Ah.mp z;exact Ap.mpr (hG.1.lt _ (hP.sub y hy))
  rw[A0,An]at this;omega
 have sep:∀x∈P,∀y∈P',cl x.1 y.1=true->False:=λx aG y hy hc=>by obtain⟨G',bc,fF⟩:=(h.mem x.1).mp (Bq aG);exact bR G' bc y.1 ((hd G' bc).2 x.1 fF y.1 (hG.1.lt _ (hP.sub y hy)) hc) (hP.sub y hy)
 refine⟨K',P++P',sC (e9 P'),?_,ay,λx=>?_,λx aG y hy hc=>?_,λx aG=>?_,hL,hKm⟩
 .refine v5 (J4 e1) (v5 e2 ?_);show (if (jD P).Nodup/\(jD P).length+(jD P').length<=f9 then some (Out.nx [sC (i9 R m),sC (z8 K'),some (.od (pO (jD P) (jQ P) (jD P') (jQ P')).1 (pO (jD P) (jQ P) (jD P') (jQ P')).2),sC (.lst (G.map z8)),sC (e9 P')]) else none)=_;rw[Af]at ab;rw[if_pos ⟨CS h.nd,by unfold jD;rw[A0,A0];unfold f9;omega⟩,Ri P' P ay]
  rfl
 .rw[B9,Aq,h.mem];constructor
  .rintro (⟨G',bc,aG⟩|aG)
   .exact⟨G',B4 _ bc,aG⟩
   .obtain⟨y,hy,rfl⟩:=Ah.mp aG;exact⟨G,Ab _ (Ae.mpr rfl),hP.sub y hy⟩
  .rintro ⟨G',bc,aG⟩;rcases Aq.mp bc with z|z
   .exact .inl ⟨G',z,aG⟩
   .rw[Ae.mp z]at aG;exact .inr (hP.full hG.1.nd hl x aG)
 .rcases Aq.mp aG with z|z<;>rcases Aq.mp hy with z'|z'
  .exact h.ok x z y z' hc
  .exact absurd hc λhc=>sep x z y z' hc
  .exact absurd hc λhc=>sep y z' x z (by rw[hg.sy];exact hc)
  .exact hP.ok x z y z' hc
 .rcases Aq.mp aG with z|z
  .have:=h.lt x z
   omega
  .have:=(hP.use x.2).mp ⟨x,z,rfl⟩
   have:=hP.uK
   omega
theorem OL(hg:jJ cl m R)(hm:m<=11):∀(Gs done:List (List Nat)) (K:Nat) (P:List (Nat×Nat)) (c3 c4:Option Cell),(∀G'∈done++Gs,mZ m G'/\wL cl m G')->((done++Gs).Pairwise λG G'=>∀x∈G,x∉G')->PI cl m done K P ->
  ∃K' P' fm bJ,kH (u5 3) RW (Gs.map λG=>.lst (G.map z8)) (o6 R m K P c3 c4)=some (.nx (o6 R m K' P' fm bJ))/\PI cl m (done++Gs) K' P'
 | [],done,K,P,c3,c4,_,_,h=>⟨K,P,c3,c4,rfl,by rw[Ci];exact h⟩
 |G::Gs,done,K,P,c3,c4,hd,bR,h=>by
  have e0:done++G::Gs=(done++[G])++Gs:=by rw[Co];rfl
  obtain⟨K1,P1,c41,e1,h1⟩:=ä hg hm (done:=done) (G:=G) (λG' bc=>hd G' (B4 _ bc)) (hd G (Ab _ A6)) (λG' bc=>(Cq.mp bR).2.2 G' bc G A6) h (c4:=c4);rw[e0]at hd bR ⊢;obtain⟨K2,P2,c32,c42,e2,h2⟩:=OL hg hm Gs (done++[G]) K1 P1 (sC (.lst (G.map z8))) c41 hd bR h1;exact⟨K2,P2,c32,c42,by rw[Aj];exact(qY rfl e1).trans e2,h2⟩
structure oP(cl:Nat->Nat->Bool)(m K:Nat)(P:List (Nat×Nat)):Prop where
 nd:(P.map B5).Nodup
 mem:∀x,x∈P.map B5↔x<m
 ok:∀x∈P,∀y∈P,cl x.1 y.1=true->x.2≠y.2
 lt:∀x∈P,x.2<K
 least:rL cl m K
def Ww(hg:jJ cl m R)(ay:∀t,t<m->(R t).Nodup)(hm:m<=11){K:Nat}(hK:K<=m)(hL:rL cl m K):∃K' P,DJ [i9 R m,z8 K]=some (e9 P)/\oP cl m K' P:=by
 obtain⟨Gs,e0,g1,g2,g3,_⟩:=Pp hg ay;obtain⟨K',P,c3,c4,e1,h⟩:=OL hg hm Gs [] K [] none none g1 g2 ⟨Dm,λx=>by simp,λx hx=>by simp at hx,λx hx=>by simp at hx,hL,hK⟩;refine⟨K',P,?_,h.nd,λx=>?_,h.ok,h.lt,h.least⟩
 .show lA (HR [sC (i9 R m),sC (z8 K),none,none,none])=_
  have fin:HR [sC (i9 R m),sC (z8 K),none,none,none]=some (.rt (e9 P)):=by refine v5 (Y':=o6 R m K [] none none) rfl ?_;exact v5 ((mJ (m9 ((x6 (ds:=[i9 R m]) rfl).trans e0))).trans e1) rfl
  rw[fin];rfl
 .rw[h.mem];constructor
  .rintro ⟨G,hG,hx⟩;exact(g1 G hG).1.lt x hx
  .exact λhx=>g3 x hx
end
def NS(m:Nat)(cl:Nat->Nat->Bool)(k:Nat):w8 m cl (k+1)=w8 m cl k++(((Aa (m-(k+1))).map λq=>k+1+q).filter (cl k)).map λ(j:Nat)=>((k:Int),(j:Int)):=by unfold w8;rw[Lg,List.flatMap_append,List.flatMap_singleton]
def Sl:EO:=J8 (i8 7 (kX (Y2 [none,some 6,some 3,some 2] (uQ (d2 jN (z7 5) (dI 1)) (jP (d8 (z7 3)))) (u5 0) (y9 (x8 Q9 (z9 (z7 1) (z9 (jH (d8 (z7 2)) (z7 0)) (jT 3))))) (z7 0))))
 (rQ 4 (Y2 [none,some 5] (d8 (z7 7)) (u5 0) mQ (jW (kF 1 0))))
abbrev uW(W R:D)(k:Bg)(sp found:List D)(c5 c6 c7:Option Cell):J5:=[sC W,sC R,sC (.str k),sC (.lst sp),some (.ow found),c5,c6,c7]
def WL{W R:D}{k w:Bg}(hk:zE.lookup k=some w){r:List Int}{ts:List f8}{i:Nat}{found:List f8}{c7:Option Cell}(hi:i<ts.length)(hm:ts.length<=12)(hf:found.length<=1000):
  ∃cu,Sl (uW W R k (ts.map λt=>j0 (kL r t)) (found.map j0) (sC (.int (i:Int))) (sC (j0 (W9 r ts i))) c7) =
   some (.nx (uW W R k (ts.map λt=>j0 (kL r t)) ((found++(((Aa (ts.length-(i+1))).map λq=>i+1+q).filter (i4 r ts w i)).map λ(j:Nat)=>((i:Int),(j:Int))).map j0) (sC (.int (i:Int))) (sC (j0 (W9 r ts i))) cu)):=by
 generalize ejs:((Aa (ts.length-(i+1))).map λq=>i+1+q)=js
 have hjs:∀j∈js,j<ts.length:=λj hj=>by
  rw[<-ejs]at hj;obtain⟨q,hq,rfl⟩:=Ah.mp hj
  have:=Ap.mp hq
  omega
 have hjl:js.length<=12:=by rw[<-ejs,A0,An];omega
 have e0:uQ (d2 jN (z7 5) (dI 1)) (jP (d8 (z7 3))) (uW W R k (ts.map λt=>j0 (kL r t)) (found.map j0) (sC (.int (i:Int))) (sC (j0 (W9 r ts i))) c7)=some (js.map λ(j:Nat)=>D.int (j:Int)):=by
  have:=ņ (fa:=d2 jN (z7 5) (dI 1)) (fb:=jP (d8 (z7 3))) (Y:=uW W R k (ts.map λt=>j0 (kL r t)) (found.map j0) (sC (.int (i:Int))) (sC (j0 (W9 r ts i))) c7) (i:=(i:Int)+1) (j:=((ts.map λt=>j0 (kL r t)).length:Int)) rfl rfl
   (by unfold mW;rw[decide_eq_true (by omega),decide_eq_true (by omega)];rfl) (by rw[A0];unfold mW;rw[decide_eq_true (by omega),decide_eq_true (by omega)];rfl)
  rw[this,<-ejs,A0,B8,show ((ts.length:Int)-((i:Int)+1)).toNat=ts.length-(i+1) by omega];unfold Q5;rfl
 have e1:Y2 [none,some 6,some 3,some 2] (uQ (d2 jN (z7 5) (dI 1)) (jP (d8 (z7 3)))) (u5 0) (y9 (x8 Q9 (z9 (z7 1) (z9 (jH (d8 (z7 2)) (z7 0)) (jT 3))))) (z7 0) (uW W R k (ts.map λt=>j0 (kL r t)) (found.map j0) (sC (.int (i:Int))) (sC (j0 (W9 r ts i))) c7) =
   some ((js.filter (i4 r ts w i)).map λ(j:Nat)=>D.int (j:Int)):=by
  refine(mT e0 (by rw[A0];unfold f9;omega)).trans ?_
  refine(K8 (λY=>∃c0,Y=[c0,sC (j0 (W9 r ts i)),sC (.lst (ts.map λt=>j0 (kL r t))),sC (.str k)]) (λd=>match d with|.int j=>i4 r ts w i j.toNat|_=>false) id _ _ ⟨none,rfl⟩ ?_).trans ?_
  .rintro d hd Y ⟨c0,rfl⟩;obtain⟨j,hj,rfl⟩:=Ah.mp hd;refine⟨_,rfl,⟨_,rfl⟩,v7 ?_,λ_=>rfl⟩;refine(x6 (ds:=[j0 (W9 r ts i),j0 (W9 r ts j),.str k]) (u3 rfl (u3 ((lY (ds:=ts.map λt=>j0 (kL r t)) rfl rfl).trans (xT (hjs j hj))) rfl))).trans ?_;rw[O1 hk];show some (D.bl (i4 r ts w i j))=some (D.bl (i4 r ts w i (j:Int).toNat));rw[Ai]
  .rw[Ib,Jj];rfl
 refine⟨sC (.lst ((js.filter (i4 r ts w i)).map λ(j:Nat)=>D.int (j:Int))),v5 (J4 (mR e1)) ?_⟩
 have e2:Y2 [none,some 5] (d8 (z7 7)) (u5 0) mQ (jW (kF 1 0)) (uW W R k (ts.map λt=>j0 (kL r t)) (found.map j0) (sC (.int (i:Int))) (sC (j0 (W9 r ts i))) (sC (.lst ((js.filter (i4 r ts w i)).map λ(j:Nat)=>D.int (j:Int))))) =
   some (((js.filter (i4 r ts w i)).map λ(j:Nat)=>((i:Int),(j:Int))).map j0):=by
  refine(mT (ds:=(js.filter (i4 r ts w i)).map λ(j:Nat)=>D.int (j:Int)) rfl (by rw[A0];have:=D9 (i4 r ts w i) js;unfold f9;omega)).trans ?_
  refine(uN (λY=>∃c0,Y=[c0,sC (.int (i:Int))]) (λd=>.tup [.int (i:Int),d]) _ _ ⟨none,rfl⟩ ?_).trans ?_
  .rintro d hd Y ⟨c0,rfl⟩;exact⟨_,rfl,⟨_,rfl⟩,pM (ds:=[.int (i:Int),d]) rfl (show 2<=f9 by decide)⟩
  .rw[B8,B8];rfl
 refine(LJ (ds:=found.map j0) rfl e2 ?_).trans ?_
 .rw[A0,A0,A0]
  have:=D9 (i4 r ts w i) js
  unfold f9;omega
 .rw[B9];rfl
theorem P0{k w:Bg}(hk:zE.lookup k=some w){ts:List f8}(hm:ts.length<=12):∀(gy:List f8) (i:Nat) (c5 c6 c7:Option Cell),ts.drop i=gy->i+gy.length=ts.length->(w8 ts.length (i4 r ts w) i).length<=i*12 ->
  ∃fu bZ cu,kH (qE 2 (mH (u5 5) (mH (u5 6) (qD)))) Sl (lS i (gy.map λt=>j0 (kL r t))) (uW W R k (ts.map λt=>j0 (kL r t)) ((w8 ts.length (i4 r ts w) i).map j0) c5 c6 c7) =
   some (.nx (uW W R k (ts.map λt=>j0 (kL r t)) ((w8 ts.length (i4 r ts w) ts.length).map j0) fu bZ cu))
 | [],i,c5,c6,c7,hd,hl,hp=>by
  have:i=ts.length:=by simpa using hl
  subst this;exact⟨c5,c6,c7,rfl⟩
 |t::gy,i,c5,c6,c7,hd,hl,hp=>by
  rw[Av]at hl
  have hi:i<ts.length:=by omega
  have ht:ts[i]?=some t:=by rw[<-List.head?_drop,hd];rfl
  obtain⟨cu,e⟩:=WL (W:=W) (R:=R) hk (r:=r) (ts:=ts) (i:=i) (found:=w8 ts.length (i4 r ts w) i) (c7:=c7) hi hm (by omega);rw[<-NS]at e
  have bn:ts.drop (i+1)=gy:=by rw[<-List.drop_drop,hd];rfl
  have fJ:(w8 ts.length (i4 r ts w) (i+1)).length<=(i+1)*12:=by
   rw[NS,Af,A0]
   have:=D9 (i4 r ts w i) ((Aa (ts.length-(i+1))).map λq=>i+1+q)
   rw[A0,An]at this;omega
  obtain⟨d5,d6,d7,ih⟩:=P0 hk hm gy (i+1) (sC (.int (i:Int))) (sC (j0 (W9 r ts i))) cu bn (by omega) fJ;refine⟨d5,d6,d7,?_⟩;rw[Aj];rw[<-vM (r:=r) ht];exact(qY rfl e).trans ih
def Nv{k w:Bg}(hk:zE.lookup k=some w){ts:List f8}{r:List Int}(hn:r.Nodup)(hr:r.length<=1000)(ht:ts.length<=12)(hm:∀t∈ts,t.1∈r/\t.2∈r):
  xX [Y9 n ts,.tup (r.map D.int),.str k]=some (.tup ((w8 ts.length (i4 r ts w) ts.length).map j0)):=by
 obtain⟨c5,c6,c7,e⟩:=P0 (W:=Y9 n ts) (R:=.tup (r.map D.int)) hk (r:=r) (ts:=ts) ht ts 0 none none none rfl (by omega) (by unfold w8;simp)
 refine mG (x:=Ou [sC (Y9 n ts),sC (.tup (r.map D.int)),sC (.str k),none,none,none,none,none]) ?_;refine v5 (J4 ((x6 (ds:=[Y9 n ts,.tup (r.map D.int)]) rfl).trans (HX hn hr (by omega) hm))) ?_;refine v5 (vK (ds:=[]) (tU (ds:=[]) rfl (by decide))) ?_;refine v5 ((mJ (ds:=lS 0 (ts.map λt=>j0 (kL r t))) rfl).trans e) ?_;exact j7 (xM rfl)
def other(i:Nat)(q:Nat×Nat):Option Nat:=if q.1=i then some q.2 else if q.2=i then some q.1 else none
def nL(qs:List (Nat×Nat))(i:Nat):List Nat:=qs.filterMap (other i)
def vB(l:List Nat):List Int:=l.map λ(j:Nat)=>(j:Int)
def XM{α:Type}(f:Nat->α)(x:α):((Aa m).map f).set a x=(Aa m).map λi=>if i=a then x else f i:=by
 apply List.ext_getElem?;intro i;rw[List.getElem?_set,As];by_cases hi:i<m
 .rw[As,Ei hi];by_cases c:a=i
  .subst c;rw[if_pos rfl,if_pos (by rw[A0,An];exact hi)]
   simp
  .rw[if_neg c]
   have:¬i=a:=λz=>c z.symm
   simp[this]
 .have hn:(Aa m)[i]?=none:=Gi (by rw[An];omega)
  rw[As,hn];by_cases c:a=i
  .subst c;rw[if_pos rfl,if_neg (by rw[A0,An];exact hi)]
   rfl
  .rw[if_neg c];rfl
def ON{m a b:Nat}(f:Nat->List Int)(h:a<m):pC ((Aa m).map f) a b=(Aa m).map λi=>if i=a then f i++[(b:Int)] else f i:=by
 unfold pC
 have:((Aa m).map f).getD a []=f a:=by rw[C9,As,Ei h];rfl
 rw[this,XM];refine B6 λi _=>?_;by_cases c:i=a
 .subst c;simp
 .rw[if_neg c,if_neg c]
theorem QU{m:Nat}:∀(qs:List (Nat×Nat)) (f:Nat->List Nat),(∀q∈qs,q.1<m/\q.2<m/\q.1≠q.2)->qs.foldl sW ((Aa m).map λi=>vB (f i))=(Aa m).map λi=>vB (f i++nL qs i)
 | [],f,_=>by rw[List.foldl_nil];refine B6 λi _=>?_;unfold nL;rw[List.filterMap_nil,Ci]
 |q::qs,f,h=>by
  have hq:=h q A6;have ih:=QU qs (λi=>f i++(other i q).toList) λq' hq'=>h q' (A7 _ hq')
  have e:sW ((Aa m).map λi=>vB (f i)) q=(Aa m).map λi=>vB (f i++(other i q).toList):=by
   unfold sW;rw[ON _ hq.1,ON _ hq.2.1];refine B6 λi _=>?_;unfold other vB;by_cases c1:i=q.1
   .have c2:¬i=q.2:=λz=>hq.2.2 (by omega);rw[if_neg c2,if_pos c1,if_pos c1.symm,B9];rfl
   .by_cases c2:i=q.2
    .rw[if_pos c2,if_neg c1,if_neg (λz=>c1 z.symm),if_pos c2.symm,B9];rfl
    .rw[if_neg c2,if_neg c1,if_neg (λz=>c1 z.symm),if_neg (λz=>c2 z.symm)];simp
  rw[Gb,e,ih];refine B6 λi _=>?_;unfold nL;rw[Hi,Co];cases other i q<;>rfl
def Wg{qs:List (Nat×Nat)}(h:∀q∈qs,q.1<q.2){i j:Nat}:j∈nL qs i↔(i,j)∈qs\/(j,i)∈qs:=by
 unfold nL;rw[Jr];constructor
 .rintro ⟨⟨a,b⟩,hq,e⟩;unfold other at e;dsimp only at e;split at e
  .rename_i c;cases e;rw[c]at hq;exact .inl hq
  .split at e
   .rename_i c;cases e;rw[c]at hq;exact .inr hq
   .cases e
 .rintro (hq|hq)
  .exact⟨(i,j),hq,by unfold other;rw[if_pos rfl]⟩
  .refine⟨(j,i),hq,?_⟩
   have:=h _ hq
   dsimp only at this;unfold other;dsimp only;rw[if_neg (by omega),if_pos rfl]
def YK{qs:List (Nat×Nat)}(h:∀q∈qs,q.1<q.2)(hn:qs.Nodup)(i:Nat):(nL qs i).Nodup:=by
 unfold nL;rw[Lb,List.pairwise_filterMap];refine hn.imp_of_mem λ{a b} ha hb ak x hx y hy e=>ak ?_;have h1:=h a ha;have h2:=h b hb;obtain⟨a1,a2⟩:=a;obtain⟨b1,b2⟩:=b;subst e;unfold other at hx hy;dsimp only at h1 h2 hx hy;split at hx
 .split at hy
  .cases hx;cases hy;rename_i c1 c2;rw[c1,c2]
  .split at hy
   .cases hx;cases hy;omega
   .cases hy
 .split at hx
  .split at hy
   .cases hx;cases hy;omega
   .split at hy
    .cases hx;cases hy;exact Mv rfl (by dsimp only;omega)
    .cases hy
  .cases hx
section
variable{n:Int}{ts:List f8}{r:List Int}{k w:Bg}
def mK(ts:List f8)(r:List Int)(w:Bg):List (Nat×Nat):=(w8 ts.length (i4 r ts w) ts.length).map λt=>(t.1.toNat,t.2.toNat)
def zY{i j:Nat}:(i,j)∈mK ts r w↔i<j/\j<ts.length/\i4 r ts w i j=true:=by
 unfold mK;rw[Ah];constructor
 .rintro ⟨t,ht,e⟩;obtain⟨a,b,rfl,_,h1,h2,h3⟩:=Y0.mp ht;have e1:=congrArg B5 e;have e2:=congrArg Kz e;simp only[Ai]at e1 e2;subst e1;subst e2;exact⟨h1,h2,h3⟩
 .rintro ⟨h1,h2,h3⟩;exact⟨((i:Int),(j:Int)),Y0.mpr ⟨i,j,rfl,by omega,h1,h2,h3⟩,by simp⟩
def Vb:(mK ts r w).Nodup:=by unfold mK;rw[Lb,Br];refine((NA ts.length ts.length (i4 r ts w)).imp_of_mem λ{a b} ha hb ah e=>?_);obtain⟨i,j,rfl,_,_,_,_⟩:=Y0.mp ha;obtain⟨i',j',rfl,_,_,_,_⟩:=Y0.mp hb;have e1:=congrArg B5 e;have e2:=congrArg Kz e;simp only[Ai]at e1 e2;subst e1;subst e2;exact rB _ ah
theorem PJ:∀ps:List f8,(∀t∈ps,0<=t.1/\0<=t.2)->tY (ps.map j0)=some (ps.map λt=>(t.1.toNat,t.2.toNat))
 | [],_=>rfl
 |t::ps,h=>by
  have ih:=PJ ps λt' h'=>h t' (A7 _ h');have ht:=h t A6;rw[Aj,tY]
  have e:BO (j0 t)=some (t.1.toNat,t.2.toNat):=by show (if 0<=t.1/\0<=t.2 then some (t.1.toNat,t.2.toNat) else none)=_;rw[if_pos ht]
  rw[e];dsimp only;rw[ih];rfl
theorem Sm(hk:KW k w)(i:Nat):i4 r ts w i i=false:=by
 cases hc:i4 r ts w i i with
 |false=>rfl
 |true=>unfold i4 lT at hc;rw[if_pos (.inl rfl),hk.meet]at hc;cases hc
def HW(h:kJ n ts r)(hk:KW k w):jJ (i4 r ts w) ts.length (nL (mK ts r w))/\∀t,(nL (mK ts r w) t).Nodup:=by
 have ah:∀q∈mK ts r w,q.1<q.2:=λq hq=>(zY (i:=q.1) (j:=q.2).mp hq).1;have ay:=λt=>YK ah (Vb (ts:=ts) (r:=r) (w:=w)) t
 have aK:∀t,t<ts.length->∀j,j∈nL (mK ts r w) t↔j<ts.length/\i4 r ts w t j=true:=λt ht j=>by
  rw[Wg ah,zY,zY];constructor
  .rintro (⟨h1,h2,h3⟩|⟨h1,h2,h3⟩)
   .exact⟨h2,h3⟩
   .exact⟨by omega,by rw[vO];exact h3⟩
  .rintro ⟨h1,h2⟩;rcases Kf t j with c|c|c
   .exact .inl ⟨c,h1,h2⟩
   .subst c;rw[Sm hk]at h2;cases h2
   .exact .inr ⟨c,ht,by rw[vO];exact h2⟩
 refine⟨⟨λi j=>vO i j,Sm hk,aK,λt ht=>?_,h.m12⟩,ay⟩
 have:=K4 (nL (mK ts r w) t) (Aa ts.length) (ay t) λj hj=>Ap.mpr ((aK t ht j).mp hj).1
 rw[An]at this
 have:=h.m12
 omega
def HI(h:kJ n ts r)(hk:KW k w):AC [Y9 n ts,.tup (r.map D.int),.str k]=some (i9 (nL (mK ts r w)) ts.length):=by
 have m12:=h.m12;have ec:=Nv (n:=n) hk.tab h.nd h.rl h.m12 h.mem
 have gz:∀t∈w8 ts.length (i4 r ts w) ts.length,0<=t.1/\0<=t.2:=λt ht=>by obtain⟨i,j,rfl,_,_,_,_⟩:=Y0.mp ht;exact⟨Int.natCast_nonneg _,Int.natCast_nonneg _⟩
 have hl:(mK ts r w).length<=1000:=by
  unfold mK;rw[A0,<-RD,(AA _).length_eq]
  have:=HS (i4 r ts w) ts.length m12
  omega
 have cn:((mK ts r w).all λq=>decide (q.1<ts.length)&&decide (q.2<ts.length))=true:=by
  rw[En];intro q hq
  have:=(zY (i:=q.1) (j:=q.2)).mp hq
  rw[decide_eq_true (by omega),decide_eq_true this.2.1];rfl
 show lA (wF 3 4 5 _ _ [sC (Y9 n ts),sC (.tup (r.map D.int)),sC (.str k),none,none,none])=_
 have fin:wF 3 4 5 (d8 (jC 0 1)) (d8 (x8 xX (kQ 0 1 2))) [sC (Y9 n ts),sC (.tup (r.map D.int)),sC (.str k),none,none,none]=some (.rt (i9 (nL (mK ts r w)) ts.length)):=by
  unfold wF;have e1:d8 (jC 0 1) [sC (Y9 n ts),sC (.tup (r.map D.int)),sC (.str k),none,none,none]=some (ts.map j0):=rfl;have e2:d8 (x8 xX (kQ 0 1 2)) [sC (Y9 n ts),sC (.tup (r.map D.int)),sC (.str k),none,none,none]=some ((w8 ts.length (i4 r ts w) ts.length).map j0):=sA ((x6 (ds:=[Y9 n ts,.tup (r.map D.int),.str k]) rfl).trans ec);rw[e1,e2];dsimp only;rw[PJ _ gz,A0];dsimp only
  rw[if_pos]
  .have hf:=QU (m:=ts.length) (mK ts r w) (λ_=>[]) λq hq=>by
    have:=(zY (i:=q.1) (j:=q.2)).mp hq
    omega
   have e0:(Aa ts.length).map (λi=>vB ((λ_=>[]) i))=Bf ts.length []:=by rw[List.map_const',An];rfl
   rw[e0]at hf;unfold mK at hf;rw[hf];unfold i9;rw[B8];congr 3;refine B6 λi _=>?_;show GL (vB ([]++nL _ i))=_;rw[Le];unfold GL vB;rw[B8];rfl
  .unfold FR;unfold mK at hl cn;rw[cn,decide_eq_true (show ts.length<=1000 by omega),decide_eq_true hl];rfl
 rw[fin];rfl
def rS(r:List Int)(ts:List f8):List Nat:=(Aa ts.length).mergeSort (pA r ts)
def zN{i:Nat}:i∈rS r ts↔i<ts.length:=by unfold rS;rw[(Dh _ _).mem_iff,Ap]
def HD:(rS r ts).Nodup:=by unfold rS;exact(Dh _ _).nodup_iff.mpr Ds
def kJ.ordQ_up(h:kJ n ts r):(rS r ts).Pairwise λi j=>jO (W9 r ts i) (W9 r ts j):=by
 have h1:(rS r ts).Pairwise λi j=>pA r ts i j=true:=Dr (λa b c h1 h2=>by
  unfold pA lL at h1 h2 ⊢;simp only[Fd]at h1 h2 ⊢
  exact xV _ _ _ h1 h2) (λa b=>by
  unfold pA lL
  have:=sJ (W9 r ts a) (W9 r ts b)
  have h2:=sJ (W9 r ts b) (W9 r ts a);unfold lK;rw[this,h2];rcases vW (W9 r ts a) (W9 r ts b) with z|z|z
  .rw[decide_eq_false (λq=>uF z q)];rfl
  .rw[z,decide_eq_false (rB _)];rfl
  .rw[decide_eq_false (λq=>uF z q)];simp) _
 refine E9 (λ{a b} ha hb q=>?_) (h1.and HD);obtain⟨q1,q2⟩:=q;unfold pA lL at q1;have l2:=sJ (W9 r ts b) (W9 r ts a);unfold lK at q1;rw[l2]at q1;rcases vW (W9 r ts a) (W9 r ts b) with z|z|z
 .exact z
 .exact absurd (h.sp_inj (zN.mp ha) (zN.mp hb) z) q2
 .rw[decide_eq_true z]at q1;cases q1
def zD(r:List Int)(ts:List f8)(x y:Nat):Prop:=(W9 r ts x).1<(W9 r ts y).1/\(W9 r ts y).2<(W9 r ts x).2
def Ŕ(h:kJ n ts r){x y:Nat}(hx:x<ts.length)(hy:y<ts.length)(hn:zD r ts x y):i4 r ts "within" x y=true:=by rw[xK];have z:jO (W9 r ts x) (W9 r ts y):=.inl hn.1;exact(vZ z (h.sp_ok hx).2.1 (h.sp_ok hy).2.1).mpr hn
def ń(h:kJ n ts r){x y:Nat}(hx:x<ts.length)(hy:y<ts.length)(z:jO (W9 r ts x) (W9 r ts y))(hc:i4 r ts "within" x y=true):zD r ts x y:=(vZ z (h.sp_ok hx).2.1 (h.sp_ok hy).2.1).mp (xK.mp hc)
def wX(r:List Int)(ts:List f8)(t v:Nat):Prop:=∃S:List Nat,(S++[t]).Pairwise (zD r ts)/\S.length=v/\∀x∈S,x<ts.length
def wX.more(h:wX r ts s v)(hs:s<ts.length)(hn:zD r ts s t):wX r ts t (v+1):=by
 obtain⟨S,h1,h2,h3⟩:=h;refine⟨S++[s],?_,by rw[Af,Ay,h2],λx hx=>?_⟩
 .rw[Cq];refine⟨h1,Da _ _,λa ha b hb=>?_⟩;rw[Ae.mp hb];rcases Aq.mp ha with z|z
  .have:=(Cq.mp h1).2.2 a z s (Ae.mpr rfl)
   unfold zD at this hn ⊢;omega
  .rw[Ae.mp z];exact hn
 .rcases Aq.mp hx with z|z
  .exact h3 x z
  .rw[Ae.mp z];exact hs
def wX.small(h:kJ n ts r)(hF:qT ts.length (i4 r ts "within") F){t v:Nat}(ht:t<ts.length)(hc:wX r ts t v):v<F.length:=by
 obtain⟨S,h1,h2,h3⟩:=hc
 have ah:∀x∈S++[t],x<ts.length:=λx hx=>by
  rcases Aq.mp hx with z|z
  .exact h3 x z
  .rw[Ae.mp z];exact ht
 have:=hF.top (S++[t]) (h1.imp λ{a b} q e=>by unfold zD at q;subst e;omega) ah (h1.imp_of_mem λ{a b} ha hb q=>Ŕ h (ah a ha) (ah b hb) q)
 rw[Af,Ay]at this;omega
structure QI(r:List Int)(ts:List f8)(done:List Nat)(P:List (Nat×Nat)):Prop where
 keys:P.map B5=done
 ok:∀x∈P,∀y∈P,i4 r ts "within" x.1 y.1=true->x.2≠y.2
 ch:∀x∈P,wX r ts x.1 x.2
def ϱ(T:List Nat):∃v,v∉T/\v<=T.length/\(∀v',v'<v->v'∈T)/\((Aa (T.length+1)).filter λj=>!decide (j∈T))≠[]:=by
 have ak:((Aa (T.length+1)).filter λj=>!decide (j∈T))≠[]:=λe=>by
  rw[List.filter_eq_nil_iff]at e
  have:=K4 (Aa (T.length+1)) T Ds λx hx=>by
   have:=e x hx
   simpa using this
  rw[An]at this;omega
 have aE:∀q,(∀v,v<q->v∈T)\/∃v,v<q/\v∉T/\∀v',v'<v->v'∈T:=λq=>by
  induction q with
  |zero=>exact .inl λv hv=>absurd hv (F5 _)
  |succ q ih=>
   rcases ih with z|⟨v,z1,z2,z3⟩
   .by_cases c:q∈T
    .exact .inl λv hv=>by
      by_cases e:v=q
      .rw[e];exact c
      .exact z v (by omega)
    .exact .inr ⟨q,by omega,c,z⟩
   .exact .inr ⟨v,by omega,z2,z3⟩
 rcases aE (T.length+1) with z|⟨v,z1,z2,z3⟩
 .exfalso
  have:=K4 (Aa (T.length+1)) T Ds λx hx=>z x (Ap.mp hx)
  rw[An]at this;omega
 .exact⟨v,z2,by omega,z3,ak⟩
def MD:ED:=pH (Y2 [none,some 6] (lO (d2 jN (jP (d8 (z7 6))) (dI 1))) (u5 0) (y9 (jS true (z7 0) (d8 (z7 1)))) (z7 0))
theorem Œ{T:List Nat}(hl:T.length<=1000)(h6:z7 6 Y=some (.lst (T.map z8)))(hc:mE [none,some 6] Y=[none,sC (.lst (T.map z8))]):∃v,MD Y=some (z8 v)/\v∉T/\∀v',v'<v->v'∈T:=by
 obtain⟨v,v1,v2,v3,ak⟩:=ϱ T;refine⟨v,?_,v1,v3⟩
 have e0:Y2 [none,some 6] (lO (d2 jN (jP (d8 (z7 6))) (dI 1))) (u5 0) (y9 (jS true (z7 0) (d8 (z7 1)))) (z7 0) Y=some (((Aa (T.length+1)).filter λj=>!decide (j∈T)).map z8):=by
  have er:lO (d2 jN (jP (d8 (z7 6))) (dI 1)) Y=some ((Aa (T.length+1)).map z8):=EI (j:=T.length+1) ((jI (x:=.int (T.length:Int)) (y:=.int 1) ((l9 (m9 h6)).trans (by rw[A0])) rfl).trans rfl) (by omega);refine(mT er (by rw[A0,An];unfold f9;omega)).trans ?_
  rw[hc];refine(K8 (λY=>∃c,Y=[c,sC (.lst (T.map z8))]) (λd=>match d with|.int x=>!decide (x.toNat∈T)|_=>false) (λd=>d) _ _ ⟨none,rfl⟩ ?_).trans ?_
  .rintro d hd Y ⟨c,rfl⟩;obtain⟨j,hj,rfl⟩:=Ah.mp hd;refine⟨_,rfl,⟨_,rfl⟩,v7 ((LM true rfl rfl).trans ?_),λ_=>rfl⟩;show some (D.bl (!decide (j∈T)))=some (D.bl (!decide ((j:Int).toNat∈T)));rw[Ai]
  .rw[Hb,xU (q:=λj=>!decide (j∈T)) _ (λi _=>by
    show (!decide ((i:Int).toNat∈T))=_
    rw[Ai])]
 unfold MD pH;rw[e0];dsimp only;rw[zL];have hv:v∈(Aa (T.length+1)).filter λj=>!decide (j∈T):=Az.mpr ⟨Ap.mpr (by omega),by simpa using v1⟩
 have ja:∀x∈(Aa (T.length+1)).filter λj=>!decide (j∈T),v<=x:=λx hx=>by
  have aG:x∉T:=by simpa using (Az.mp hx).2
  by_cases c:v<=x
  .exact c
  .exact absurd (v3 x (by omega)) aG
 generalize (Aa (T.length+1)).filter (λj=>!decide (j∈T))=L at hv ja ak
 cases L with
 |nil=>exact absurd rfl ak
 |cons a L=>
  rw[Aj];dsimp only;have ho:=KR (L.map λ(i:Nat)=>(i:Int)) (a:Int);rw[<-Aj (f:=λ(i:Nat)=>(i:Int))]at ho;obtain⟨x,hx,e⟩:=Ah.mp ho.1;have h1:=ja x hx;have h2:=ho.2 (v:Int) (Ah.mpr ⟨v,hv,rfl⟩);rw[<-e]at h2;rw[<-e]
  have:x=v:=by omega
  rw[this];rfl
def o7(n:Int)(ts:List f8)(r:List Int)(R:Nat->List Nat)(P:List (Nat×Nat))(c5 c6:Option Cell):J5:=[sC (Y9 n ts),sC (.tup (r.map D.int)),sC (i9 R ts.length),sC (lF r ts),some (.od (jD P) (jQ P)),c5,c6]
def R4:EO:=
 (J8 (i8 6 (pT 4 (x8 J6 (kQ 2 4 5))))
 (nK 4 (z7 5) MD))
theorem PB:∀l:List Nat,uA (l.map z8)=true
 | []=>by simp[uA]
 |a::l=>by rw[Aj,uA,PB l];rfl
def Xy{c6:Option Cell}(et:J6 [i9 R ts.length,e9 P,z8 t]=some (.lst ((lV R P t).map z8))):pT 4 (x8 J6 (kQ 2 4 5)) (o7 n ts r R P (sC (z8 t)) c6)=some (.lst ((lV R P t).map z8)):=by have e1:x8 J6 (kQ 2 4 5) ((o7 n ts r R P (sC (z8 t)) c6).set 4 (sC (.dct (jD P) (jQ P))))=some (.lst ((lV R P t).map z8)):=(x6 (ds:=[i9 R ts.length,e9 P,z8 t]) rfl).trans et;have e0:(o7 n ts r R P (sC (z8 t)) c6)[4]?=some (some (.od (jD P) (jQ P))):=rfl;unfold pT;rw[e0];dsimp only;rw[e1];dsimp only;rw[if_pos (by rw[sB];exact PB _)]
def Ti{fk fv:ED}(hv:fv Y=some (z8 v))(hk:fk Y=some (z8 t))(ho:qF i Y=some (jD P,jQ P))(ay:(P.map B5).Nodup)(hn:t∉P.map B5)(hl:P.length<=1000):nK i fk fv Y=some (.nx (Y.set i (some (.od (jD (P++[(t,v)])) (jQ (P++[(t,v)])))))):=by unfold nK;rw[hv];dsimp only;rw[ho];dsimp only;rw[hk];dsimp only;have ek:qO (z8 t)=some (Bv (t:Int)):=rfl;rw[ek];dsimp only;rw[if_pos ⟨CS ay,by unfold jD;rw[A0];unfold f9;omega⟩,FS hn]
def ð(h:kJ n ts r)(hg:jJ (i4 r ts "within") ts.length R)(hI:QI r ts done P)(hd:∀x∈done,x<ts.length/\jO (W9 r ts x) (W9 r ts t))(hn:done.Nodup)(ht:t<ts.length)(gu:t∉done){c6:Option Cell}:
  ∃v bZ,R4 (o7 n ts r R P (sC (z8 t)) c6)=some (.nx (o7 n ts r R (P++[(t,v)]) (sC (z8 t)) bZ))/\QI r ts (done++[t]) (P++[(t,v)]):=by
 have m12:=h.m12
 have ay:(P.map B5).Nodup:=by rw[hI.keys];exact hn
 have hk:t∉P.map B5:=by rw[hI.keys];exact gu
 have ao:P.length<=12:=by
  have:=K4 (P.map B5) (Aa ts.length) ay λx hx=>Ap.mpr (hd x (by rw[<-hI.keys];exact hx)).1
  rw[A0,An]at this;omega
 have et:=GW (P:=P) ht (hg.len t ht)
 have htl:(lV R P t).length<=1000:=by unfold lV;rw[A0];exact B3 (D9 _ _) (hg.len t ht)
 obtain⟨v,ev,v1,v2⟩:=Œ (T:=lV R P t) (Y:=o7 n ts r R P (sC (z8 t)) (sC (.lst ((lV R P t).map z8)))) htl rfl rfl;have bE:∀x∈P,i4 r ts "within" t x.1=true->x.2≠v:=λx hx hc e=>v1 ((CU ay).mpr ⟨x,hx,(hg.mem t ht x.1).mpr ⟨(hd x.1 (by rw[<-hI.keys];exact Bq hx)).1,hc⟩,e⟩)
 refine⟨v,sC (.lst ((lV R P t).map z8)),?_,?_,λx hx y hy hc=>?_,λx hx=>?_⟩
 .refine v5 (Y':=o7 n ts r R P (sC (z8 t)) (sC (.lst ((lV R P t).map z8)))) (J4 (d:=.lst ((lV R P t).map z8)) ?_) ?_
  .exact Xy et
  .exact(Ti ev rfl rfl ay hk (by omega)).trans rfl
 .rw[B9,hI.keys];rfl
 .rcases Aq.mp hx with z|z<;>rcases Aq.mp hy with z'|z'
  .exact hI.ok x z y z' hc
  .rw[Ae.mp z']at hc ⊢;exact bE x z (by rw[hg.sy];exact hc)
  .rw[Ae.mp z]at hc ⊢;exact λe=>bE y z' hc e.symm
  .rw[Ae.mp z,Ae.mp z',hg.ir]at hc;cases hc
 .rcases Aq.mp hx with z|z
  .exact hI.ch x z
  .rw[Ae.mp z];show wX r ts t v
   cases v with
   |zero=>exact⟨[],Da _ _,rfl,λx hx=>by simp at hx⟩
   |succ v=>
    obtain⟨y,hy,y1,y2⟩:=(CU ay).mp (v2 v (Em _));have hyd:=hd y.1 (by rw[<-hI.keys];exact Bq hy)
    have hc:=(hg.mem t ht y.1).mp y1
    have:=hI.ch y hy
    rw[y2]at this;exact this.more hyd.1 (ń h hyd.1 ht hyd.2 (by rw[vO];exact hc.2))
theorem Tj(h:kJ n ts r)(hg:jJ (i4 r ts "within") ts.length R):∀(rest done:List Nat) (P:List (Nat×Nat)) (c5 c6:Option Cell),done++rest=rS r ts->QI r ts done P ->
  ∃P' fu bZ,kH (u5 5) R4 (rest.map z8) (o7 n ts r R P c5 c6)=some (.nx (o7 n ts r R P' fu bZ))/\QI r ts (rS r ts) P'
 | [],done,P,c5,c6,e,hI=>by rw[Ci]at e;subst e;exact⟨P,c5,c6,rfl,hI⟩
 |t::rest,done,P,c5,c6,e,hI=>by
  have gn:=h.ordQ_up;have ay:=HD (r:=r) (ts:=ts);rw[<-e]at gn ay;have aK:∀x∈done++t::rest,x<ts.length:=λx hx=>zN.mp (by rw[<-e];exact hx)
  have ha:=Cq.mp gn;have hb:=C5.mp ay;obtain⟨v,bZ,e1,hI'⟩:=ð h hg hI (t:=t) (λx hx=>⟨aK x (B4 _ hx),ha.2.2 x hx t A6⟩) hb.1 (aK t (Ab _ A6)) (λz=>hb.2.2 t z t A6 rfl) (c6:=c6);obtain⟨P',fu,c6'',e2,h2⟩:=Tj h hg rest (done++[t]) (P++[(t,v)]) (sC (z8 t)) bZ (by rw[Co];exact e) hI'
  exact⟨P',fu,c6'',by rw[Aj];exact(qY rfl e1).trans e2,h2⟩
def Ny(hF:qT m cl F):rL cl m F.length:=λc K' hc=>by
 have:=K4 (F.map c) (Aa K') (Br.mpr (hF.pw.imp_of_mem λ{a b} ha hb q=>hc.ne a b (hF.lt a ha) (hF.lt b hb) q)) λx hx=>by obtain⟨y,hy,rfl⟩:=Ah.mp hx;exact Ap.mpr (hc.lt y (hF.lt y hy))
 rw[A0,An]at this;exact this
def X6(h:kJ n ts r)(hg:jJ (i4 r ts "within") ts.length R)(hF:qT ts.length (i4 r ts "within") F):∃P,DN [Y9 n ts,.tup (r.map D.int),i9 R ts.length]=some (e9 P)/\oP (i4 r ts "within") ts.length F.length P:=by
 have m12:=h.m12;obtain⟨P,c5,c6,e1,hI⟩:=Tj (n:=n) h hg (rS r ts) [] [] none none rfl ⟨rfl,λx hx=>by simp at hx,λx hx=>by simp at hx⟩;have ah:∀x∈P,x.1<ts.length:=λx hx=>zN.mp (by rw[<-hI.keys];exact Bq hx)
 refine⟨P,?_,by rw[hI.keys];exact HD,λx=>by rw[hI.keys];exact zN,hI.ok,λx hx=>(hI.ch x hx).small h hF (ah x hx),Ny hF⟩
 have es:=HX (n:=n) h.nd h.rl h.hm' h.mem;show lA (IB [sC (Y9 n ts),sC (.tup (r.map D.int)),sC (i9 R ts.length),none,none,none,none])=_
 have eo:qV [none,some 3] (oX (jP (d8 (z7 3)))) (jH (d8 (z7 1)) (z7 0)) (o7 n ts r R [] none none)=some ((rS r ts).map z8):=by
  unfold qV
  have e0:oX (jP (d8 (z7 3))) (o7 n ts r R [] none none)=some ((Aa ts.length).map z8):=by refine(GX (j:=(ts.length:Int)) ((l9 (ds:=ts.map λt=>j0 (kL r t)) rfl).trans (by rw[A0])) (by omega) (by omega)).trans ?_;rw[Ai];unfold lR;rw[B8];refine congrArg some (B6 λi _=>?_);show D.int (0+(i:Int))=D.int (i:Int);rw[Lc]
  rw[e0];dsimp only
  have ek:pB (jH (d8 (z7 1)) (z7 0)) (mE [none,some 3] (o7 n ts r R [] none none)) ((Aa ts.length).map z8)=some ((Aa ts.length).map λi=>j0 (W9 r ts i)):=by
   refine(ET (f:=λd=>match d with|.int x=>j0 (W9 r ts x.toNat)|_=>.non) _ λd hd=>?_).trans ?_
   .obtain⟨i,hi,rfl⟩:=Ah.mp hd;show jH (d8 (z7 1)) (z7 0) [sC (z8 i),sC (lF r ts)]=some (j0 (W9 r ts (i:Int).toNat));rw[Ai];exact(lY (ds:=ts.map λt=>j0 (kL r t)) (j:=(i:Int)) rfl rfl).trans (xT (Ap.mp hi))
   .rw[B8];refine congrArg some (B6 λi _=>?_);show j0 (W9 r ts (i:Int).toNat)=_;rw[Ai]
  rw[ek];exact Ry h Ds λi hi=>Ap.mp hi
 have fin:IB [sC (Y9 n ts),sC (.tup (r.map D.int)),sC (i9 R ts.length),none,none,none,none]=some (.rt (e9 P)):=by refine v5 (J4 (d:=lF r ts) ((x6 (ds:=[Y9 n ts,.tup (r.map D.int)]) rfl).trans es)) ?_;refine v5 (Y':=o7 n ts r R [] none none) rfl ?_;exact v5 ((mJ (m9 (mR eo))).trans e1) rfl
 rw[fin];rfl
end
def W7(ks:List Nat)(p:Nat):List Nat:=if p∈ks then ks else ks++[p]
def nA(vs:List Nat):List Nat:=vs.foldl W7 []
theorem AY:∀(vs ks:List Nat) (p:Nat),p∈vs.foldl W7 ks↔p∈ks\/p∈vs
 | [],ks,p=>by simp
 |v::vs,ks,p=>by
  rw[Gb,AY vs,Ad];unfold W7;by_cases c:v∈ks
  .rw[if_pos c];constructor
   .rintro (z|z)
    .exact .inl z
    .exact .inr (.inr z)
   .rintro (z|z|z)
    .exact .inl z
    .rw[z];exact .inl c
    .exact .inr z
  .rw[if_neg c,Aq,Ae,or_assoc]
theorem zR:∀(vs ks:List Nat),ks.Nodup->(vs.foldl W7 ks).Nodup
 | [],ks,h=>h
 |v::vs,ks,h=>by
  rw[Gb];refine zR vs _ ?_;unfold W7;by_cases c:v∈ks
  .rw[if_pos c];exact h
  .rw[if_neg c,C5];refine⟨h,Da _ _,λa ha b hb e=>c ?_⟩;rw[<-Ae.mp hb,<-e];exact ha
theorem P5{g:Nat->Nat}:∀(vs ks:List Nat),(∀a∈ks++vs,∀b∈ks++vs,g a=g b->a=b)->(vs.map g).foldl W7 (ks.map g)=(vs.foldl W7 ks).map g
 | [],ks,_=>rfl
 |v::vs,ks,h=>by
  rw[Aj,Gb,Gb]
  have e:W7 (ks.map g) (g v)=(W7 ks v).map g:=by
   unfold W7;by_cases c:v∈ks
   .rw[if_pos c,if_pos (Bq c)]
   .have:g v∉ks.map g:=λz=>by
     obtain⟨x,hx,e⟩:=Ah.mp z
     have:=h x (B4 _ hx) v (Ab _ A6) e
     exact c (this▸hx)
    rw[if_neg c,if_neg this,B9];rfl
  rw[e]
  have sub:∀a∈W7 ks v++vs,a∈ks++v::vs:=λa ha=>by
   rcases Aq.mp ha with z|z
   .unfold W7 at z;split at z
    .exact B4 _ z
    .rcases Aq.mp z with y|y
     .exact B4 _ y
     .rw[Ae.mp y];exact Ab _ A6
   .exact Ab _ (A7 _ z)
  exact P5 vs (W7 ks v) λa ha b hb=>h a (sub a ha) b (sub b hb)
def kP(ks:List Nat):List (Nat×Nat):=ks.map λp=>(p,ks.idxOf p)
def CP(ks:List Nat):(kP ks).map B5=ks:=by unfold kP;rw[B8];exact(B6 (λp _=>rfl:∀p∈ks,(B5∘λp=>(p,ks.idxOf p)) p=p)).trans (Ib _)
def ß{ks:List Nat}{p:Nat}(h:p∉ks):kP ks++[(p,ks.length)]=kP (ks++[p]):=by
 unfold kP;rw[B9];congr 1
 .refine B6 λq hq=>?_;rw[List.idxOf_append,if_pos hq]
 .show [(p,ks.length)]=[(p,(ks++[p]).idxOf p)];rw[List.idxOf_append,if_neg h,Jc,L8]
def Xp{ks:List Nat}{p:Nat}(hn:ks.Nodup)(h:p∈ks):(kP ks).lookup p=some (ks.idxOf p):=(vQ (by rw[CP];exact hn)).mpr (Bq (f:=λp=>(p,ks.idxOf p)) h)
def MS:EO:=AX 1 (z7 2) (pT 1 (wD (z7 1)))
def Ý{ks:List Nat}(hn:ks.Nodup)(hl:ks.length<=1000):MS [sC vD,some (.od (jD (kP ks)) (jQ (kP ks))),sC (z8 p)]=some (.nx [sC vD,some (.od (jD (kP (W7 ks p))) (jQ (kP (W7 ks p)))),sC (z8 p)]):=by
 have e1:pT 1 (wD (z7 1)) [sC vD,some (.od (jD (kP ks)) (jQ (kP ks))),sC (z8 p)]=some (z8 ks.length):=by show (match some (D.int ((jD (kP ks)).length:Int)) with|some d=>if sB d=true then some d else none|none=>none)=_;unfold jD kP;rw[A0,A0];rfl
 have ek:qO (z8 p)=some (Bv (p:Int)):=rfl;have e2:qF 1 [sC vD,some (.od (jD (kP ks)) (jQ (kP ks))),sC (z8 p)]=some (jD (kP ks),jQ (kP ks)):=rfl;have e3:z7 2 [sC vD,some (.od (jD (kP ks)) (jQ (kP ks))),sC (z8 p)]=some (z8 p):=rfl
 have hk:((kP ks).map B5).Nodup:=by rw[CP];exact hn
 have hs:(kK (jD (kP ks)) (jQ (kP ks)) (Bv (p:Int))).isSome=decide (p∈ks):=by rw[sK,Ef,qC,CP]
 unfold MS AX;rw[e2];dsimp only;rw[e3];dsimp only;rw[ek];dsimp only;rw[e1];dsimp only;rw[if_pos ⟨CS hk,by unfold jD kP;rw[A0,A0];unfold f9;omega⟩,hs]
 unfold W7;by_cases c:p∈ks
 .rw[if_pos (decide_eq_true c),if_pos c]
 .rw[if_neg (by rw[decide_eq_false c];decide),if_neg c,FS (by rw[CP];exact c),ß c]
  rfl
theorem S4:∀(vs ks:List Nat) (c2:Option Cell),ks.Nodup->ks.length+vs.length<=1000->∃gO,kH (u5 2) MS (vs.map z8) [sC vD,some (.od (jD (kP ks)) (jQ (kP ks))),c2]=some (.nx [sC vD,some (.od (jD (kP (vs.foldl W7 ks))) (jQ (kP (vs.foldl W7 ks)))),gO])
 | [],ks,c2,_,_=>⟨c2,rfl⟩
 |p::vs,ks,c2,hn,hl=>by
  rw[Av]at hl;have h1:(W7 ks p).Nodup:=zR [p] ks hn
  have h2:(W7 ks p).length<=ks.length+1:=by
   unfold W7;split
   .omega
   .rw[Af,Ay];exact Ak _
  obtain⟨gO,e⟩:=S4 (vD:=vD) vs (W7 ks p) (sC (z8 p)) h1 (by omega);refine⟨gO,?_⟩;rw[Aj];exact(qY rfl (Ý hn (by omega))).trans e
def Vn{vs:List Nat}(hl:vs.length<=1000):IP [.lst (vs.map z8)]=some (.tup ((vs.map λp=>(nA vs).idxOf p).map z8)):=by
 obtain⟨c2,e⟩:=S4 (vD:=.lst (vs.map z8)) vs [] none Dm (by rw[Bx];omega)
 have hn:(nA vs).Nodup:=zR vs [] Dm;refine mG (x:=Oa [sC (.lst (vs.map z8)),none,none]) ?_;refine v5 (Y':=[sC (.lst (vs.map z8)),some (.od (jD (kP [])) (jQ (kP []))),none]) rfl ?_;refine v5 ((mJ (ds:=vs.map z8) rfl).trans e) ?_;show jB (oS (Y2 [none,some 1] (d8 (z7 0)) (u5 0) mQ (m8 (z7 1) (z7 0)))) [sC (.lst (vs.map z8)),sC (e9 (kP (nA vs))),c2]=_;refine j7 (xM ((mT (ds:=vs.map z8) rfl (by rw[A0];unfold f9;omega)).trans ?_))
 refine(uN (λY=>∃c,Y=[c,sC (e9 (kP (nA vs)))]) (λd=>match d with|.int x=>z8 ((nA vs).idxOf x.toNat)|_=>.non) _ _ ⟨none,rfl⟩ ?_).trans ?_
 .rintro d hd Y ⟨c,rfl⟩;obtain⟨p,hp,rfl⟩:=Ah.mp hd;refine⟨_,rfl,⟨_,rfl⟩,?_⟩;show kK (jD (kP (nA vs))) (jQ (kP (nA vs))) (Bv (p:Int))=some (z8 ((nA vs).idxOf (p:Int).toNat));rw[sK,Xp hn (show p∈nA vs from (AY vs [] p).mpr (.inr hp)),Ai];rfl
 .rw[B8,B8];refine congrArg some (B6 λp _=>?_);show z8 ((nA vs).idxOf (p:Int).toNat)=_;rw[Ai];rfl
def GP(f:List Nat)(i:Nat):Nat:=f.getD i 0
structure nO(cl:Nat->Nat->Bool)(m K:Nat)(f:List Nat):Prop where
 len:f.length=m
 col:CJ cl m (GP f) K
 fst:nA f=Aa K
 least:rL cl m K
section
variable{n:Int}{ts:List f8}{r:List Int}{k w:Bg}{cl:Nat->Nat->Bool}{m K:Nat}{P:List (Nat×Nat)}
def QV(h:oP cl m K P):nO cl m K (((Aa m).map λi=>(P.lookup i).getD 0).map λp=>(nA ((Aa m).map λi=>(P.lookup i).getD 0)).idxOf p):=by
 let c:Nat->Nat:=λi=>(P.lookup i).getD 0
 have hc:∀i,i<m->(i,c i)∈P:=λi hi=>by
  have hs:(P.lookup i).isSome=true:=by rw[qC,decide_eq_true ((h.mem i).mpr hi)]
  obtain⟨v,hv⟩:=Ct.mp hs
  have:c i=v:=by show (P.lookup i).getD 0=v;rw[hv];rfl
  rw[this];exact(vQ h.nd).mp hv
 let vs:=(Aa m).map c
 let ks:=nA vs
 have bY:∀p,p∈ks↔∃i,i<m/\c i=p:=λp=>by show p∈vs.foldl W7 []↔_;rw[AY,Ah];simp[Ap]
 have hn:ks.Nodup:=zR vs [] Dm
 have ab:ks.length<=K:=by
  have:=K4 ks (Aa K) hn λp hp=>by obtain⟨i,hi,rfl⟩:=(bY p).mp hp;exact Ap.mpr (h.lt _ (hc i hi))
  rw[An]at this;exact this
 have hat:∀i,i<m->GP (vs.map λp=>ks.idxOf p) i=ks.idxOf (c i):=λi hi=>by unfold GP;rw[C9,As,As,Ei hi];rfl
 have iO:CJ cl m (GP (vs.map λp=>ks.idxOf p)) ks.length:=by
  refine⟨λi hi=>?_,λi j hi hj az e=>?_⟩
  .rw[hat i hi];exact Cf ((bY _).mpr ⟨i,hi,rfl⟩)
  .rw[hat i hi,hat j hj]at e
   have:=IY ((bY _).mpr ⟨i,hi,rfl⟩) ((bY _).mpr ⟨j,hj,rfl⟩) e
   exact h.ok _ (hc i hi) _ (hc j hj) az this
 have hK:ks.length=K:=by
  have:=h.least _ _ iO
  omega
 refine⟨by rw[A0,A0,An],by rw[<-hK];exact iO,?_,h.least⟩
 have e:=P5 (g:=λp=>ks.idxOf p) vs [] λa ha b hb e=>IY ((bY a).mpr (by simpa [vs,Ap] using ha)) ((bY b).mpr (by simpa [vs,Ap] using hb)) e;show (vs.map λp=>ks.idxOf p).foldl W7 ([].map λp=>ks.idxOf p)=_;rw[e,<-hK];show ks.map (λp=>ks.idxOf p)=_;apply List.ext_getElem?;intro i;rw[As];by_cases hi:i<ks.length
 .rw[A3 hi,Ei hi];show some (ks.idxOf ks[i])=some i;rw[hn.idxOf_getElem i hi]
 .rw[Gi (by omega),Gi (by rw[An];omega)]
  rfl
def UE(h:kJ n ts r)(hm:ts.length<=11)(hk:KW k w)(eF:yD [Y9 n ts,.tup (r.map D.int),.str k]=some (jZ F))(hF:qT ts.length (i4 r ts w) F):
  ∃(f:List Nat) (K:Nat),Y4 [Y9 n ts,.tup (r.map D.int),.str k]=some (.tup (f.map z8))/\nO (i4 r ts w) ts.length K f/\(k = "queue"->K=F.length):=by
 have m12:=h.m12;obtain⟨hg,ay⟩:=HW h hk;have er:=HI h hk;generalize nL (mK ts r w)=R at hg ay er
 have aE:∀(K:Nat) (P:List (Nat×Nat)),oP (i4 r ts w) ts.length K P->(jL (y9 (d2 kM (z7 2) (dC (.str "queue"))))
   (i8 4 (x8 DN (kQ 0 1 3)))
   (i8 4 (x8 DJ (z9 (z7 3) (z9 (jP (d8 (x8 yD (kQ 0 1 2)))) i3))))) [sC (Y9 n ts),sC (.tup (r.map D.int)),sC (.str k),sC (i9 R ts.length),none]=some (.nx [sC (Y9 n ts),sC (.tup (r.map D.int)),sC (.str k),sC (i9 R ts.length),sC (e9 P)]) ->
   Y4 [Y9 n ts,.tup (r.map D.int),.str k]=some (.tup ((((Aa ts.length).map λi=>(P.lookup i).getD 0).map λp=>(nA ((Aa ts.length).map λi=>(P.lookup i).getD 0)).idxOf p).map z8)):=λK P hP e=>by
  show lA (ID [sC (Y9 n ts),sC (.tup (r.map D.int)),sC (.str k),none,none])=_;have en:=Vn (vs:=(Aa ts.length).map λi=>(P.lookup i).getD 0) (by rw[A0,An];omega)
  have ec:Y2 [none,some 4] (lO (jP (d8 (z7 3)))) (u5 0) mQ (m8 (z7 1) (z7 0)) [sC (Y9 n ts),sC (.tup (r.map D.int)),sC (.str k),sC (i9 R ts.length),sC (e9 P)]=some (((Aa ts.length).map λi=>(P.lookup i).getD 0).map z8):=by
   have e0:lO (jP (d8 (z7 3))) [sC (Y9 n ts),sC (.tup (r.map D.int)),sC (.str k),sC (i9 R ts.length),sC (e9 P)]=some ((Aa ts.length).map z8):=EI ((l9 (ds:=(Aa ts.length).map λi=>D.lst ((R i).map z8)) rfl).trans (by rw[A0,An])) (by omega);refine(mT e0 (by rw[A0,An];unfold f9;omega)).trans ?_
   refine(uN (λY=>∃c,Y=[c,sC (e9 P)]) (λd=>match d with|.int x=>z8 ((P.lookup x.toNat).getD 0)|_=>.non) _ _ ⟨none,rfl⟩ ?_).trans ?_
   .rintro d hd Y ⟨c,rfl⟩;obtain⟨i,hi,rfl⟩:=Ah.mp hd;refine⟨_,rfl,⟨_,rfl⟩,?_⟩;show kK (jD P) (jQ P) (Bv (i:Int))=some (z8 ((P.lookup (i:Int).toNat).getD 0))
    have hs:(P.lookup i).isSome=true:=by rw[qC,decide_eq_true ((hP.mem i).mpr (Ap.mp hi))]
    obtain⟨v,hv⟩:=Ct.mp hs;rw[sK,Ai,hv];rfl
   .rw[B8,B8];refine congrArg some (B6 λi _=>?_);show z8 ((P.lookup (i:Int).toNat).getD 0)=_;rw[Ai];rfl
  have fin:ID [sC (Y9 n ts),sC (.tup (r.map D.int)),sC (.str k),none,none]=some (.rt (.tup ((((Aa ts.length).map λi=>(P.lookup i).getD 0).map λp=>(nA ((Aa ts.length).map λi=>(P.lookup i).getD 0)).idxOf p).map z8))):=by refine v5 (J4 (d:=i9 R ts.length) ((x6 (ds:=[Y9 n ts,.tup (r.map D.int),.str k]) rfl).trans er)) ?_;refine v5 e ?_;exact j7 ((x6 (ds:=[.lst (((Aa ts.length).map λi=>(P.lookup i).getD 0).map z8)]) (u3 (mR ec) rfl)).trans en)
  rw[fin];rfl
 have t0:y9 (d2 kM (z7 2) (dC (.str "queue"))) [sC (Y9 n ts),sC (.tup (r.map D.int)),sC (.str k),sC (i9 R ts.length),none]=some (k=="queue"):=v7 rfl;rcases hk with⟨rfl,rfl⟩|⟨rfl,rfl⟩
 .have hFl:F.length<=ts.length:=by
   have:=K4 F (Aa ts.length) (hF.up.imp λ{a b} q=>At q) λx hx=>Ap.mpr (hF.lt x hx)
   rw[An]at this;exact this
  obtain⟨K,P,e,hP⟩:=Ww hg (λt _=>ay t) hm hFl (Ny hF);refine⟨_,K,aE K P hP ?_,QV hP,λz=>absurd z (by decide +kernel)⟩;refine(K9 t0).trans ?_;rw[show (("pile":Bg)=="queue")=false by decide +kernel,if_neg (by decide)];exact(J4 (d:=e9 P) ((x6 (ds:=[i9 R ts.length,z8 F.length]) (u3 rfl (u3 ((l9 (ds:=F.map z8) (sA ((x6 (ds:=[Y9 n ts,.tup (r.map D.int),.str "pile"]) rfl).trans eF))).trans (by rw[A0];rfl)) rfl))).trans e)).trans rfl
 .obtain⟨P,e,hP⟩:=X6 h hg hF;refine⟨_,F.length,aE F.length P hP ?_,QV hP,λ_=>rfl⟩;refine(K9 t0).trans ?_;rw[show (("queue":Bg)=="queue")=true by decide +kernel,if_pos rfl];exact(J4 (d:=e9 P) ((x6 (ds:=[Y9 n ts,.tup (r.map D.int),i9 R ts.length]) rfl).trans e)).trans rfl
end
def nD(s:Bg)(d:D):Bool:=kC d (.str s)
def Nk(h:depth d<=jK):kM d (.str s)=some (.bl (nD s d)):=by
 unfold kM;rw[if_pos ⟨h,by rw[depth]<;>simp⟩]
 rfl
def zG:D->Bool
 | .int _=>true
 |_=>false
def FN(d:D):zG d=false\/∃i,d = .int i:=by cases d<;>simp[zG]
def yE(d:D):vX [d]=some (.bl (zG d)):=by refine mG (x:=O7 [sC d]) ?_;refine(j7 (r9 (a:=mO "int" d) (b:=!mO "bool" d) (wP rfl) λ_=>So (wP rfl))).trans ?_;cases d<;>rfl
def n9(m:Nat):D->Bool
 | .int t=>decide (0<=t/\t<(m:Int))
 |_=>false
def Om{fa fc:ED}(h1:fa Y=some (.int t))(h2:fc Y=some (z8 m)):nP uX nS (dI 0) fa fc Y=some (.bl (n9 m (.int t))):=by refine(ES (x:=.int 0) (y:=.int t) (z:=z8 m) (a:=decide (0<=t)) (b:=decide (t<(m:Int))) rfl h1 rfl (λ_=>h2) λ_=>rfl).trans ?_;rw[n9,Bool.decide_and]
section
variable{cl:Nat->Nat->Bool}{m K u:Nat}{P:List (Nat×Nat)}{n:Int}{ts:List f8}
def N8(d:D):DR [Y9 n ts,d]=some (.bl (n9 ts.length d)):=by
 refine mG (x:=NT [sC (Y9 n ts),sC d]) ?_;refine(j7 (r9 (a:=zG d) (b:=n9 ts.length d) ((x6 (ds:=[d]) rfl).trans (yE d)) λh=>?_)).trans ?_
 .rcases FN d with z|⟨i,rfl⟩
  .rw[z]at h;cases h
  .exact Om rfl ((l9 (ds:=ts.map j0) rfl).trans (by rw[A0];rfl))
 .cases d<;>rfl
structure Pg(m u:Nat)(P:List (Nat×Nat)):Prop where
 nd:(P.map B5).Nodup
 lt:∀x∈P,x.1<m
 use:∀v,(∃x∈P,x.2=v)↔v<u
def Pg.zero:Pg m 0 []:=⟨Dm,λx h=>by simp at h,λv=>⟨λ⟨x,h,_⟩=>by simp at h,λh=>by omega⟩⟩
def Pg.len(h:Pg m u P):P.length<=m:=by
 have:=K4 (P.map B5) (Aa m) h.nd λt ht=>by obtain⟨x,hx,rfl⟩:=Ah.mp ht;exact Ap.mpr (h.lt x hx)
 rw[A0,An]at this;exact this
def Pg.add(h:Pg m u P){t v:Nat}(ht:t<m)(hn:t∉P.map B5)(hv:v<=u):Pg m (if v=u then u+1 else u) (P++[(t,v)]):=by
 refine⟨?_,λx hx=>?_,λy=>?_⟩
 .rw[B9];refine C5.mpr ⟨h.nd,by simp,λa ha b hb z=>?_⟩
  have:b=t:=by simpa using hb
  subst this;subst z;exact hn ha
 .rcases Aq.mp hx with z|z
  .exact h.lt x z
  .obtain rfl:=Ae.mp z
   exact ht
 .constructor
  .rintro ⟨x,hx,rfl⟩;rcases Aq.mp hx with z|z
   .have:=(h.use x.2).mp ⟨x,z,rfl⟩
    split<;>omega
   .obtain rfl:=Ae.mp z
    show v<_
    split<;>omega
  .intro hy;by_cases hyv:y=v
   .exact⟨(t,v),by simp,hyv.symm⟩
   .have:y<u:=by split at hy<;>omega
    obtain⟨x,hx,e⟩:=(h.use y).mpr this;exact⟨x,B4 _ hx,e⟩
def same(P:List (Nat×Nat))(i j:Nat):Bool:=match P.lookup i with
 |some v=>P.lookup j==some v
 |none=>false
def rO(cl:Nat->Nat->Bool)(m:Nat)(P:List (Nat×Nat))(b c:D):Bool:=match b with
 | .int i=>(match c with|.int j=>decide ((i,j)∈w8 m cl m)&&same P i.toNat j.toNat|_=>false)
 |_=>false
def oZ(t:Nat->D->Bool):Nat->List D->Bool
 |_,[]=>true
 |k,d::ds=>t k d&&oZ t (k+1) ds
def qM(rc:Nat->Nat->D->Bool)(m w:Nat)(P:List (Nat×Nat))(b c:D):Bool:=match b with
 | .int t=>(match c with
  | .tup ps=>decide (0<=t/\t<(m:Int))&&(decide (t.toNat∉P.map B5)&&(decide (ps.length=w)&&oZ (rc t.toNat) 0 ps))
  |_=>false)
 |_=>false
def chk(cl:Nat->Nat->Bool)(m K:Nat):Nat->List (Nat×Nat)->Nat->D->Bool
 | 0,_,_,_=>false
 |q+1,P,u,.tup [a,b,c]=>if nD "tie" a=true then qM (λt k d=>chk cl m K q (P++[(t,k)]) (if k=u then u+1 else u) d) m (Ew K (u+1)) P b c else if nD "clash" a=true then rO cl m P b c else false
 |_+1,_,_,_=>false
theorem TW(d:D):(∃a b c,d = .tup [a,b,c])\/(∃xs:List D,d = .tup xs/\xs.length≠3/\∀q P u,chk cl m K q P u d=false)\/(mO "tuple" d=false/\∀q P u,chk cl m K q P u d=false):=by
 have z:∀{d:D},(∀a b c,d≠.tup [a,b,c])->∀q P u,chk cl m K q P u d=false:=λ{d} h q P u=>by
  cases q with
  |zero=>rw[chk]
  |succ q=>rw[chk];exact h
 cases d with
 |tup xs=>
  match xs with
  | []=>exact .inr (.inl ⟨_,rfl,by simp,z λa b c e=>by simp at e⟩)
  | [_]=>exact .inr (.inl ⟨_,rfl,by simp,z λa b c e=>by simp at e⟩)
  | [_,_]=>exact .inr (.inl ⟨_,rfl,by simp,z λa b c e=>by simp at e⟩)
  | [a,b,c]=>exact .inl ⟨a,b,c,rfl⟩
  |_::_::_::_::_=>exact .inr (.inl ⟨_,rfl,by simp,z λa b c e=>by simp at e⟩)
 |_=>exact .inr (.inr ⟨by rfl,z λa b c e=>by cases e⟩)
def AK{fa fd:ED}(h1:fa Y=some (z8 t))(h2:fd Y=some (e9 P)):mN false fa fd Y=some (.bl (P.lookup t).isSome):=by unfold mN;rw[h1,h2];show some (D.bl (kK (jD P) (jQ P) (Bv (t:Int))).isSome)=_;rw[sK,Ef]
def AZ{fa fd:ED}(h2:fd Y=some (e9 P)):jS b fa (d8 fd) Y=none:=by
 have:d8 fd Y=none:=by unfold d8;rw[h2];rfl
 unfold jS;rw[this];cases fa Y<;>rfl
def LK{fa fd:ED}{t v:Nat}(h1:fa Y=some (z8 t))(h2:fd Y=some (e9 P))(h:P.lookup t=some v):m8 fd fa Y=some (z8 v):=by unfold m8;rw[h1,h2];show kK (jD P) (jQ P) (Bv (t:Int))=_;rw[sK,h];rfl
def Wa(b c:D):IK [.tup ((w8 m cl m).map j0),e9 P,b,c]=some (.bl (rO cl m P b c)):=by
 refine mG (x:=NY [sC (.tup ((w8 m cl m).map j0)),sC (e9 P),sC b,sC c]) ?_;rcases FN b with hb|⟨i,rfl⟩
 .refine mL ((K9 (a:=true) ((Z0 (a:=!zG b) (b:=false) (nY (v7 ((x6 (ds:=[b]) rfl).trans (yE b)))) λz=>by rw[hb]at z;cases z).trans (by rw[hb];rfl))).trans ?_)
  rw[if_pos rfl];refine(j7 rfl).trans ?_
  cases b<;>first|rfl|cases hb
 .rcases FN c with hc|⟨j,rfl⟩
  .refine mL ((K9 (a:=true) ((Z0 (a:=false) (b:=true) (nY (v7 ((x6 (ds:=[.int i]) rfl).trans (yE (.int i))))) λ_=>(Z0 (a:=!zG c) (b:=false) (nY (v7 ((x6 (ds:=[c]) rfl).trans (yE c)))) λz=>by rw[hc]at z;cases z).trans (by rw[hc];rfl)))).trans ?_)
   rw[if_pos rfl];refine(j7 rfl).trans ?_
   cases c<;>first|rfl|cases hc
  .have e1:jS true (jW (kF 2 3)) (d8 (z7 0)) [sC (.tup ((w8 m cl m).map j0)),sC (e9 P),sC (.int i),sC (.int j)]=some (.bl (!decide ((i,j)∈w8 m cl m))):=by
    refine(wH (neg:=true) (d:=j0 (i,j)) rfl (ds:=(w8 m cl m).map j0) rfl (B3 (DE _) (by decide)) (by rw[CO];decide)).trans ?_
    rw[if_pos rfl,EF]
   have e2:lM (kN (y9 (x8 vX (jT 2)))) (lM (kN (y9 (x8 vX (jT 3)))) (y9 (jS true (jW (kF 2 3)) (d8 (z7 0))))) [sC (.tup ((w8 m cl m).map j0)),sC (e9 P),sC (.int i),sC (.int j)]=some (!decide ((i,j)∈w8 m cl m)):=by refine(Z0 (a:=false) (nY (v7 ((x6 (ds:=[.int i]) rfl).trans (yE (.int i))))) λ_=>Z0 (a:=false) (nY (v7 ((x6 (ds:=[.int j]) rfl).trans (yE (.int j))))) λ_=>v7 e1).trans ?_;simp
   by_cases hm:(i,j)∈w8 m cl m
   .rw[decide_eq_true hm]at e2;refine v5 ((K9 e2).trans rfl) ?_;obtain⟨x,y,e,h1,h2,h3,h4⟩:=Y0.mp hm;cases e
    have ci:rO cl m P (.int (x:Int)) (.int (y:Int))=same P x y:=by show (decide (((x:Int),(y:Int))∈w8 m cl m)&&same P (x:Int).toNat (y:Int).toNat)=_;rw[decide_eq_true hm,Ai,Ai,Dw]
    rw[ci];refine(j7 (r9 (a:=(P.lookup x).isSome) (b:=(P.lookup y).isSome&&same P x y) ((wK (AZ rfl)).trans (AK rfl rfl)) λhx=>r9 (a:=(P.lookup y).isSome) (b:=same P x y) ((wK (AZ rfl)).trans (AK rfl rfl)) λhy=>?_)).trans ?_
    .obtain⟨v,hv⟩:=Ct.mp hx;obtain⟨w,hw⟩:=Ct.mp hy;refine(jI (x:=z8 v) (y:=z8 w) (LK rfl rfl hv) (LK rfl rfl hw)).trans ?_;rw[yF];unfold same;rw[hv,hw];by_cases e:v=w
     .subst e;simp
     .have e':¬w=v:=λz=>e z.symm;simp[e,e']
    .unfold same
     cases hx:P.lookup x with
     |none=>rfl
     |some v=>
      cases hy:P.lookup y with
      |none=>rfl
      |some w=>simp
   .rw[decide_eq_false hm]at e2;refine mL ((K9 e2).trans ?_);rw[if_pos (by rfl)];refine(j7 rfl).trans ?_;show _=some (Out.rt (D.bl (decide ((i,j)∈w8 m cl m)&&_)));rw[decide_eq_false hm];rfl
end
theorem KO{h:D->J5->Option J5}{g:EO}(I:J5->Prop)(t:Nat->D->Bool):∀(ps:List D) (k:Nat) (Y:J5),I Y ->
  (∀i d Y,d∈ps->i<k+ps.length->I Y->∃Y1,h (.tup [z8 i,d]) Y=some Y1/\if t i d=true then ∃Y2,g Y1=some (.nx Y2)/\I Y2 else g Y1=some (.rt (.bl false))) ->
  if oZ t k ps=true then ∃Y',kH h g (lS k ps) Y=some (.nx Y')/\I Y' else kH h g (lS k ps) Y=some (.rt (.bl false))
 | [],k,Y,hI,_=>by rw[oZ,if_pos rfl];exact⟨Y,rfl,hI⟩
 |d::ps,k,Y,hI,hs=>by
  rw[oZ];obtain⟨Y1,e1,e2⟩:=hs k d Y A6 (by rw[Av];omega) hI
  cases ht:t k d with
  |true=>
   rw[ht,if_pos rfl]at e2;obtain⟨Y2,e2,I2⟩:=e2;have ih:=KO I t ps (k+1) Y2 I2 λi d' Y' hd hi=>hs i d' Y' (A7 _ hd) (by rw[Av];omega)
   rw[Dw];have e3:kH h g (lS k (d::ps)) Y=kH h g (lS (k+1) ps) Y2:=qY (d:=.tup [z8 k,d]) e1 e2;rw[e3];exact ih
  |false=>rw[ht,if_neg (by decide)]at e2;rw[Bool.false_and,if_neg (by decide)];exact Rh (d:=.tup [z8 k,d]) e1 e2
section
variable{cl:Nat->Nat->Bool}{m K u:Nat}{P:List (Nat×Nat)}{n:Int}{ts:List f8}{r:List Int}{prs:D}
def ļ(Fr:LD):EO:=
 jL (kN (y9 (x8 Fr (z9 (z7 0) (z9 (z7 1) (z9 (x8 sS (kQ 2 4 6)) (kF 3 7)))))))
 lX
 Y1
def JB(d:D):n9 m d=false\/∃x:Nat,d=z8 x/\x<m:=by
 rcases FN d with h|⟨t,rfl⟩
 .exact .inl (by cases d<;>first|rfl|cases h)
 .by_cases h:0<=t/\t<(m:Int)
  .exact .inr ⟨t.toNat,by unfold z8;rw[Hj h.1],by omega⟩
  .exact .inl (decide_eq_false h)
theorem QQ(h:n9 m b=false):qM rc m w P b c=false:=by
 cases b with
 |int t=>
  have h':decide (0<=t/\t<(m:Int))=false:=h
  cases c with
  |tup ps=>show (decide (0<=t/\t<(m:Int))&&_)=false;rw[h'];rfl
  |_=>rfl
 |_=>rfl
def zK{w x:Nat}(hx:x<m):qM rc m w P (z8 x) (.tup ps)=(!(P.lookup x).isSome&&(decide (ps.length=w)&&oZ (rc x) 0 ps)):=by show (decide (0<=(x:Int)/\(x:Int)<(m:Int))&&(decide ((x:Int).toNat∉P.map B5)&&(decide (ps.length=w)&&oZ (rc (x:Int).toNat) 0 ps)))=_;rw[decide_eq_true (by omega),Dw,Ai,qC];by_cases h:x∈P.map B5<;>simp[h]
def oB{a:Bool}{ga:EB}{g k:EO}{o:Option Out}(h:ga Y=some true)(h2:g Y=some (.rt (.bl false))):J8 (jL ga g Y1) k Y=some (.rt (.bl false)):=mL ((K9 h).trans (by rw[if_pos rfl];exact h2))
def nF{ga:EB}{g k:EO}{o:Option Out}(h:ga Y=some false)(h2:k Y=o):J8 (jL ga g Y1) k Y=o:=v5 ((K9 h).trans rfl) h2
theorem AT(d:D):mO "tuple" d=false\/∃ps,d = .tup ps:=by
 cases d with
 |tup ps=>exact .inr ⟨ps,rfl⟩
 |_=>exact .inl rfl
def vC{fa:ED}(h:fa Y=some (.tup ps)):kN (y9 (mF "tuple" fa)) Y=some false:=(nY (v7 (wP h))).trans rfl
def BY{fa:ED}{d:D}(h:fa Y=some d)(ht:mO "tuple" d=false):kN (y9 (mF "tuple" fa)) Y=some true:=(nY (v7 (wP h))).trans (by rw[ht];rfl)
def vV{d:D}(h:depth (.tup ps)<=jK)(hd:d∈ps):depth d<=jK:=by obtain⟨i,hi,rfl⟩:=Dj hd;have h1:=uI (A3 hi);rw[depth]at h;omega
def Vi{Fr:LD}{rc:Nat->Nat->D->Bool}(h:Pg ts.length u P)(hl:ts.length<=1000)(hK:K<=1000){b c:D}(hc:depth c<=jK)(hF:∀t v d,t<ts.length->t∉P.map B5->v<=u->depth d<=jK->Fr [Y9 n ts,prs,e9 (P++[(t,v)]),z8 K,d]=some (.bl (rc t v d))):
  IC Fr [Y9 n ts,prs,e9 P,z8 K,b,c]=some (.bl (qM rc ts.length (Ew K (u+1)) P b c)):=by
 refine mG (x:=NL Fr [sC (Y9 n ts),sC prs,sC (e9 P),sC (z8 K),sC b,sC c,none,none]) ?_;rcases JB (m:=ts.length) b with hb|⟨x,rfl,hx⟩
 .rw[QQ hb];exact oB (a:=true) (o:=none) ((Z0 (a:=true) (b:=false) ((nY (v7 ((x6 (ds:=[Y9 n ts,b]) rfl).trans (N8 b)))).trans (by rw[hb];rfl)) λz=>nomatch z).trans rfl) (j7 rfl)
 .have e0:kN (y9 (x8 DR (kF 0 4))) [sC (Y9 n ts),sC prs,sC (e9 P),sC (z8 K),sC (z8 x),sC c,none,none]=some false:=
   (nY (v7 ((x6 (ds:=[Y9 n ts,z8 x]) rfl).trans (N8 (z8 x))))).trans (by
    show some (!decide (0<=(x:Int)/\(x:Int)<(ts.length:Int)))=_
    rw[decide_eq_true (by omega)];rfl)
  have e1:=Z0 (b:=(P.lookup x).isSome) e0 λ_=>(wK (f:=y9 (jS false (z7 4) (d8 (z7 2)))) (g:=y9 (mN false (z7 4) (z7 2))) (by unfold y9;rw[AZ (P:=P) rfl])).trans (v7 (AK (P:=P) (t:=x) rfl rfl))
  rw[El]at e1
  cases hs:(P.lookup x).isSome with
  |true=>
   rw[hs]at e1
   have z:qM rc ts.length (Ew K (u+1)) P (z8 x) c=false:=by
    rcases AT c with hc|⟨ps,rfl⟩
    .cases c<;>first|rfl|cases hc
    .rw[zK hx,hs];rfl
   rw[z];exact oB (a:=true) (o:=none) e1 (j7 rfl)
  |false=>
   rw[hs]at e1
   have iK:x∉P.map B5:=λz=>by rw[qC,decide_eq_true z]at hs;cases hs
   refine nF e1 ?_;rcases AT c with be|⟨ps,rfl⟩
   .have z:qM rc ts.length (Ew K (u+1)) P (z8 x) c=false:=by cases c<;>first|rfl|cases be
    rw[z];exact oB (a:=true) (o:=none) ((Z0 (a:=true) (b:=false) (BY rfl be) λz=>nomatch z).trans rfl) (j7 rfl)
   .rw[zK hx,hs,Bool.not_false,Dw]
    have e2:=Z0 (a:=false) (b:=!decide (ps.length=Ew K (u+1))) (ga:=kN (y9 (mF "tuple" (z7 5)))) (gb:=y9 (d2 lP (jP (d8 (z7 5))) (jP (d8 (x8 Y3 (kF 2 3))))))
     (Y:=[sC (Y9 n ts),sC prs,sC (e9 P),sC (z8 K),sC (z8 x),sC (.tup ps),none,none]) (vC rfl) λ_=>v7 ((jI (x:=z8 ps.length) (y:=z8 (Ew K (u+1))) (l9 rfl) ((l9 (m9 ((x6 (ds:=[e9 P,z8 K]) rfl).trans (JR h.use (B3 h.len hl) hK)))).trans (by rw[A0,An];rfl))).trans (by
      show some (D.bl (!((ps.length:Int)==((Ew K (u+1):Nat):Int))))=_;by_cases z:ps.length=Ew K (u+1)
      .rw[z];simp
      .rw[decide_eq_false z];have z':¬(ps.length:Int)=((Ew K (u+1):Nat):Int):=λy=>z (by omega)
       rw[beq_eq_false_iff_ne.mpr z']))
    rw[El]at e2;by_cases hw:ps.length=Ew K (u+1)
    .rw[decide_eq_true hw]at e2 ⊢;refine nF e2 ?_;rw[Dw]
     have lp:=KO (h:=qE 2 (mH (u5 6) (mH (u5 7) qD))) (g:=ļ Fr) (λY=>∃c6 c7,Y=[sC (Y9 n ts),sC prs,sC (e9 P),sC (z8 K),sC (z8 x),sC (.tup ps),c6,c7]) (rc x) ps 0 _ ⟨none,none,rfl⟩ (λi d Y hd hi hI=>by
      obtain⟨c6,c7,rfl⟩:=hI;have ef:=hF x i d hx iK (by omega) (vV hc hd);have ew:=KL (P:=P) (t:=x) (v:=i) h.nd iK (B3 h.len hl)
      have et:kN (y9 (x8 Fr (z9 (z7 0) (z9 (z7 1) (z9 (x8 sS (kQ 2 4 6)) (kF 3 7))))))
        [sC (Y9 n ts),sC prs,sC (e9 P),sC (z8 K),sC (z8 x),sC (.tup ps),sC (z8 i),sC d]=some (!rc x i d):=
       nY (v7 ((x6 (u3 rfl (u3 rfl (u3 ((x6 (ds:=[e9 P,z8 x,z8 i]) rfl).trans ew) (u3 rfl (u3 rfl rfl)))))).trans ef))
      refine⟨_,rfl,?_⟩
      cases hr:rc x i d with
      |true=>rw[if_pos rfl];rw[hr]at et;exact⟨_,(K9 et).trans rfl,_,_,rfl⟩
      |false=>
       rw[if_neg (by decide)];rw[hr]at et
       exact(K9 et).trans rfl)
     cases ha:oZ (rc x) 0 ps with
     |true=>rw[ha,if_pos rfl]at lp;obtain⟨Y',e3,_⟩:=lp;exact v5 ((mJ (ds:=lS 0 ps) rfl).trans e3) (j7 rfl)
     |false=>rw[ha,if_neg (by decide)]at lp;exact mL ((mJ (ds:=lS 0 ps) rfl).trans lp)
    .rw[decide_eq_false hw]at e2 ⊢;exact oB (a:=true) (o:=none) e2 (j7 rfl)
theorem Po(hl:ts.length<=1000)(hK:K<=1000):∀(q u:Nat) (P:List (Nat×Nat)) (d:D),Pg ts.length u P->ts.length<q+P.length->depth d<=jK ->
  AG q [Y9 n ts,.tup ((w8 ts.length cl ts.length).map j0),e9 P,z8 K,d]=some (.bl (chk cl ts.length K q P u d))
 | 0,u,P,d,h,hq,_=>absurd h.len (by omega)
 |q+1,u,P,d,h,hq,hd=>by
  refine mG (x:=N5 (AG q) [sC (Y9 n ts),sC (.tup ((w8 ts.length cl ts.length).map j0)),sC (e9 P),sC (z8 K),sC d]) ?_;rcases TW (cl:=cl) (m:=ts.length) (K:=K) d with⟨a,b,c,rfl⟩|⟨xs,rfl,hx,hz⟩|⟨ht,hz⟩
  .have ha:=vV hd (d:=a) (by simp);have hb:=vV hd (d:=b) (by simp);have hc:=vV hd (d:=c) (by simp);refine nF ((Z0 (a:=false) (b:=false) (vC rfl) λ_=>v7 ((jI (x:=z8 3) (y:=z8 3) (l9 (ds:=[a,b,c]) rfl) rfl).trans rfl)).trans rfl) ?_;have e1:=v7 ((jI (f:=kM) (x:=a) (y:=.str "tie") (fa:=jC 4 0) (fb:=dC (.str "tie")) (Y:=[sC (Y9 n ts),sC (.tup ((w8 ts.length cl ts.length).map j0)),sC (e9 P),sC (z8 K),sC (.tup [a,b,c])]) rfl rfl).trans (Nk ha))
   show _=some (Out.rt (D.bl (if nD "tie" a=true then qM (λt k d=>chk cl ts.length K q (P++[(t,k)]) (if k=u then u+1 else u) d) ts.length (Ew K (u+1)) P b c else if nD "clash" a=true then rO cl ts.length P b c else false)))
   cases h1:nD "tie" a with
   |true=>rw[h1]at e1;rw[if_pos rfl];refine mL ((K9 e1).trans ?_);rw[if_pos rfl];refine j7 ((x6 (ds:=[Y9 n ts,.tup ((w8 ts.length cl ts.length).map j0),e9 P,z8 K,b,c]) rfl).trans ?_);refine Vi h hl hK hc λt v d' ht hn hv bn=>?_;exact Po hl hK q (if v=u then u+1 else u) (P++[(t,v)]) d' (h.add ht hn hv) (by rw[Af,Ay];omega) bn
   |false=>rw[h1]at e1;rw[if_neg (by decide)];refine nF e1 ?_;refine(j7 (r9 (a:=nD "clash" a) (b:=rO cl ts.length P b c) ((jI (x:=a) (y:=.str "clash") rfl rfl).trans (Nk ha)) λ_=>(x6 (ds:=[.tup ((w8 ts.length cl ts.length).map j0),e9 P,b,c]) rfl).trans (Wa b c))).trans ?_;cases nD "clash" a<;>rfl
  .rw[hz];refine oB (a:=true) (o:=none) ((Z0 (a:=false) (b:=true) (vC rfl) λ_=>v7 ((jI (x:=z8 xs.length) (y:=z8 3) (l9 (ds:=xs) rfl) rfl).trans ?_)).trans rfl) (j7 rfl);show some (D.bl (!((xs.length:Int)==((3:Nat):Int))))=_;rw[beq_eq_false_iff_ne.mpr (λy=>hx (by omega))];rfl
  .rw[hz];exact oB (a:=true) (o:=none) ((Z0 (a:=true) (b:=false) (BY rfl ht) λz=>nomatch z).trans rfl) (j7 rfl)
end
def Ϯ(h:depth d<=jK):lP d (.str s)=some (.bl (!nD s d)):=by
 unfold lP;rw[if_pos ⟨h,by rw[depth]<;>simp⟩]
 rfl
theorem Ŋ(h:nD s d=true):d = .str s:=by
 cases d with
 |str x=>have h':(x==s)=true:=h;rw[Lr h']
 |_=>cases h
section
variable{cl:Nat->Nat->Bool}{m K u:Nat}{P:List (Nat×Nat)}
def Pq(d:D):wB [d,z8 m]=some (.bl (n9 m d)):=by
 refine mG (x:=NU [sC d,sC (z8 m)]) ?_;refine(j7 (r9 (a:=mO "int" d) (b:=!mO "bool" d&&n9 m d) (wP rfl) λh1=>r9 (a:=!mO "bool" d) (b:=n9 m d) (So (wP rfl)) λh2=>?_)).trans ?_
 .cases d with
  |int t=>exact Om rfl rfl
  |bl b=>cases h2
  |_=>cases h1
 .cases d with
  |int t=>rfl
  |_=>rfl
def P6{fo fa fb:ED}{x:D}(h1:fa Y=some (z8 t))(h2:fo Y=some (e9 P))(h3:fb Y=some x):tP fo fa fb Y=some (((P.lookup t).map z8).getD x):=by unfold tP;rw[h1,h2,h3];show some ((kK (jD P) (jQ P) (Bv (t:Int))).getD x)=_;rw[sK]
def YA{fa:EL}{vs:List Nat}(h:fa Y=some (vs.map z8))(hl:vs.length<=1000):t9 fa Y=some (z8 (sX vs)):=by
 unfold t9;rw[h];dsimp only;rw[zL];dsimp only;rw[if_pos (by rw[A0];omega)]
 rfl
theorem QP(h:n9 m b=false\/n9 m c=false):rO cl m P b c=false:=by
 cases b with
 |int i=>
  cases c with
  |int j=>
   show (decide ((i,j)∈w8 m cl m)&&_)=false;rw[decide_eq_false λz=>?_]
   .rfl
   .obtain⟨x,y,e,h1,h2,h3,_⟩:=Y0.mp z;cases e;rcases h with h|h
    .have:decide (0<=(x:Int)/\(x:Int)<(m:Int))=false:=h
     rw[decide_eq_true (by omega)]at this;cases this
    .have:decide (0<=(y:Int)/\(y:Int)<(m:Int))=false:=h
     rw[decide_eq_true (by omega)]at this;cases this
  |_=>rfl
 |_=>rfl
abbrev eL(cl:Nat->Nat->Bool)(m K:Nat)(P:List (Nat×Nat))(d:D)(c5 c6 c7 c8 c9:Option Cell):J5:=[sC (.lst ((w8 m cl m).map j0)),sC (z8 m),sC (z8 K),sC (e9 P),sC d,c5,c6,c7,c8,c9]
def ő:EO:=
 J8 (jL (lM (kN (y9 (x8 wB (z9 (jC 4 2) (jT 1))))) (y9 (jS true (jW (z9 (jC 4 1) (z9 (jC 4 2) i3))) (d8 (z7 0)))))
 lX
 Y1)
 (J8 (i8 5 (tP (z7 3) (jC 4 1) (n8 (dI 1))))
 (jB (o4 (d2 yX (z7 5) (dI 0)) (d2 kM (z7 5) (tP (z7 3) (jC 4 2) (n8 (dI 2)))))))
def YB{a c:D}{x:Nat}(hx:x<m):ő (eL cl m K P (.tup [a,z8 x,c]) none none none none none)=some (.rt (.bl (rO cl m P (z8 x) c))):=by
 have e0:kN (y9 (x8 wB (z9 (jC 4 2) (jT 1)))) (eL cl m K P (.tup [a,z8 x,c]) none none none none none)=some (!n9 m c):=nY (v7 ((x6 (ds:=[c,z8 m]) rfl).trans (Pq c)))
 rcases JB (m:=m) c with hc|⟨y,rfl,hy⟩
 .rw[QP (.inr hc)];rw[hc]at e0;exact oB (a:=true) (o:=none) ((Z0 (b:=false) e0 λz=>nomatch z).trans rfl) (j7 rfl)
 .have hn:n9 m (z8 y)=true:=decide_eq_true (by omega);rw[hn]at e0
  have e1:jS true (jW (z9 (jC 4 1) (z9 (jC 4 2) i3))) (d8 (z7 0)) (eL cl m K P (.tup [a,z8 x,z8 y]) none none none none none)=some (.bl (!decide (((x:Int),(y:Int))∈w8 m cl m))):=by
   refine(wH (neg:=true) (d:=j0 ((x:Int),(y:Int))) rfl (ds:=(w8 m cl m).map j0) rfl (B3 (DE _) (by decide)) (by rw[CO];decide)).trans ?_
   rw[if_pos rfl,EF]
  have e2:=Z0 e0 λ_=>v7 e1;rw[Bool.not_true,El]at e2
  have ci:rO cl m P (z8 x) (z8 y)=(decide (((x:Int),(y:Int))∈w8 m cl m)&&same P x y):=by show (decide (((x:Int),(y:Int))∈w8 m cl m)&&same P (x:Int).toNat (y:Int).toNat)=_;rw[Ai,Ai]
  rw[ci];by_cases hm:((x:Int),(y:Int))∈w8 m cl m
  .rw[decide_eq_true hm]at e2 ⊢;refine nF e2 ?_;rw[Dw];refine v5 (J4 (P6 (P:=P) (t:=x) (x:=.int (-1)) rfl rfl rfl)) ?_;unfold same
   cases hv:P.lookup x with
   |none=>exact(j7 (r9 (a:=false) (b:=false) ((jI (x:=.int (-1)) (y:=.int 0) rfl rfl).trans rfl) λz=>nomatch z)).trans rfl
   |some v=>
    refine(j7 (r9 (a:=true) (b:=P.lookup y==some v) ((jI (x:=z8 v) (y:=.int 0) rfl rfl).trans ?_) λ_=>(jI (x:=z8 v) rfl (P6 (P:=P) (t:=y) (x:=.int (-2)) rfl rfl rfl)).trans ?_)).trans ?_
    .show some (D.bl (decide ((0:Int)<=(v:Int))))=_;rw[decide_eq_true (by omega)]
    .cases hw:P.lookup y with
     |none=>show some (D.bl (((v:Int)==-2)))=_;rw[beq_eq_false_iff_ne.mpr (by omega)];rfl
     |some w=>
      show kM (z8 v) (z8 w)=_;rw[yF];by_cases e:v=w
      .subst e;simp
      .have e':¬w=v:=λz=>e z.symm;simp[e,e']
    .rw[Dw]
  .rw[decide_eq_false hm]at e2 ⊢;exact oB (a:=true) (o:=none) e2 (j7 rfl)
def LP(Fr:LD):EO:=
 J8 (rM 9 (wN (z7 3)))
 (J8 (nK 9 (jC 4 1) (z7 7))
 (jL (kN (y9 (pT 9 (x8 Fr (xC 0 1 2 9 8)))))
 lX
 Y1))
def Xi{Fr:LD}{a c d:D}{x i:Nat}(ay:(P.map B5).Nodup)(hn:x∉P.map B5)(hl:P.length<=1000){c5 c6 c9:Option Cell}(hF:Fr [.lst ((w8 m cl m).map j0),z8 m,z8 K,e9 (P++[(x,i)]),d]=some (.bl b)):
  ∃eD,LP Fr (eL cl m K P (.tup [a,z8 x,c]) c5 c6 (sC (z8 i)) (sC d) c9)=if b=true then some (.nx (eL cl m K P (.tup [a,z8 x,c]) c5 c6 (sC (z8 i)) (sC d) eD)) else some (.rt (.bl false)):=by
 refine⟨some (.od (jD (P++[(x,i)])) (jQ (P++[(x,i)]))),?_⟩;refine v5 (Y':=eL cl m K P (.tup [a,z8 x,c]) c5 c6 (sC (z8 i)) (sC d) (some (.od (jD P) (jQ P)))) rfl ?_;refine v5 (Ti (P:=P) (t:=x) (v:=i) rfl rfl rfl ay hn hl) ?_
 have e1:pT 9 (x8 Fr (xC 0 1 2 9 8)) (eL cl m K P (.tup [a,z8 x,c]) c5 c6 (sC (z8 i)) (sC d) (some (.od (jD (P++[(x,i)])) (jQ (P++[(x,i)])))))=some (.bl b):=by show (match Fr [.lst ((w8 m cl m).map j0),z8 m,z8 K,e9 (P++[(x,i)]),d] with|some d=>if sB d=true then some d else none|none=>none)=_;rw[hF];rfl
 refine(K9 (nY (v7 e1))).trans ?_;cases b<;>rfl
def Zh(Fr:LD):EO:=
 J8 (i8 6 (t9 (AJ 3)))
 (J8 (jL (y9 (d2 lP (jP (d8 (jC 4 2))) (x8 o9 (z9 (z7 2) (z9 (d2 jN (z7 6) (dI 1)) i3)))))
 lX
 Y1)
 (J8 (lG (wC (jC 4 2)) (qE 2 (mH (u5 7) (mH (u5 8) (qD)))) (LP Fr))
 (jB (dC (.bl true)))))
def S5(a b:Nat):lP (z8 a) (z8 b)=some (.bl (!decide (a=b))):=by
 show some (D.bl (!((a:Int)==(b:Int))))=_;by_cases z:a=b
 .subst z;simp
 .rw[decide_eq_false z,beq_eq_false_iff_ne.mpr (λy=>z (by omega))]
def Ú{Fr:LD}{rc:Nat->Nat->D->Bool}(h:Pg m u P)(hl:m<=1000){a:D}(gz:depth (.tup ps)<=jK){x:Nat}(hx:x<m)(hn:x∉P.map B5)(hF:∀v d,v<=u->depth d<=jK->Fr [.lst ((w8 m cl m).map j0),z8 m,z8 K,e9 (P++[(x,v)]),d]=some (.bl (rc x v d))):
  Zh Fr (eL cl m K P (.tup [a,z8 x,.tup ps]) none none none none none)=some (.rt (.bl (decide (ps.length=Ew K (u+1))&&oZ (rc x) 0 ps))):=by
 have hP:P.length<=1000:=B3 h.len hl
 have e0:AJ 3 (eL cl m K P (.tup [a,z8 x,.tup ps]) none none none none none)=some ((P.map Kz).map z8):=by show (if (jD P).length<=f9 then some (jQ P) else none)=_;rw[if_pos (by unfold jD;rw[A0];unfold f9;omega),Te]
 have e1:=YA e0 (by rw[A0];exact hP)
 rw[IT (u:=u) λv=>by rw[<-h.use v,Ah]]at e1;refine v5 (J4 e1) ?_
 have e2:y9 (d2 lP (jP (d8 (jC 4 2))) (x8 o9 (z9 (z7 2) (z9 (d2 jN (z7 6) (dI 1)) i3)))) (eL cl m K P (.tup [a,z8 x,.tup ps]) none (sC (z8 u)) none none none)=some (!decide (ps.length=Ew K (u+1))):=by refine v7 ((jI (x:=z8 ps.length) (y:=z8 (Ew K (u+1))) (l9 (ds:=ps) rfl) ?_).trans (S5 _ _));refine(x6 (ds:=[.int (K:Int),.int ((u:Int)+1)]) rfl).trans ((FQ _ _).trans ?_);show some (D.int (Ew (K:Int) ((u:Int)+1)))=some (D.int ((Ew K (u+1):Nat):Int));congr 2;omega
 by_cases hw:ps.length=Ew K (u+1)
 .rw[decide_eq_true hw]at e2 ⊢;refine nF e2 ?_;rw[Dw]
  have lp:=KO (h:=qE 2 (mH (u5 7) (mH (u5 8) qD))) (g:=LP Fr) (λY=>∃c7 c8 c9,Y=eL cl m K P (.tup [a,z8 x,.tup ps]) none (sC (z8 u)) c7 c8 c9) (rc x) ps 0 _ ⟨none,none,none,rfl⟩ (λi d Y hd hi hI=>by
   obtain⟨c7,c8,c9,rfl⟩:=hI;obtain⟨eD,e⟩:=Xi (cl:=cl) (m:=m) (K:=K) (a:=a) (c:=.tup ps) (c5:=none) (c6:=sC (z8 u)) (c9:=c9) h.nd hn hP (hF i d (by omega) (vV gz hd));refine⟨eL cl m K P (.tup [a,z8 x,.tup ps]) none (sC (z8 u)) (sC (z8 i)) (sC d) c9,rfl,?_⟩
   cases hr:rc x i d with
   |true=>rw[hr,if_pos rfl]at e;rw[if_pos rfl];exact⟨_,e,_,_,_,rfl⟩
   |false=>
    rw[hr,if_neg (by decide)]at e;rw[if_neg (by decide)]
    exact e)
  cases ha:oZ (rc x) 0 ps with
  |true=>rw[ha,if_pos rfl]at lp;obtain⟨Y',e3,_⟩:=lp;exact v5 ((mJ (ds:=lS 0 ps) rfl).trans e3) (j7 rfl)
  |false=>rw[ha,if_neg (by decide)]at lp;exact mL ((mJ (ds:=lS 0 ps) rfl).trans lp)
 .rw[decide_eq_false hw]at e2 ⊢;exact oB (a:=true) (o:=none) e2 (j7 rfl)
theorem PN(hl:m<=1000):∀(q u:Nat) (P:List (Nat×Nat)) (d:D),Pg m u P->m<q+P.length->depth d<=jK ->
  Q2 q [.lst ((w8 m cl m).map j0),z8 m,z8 K,e9 P,d]=some (.bl (chk cl m K q P u d))
 | 0,u,P,d,h,hq,_=>absurd h.len (by omega)
 |q+1,u,P,d,h,hq,hd=>by
  refine mG (x:=NM (Q2 q) (eL cl m K P d none none none none none)) ?_;rcases TW (cl:=cl) (m:=m) (K:=K) d with⟨a,b,c,rfl⟩|⟨xs,rfl,hx,hz⟩|⟨ht,hz⟩
  .have ha:=vV hd (d:=a) (by simp);have hc:=vV hd (d:=c) (by simp)
   have e1:lM (kN (y9 (mF "tuple" (z7 4)))) (lM (y9 (d2 lP (jP (d8 (z7 4))) (dI 3))) (kN (y9 (x8 wB (z9 (jC 4 1) (jT 1)))))) (eL cl m K P (.tup [a,b,c]) none none none none none)=some (!n9 m b):=(Z0 (a:=false) (vC rfl) λ_=>Z0 (a:=false) (v7 ((jI (x:=z8 3) (y:=z8 3) (l9 (ds:=[a,b,c]) rfl) rfl).trans rfl)) λ_=>nY (v7 ((x6 (ds:=[b,z8 m]) rfl).trans (Pq b)))).trans (by rw[El,El])
   show _=some (Out.rt (D.bl (if nD "tie" a=true then qM (λt k d=>chk cl m K q (P++[(t,k)]) (if k=u then u+1 else u) d) m (Ew K (u+1)) P b c else if nD "clash" a=true then rO cl m P b c else false)));rcases JB (m:=m) b with hb|⟨x,rfl,hx⟩
   .rw[hb]at e1;rw[QQ hb,QP (.inl hb)];refine(oB (a:=true) (o:=none) e1 (j7 rfl)).trans ?_;split
    .rfl
    .split<;>rfl
   .have hn:n9 m (z8 x)=true:=decide_eq_true (by omega);rw[hn]at e1;refine nF e1 ?_;have e2:=v7 ((jI (f:=kM) (x:=a) (y:=.str "clash") (fa:=jC 4 0) (fb:=dC (.str "clash")) (Y:=eL cl m K P (.tup [a,z8 x,c]) none none none none none) rfl rfl).trans (Nk ha))
    cases h1:nD "clash" a with
    |true=>
     rw[h1]at e2
     have z:nD "tie" a=false:=by rw[Ŋ h1];decide +kernel
     rw[z,if_neg (by decide),if_pos rfl];refine mL ((K9 e2).trans ?_);rw[if_pos rfl];exact YB hx
    |false=>
     rw[h1]at e2;refine nF e2 ?_;rw[if_neg (show ¬false=true by decide)];have e3:=v7 ((jI (f:=lP) (x:=a) (y:=.str "tie") (fa:=jC 4 0) (fb:=dC (.str "tie")) (Y:=eL cl m K P (.tup [a,z8 x,c]) none none none none none) rfl rfl).trans (Ϯ ha));have e4:=(wK (f:=y9 (jS false (jC 4 1) (d8 (z7 3)))) (g:=y9 (mN false (jC 4 1) (z7 3))) (Y:=eL cl m K P (.tup [a,z8 x,c]) none none none none none) (by unfold y9;rw[AZ (P:=P) rfl])).trans (v7 (AK (P:=P) (t:=x) rfl rfl))
     cases h2:nD "tie" a with
     |false=>rw[h2]at e3;rw[if_neg (by decide)];exact oB (a:=true) (o:=none) ((Z0 (b:=false) e3 λz=>nomatch z).trans rfl) (j7 rfl)
     |true=>
      rw[h2]at e3;rw[if_pos rfl]
      cases hs:(P.lookup x).isSome with
      |true=>
       rw[hs]at e4
       have z:∀rc:Nat->Nat->D->Bool,qM rc m (Ew K (u+1)) P (z8 x) c=false:=λrc=>by
        rcases AT c with hc|⟨ps,rfl⟩
        .cases c<;>first|rfl|cases hc
        .rw[zK hx,hs];rfl
       rw[z];exact oB (a:=true) (o:=none) ((Z0 e3 λ_=>Z0 (b:=false) e4 λz=>nomatch z).trans rfl) (j7 rfl)
      |false=>
       rw[hs]at e4
       have iK:x∉P.map B5:=λz=>by rw[qC,decide_eq_true z]at hs;cases hs
       rcases AT c with be|⟨ps,rfl⟩
       .have z:∀rc:Nat->Nat->D->Bool,qM rc m (Ew K (u+1)) P (z8 x) c=false:=λrc=>by cases c<;>first|rfl|cases be
        rw[z];exact oB (a:=true) (o:=none) ((Z0 e3 λ_=>Z0 e4 λ_=>BY rfl be).trans rfl) (j7 rfl)
       .refine nF ((Z0 e3 λ_=>Z0 e4 λ_=>vC rfl).trans rfl) ?_;rw[zK hx,hs,Bool.not_false,Dw];exact Ú (rc:=λt k d=>chk cl m K q (P++[(t,k)]) (if k=u then u+1 else u) d) h hl hc hx iK λv d' hv bn=>PN hl q (if v=u then u+1 else u) (P++[(x,v)]) d' (h.add hx iK hv) (by rw[Af,Ay];omega) bn
  .rw[hz];refine oB (a:=true) (o:=none) ((Z0 (a:=false) (b:=true) (vC rfl) λ_=>(Z0 (a:=true) (b:=false) (v7 ((jI (x:=z8 xs.length) (y:=z8 3) (l9 (ds:=xs) rfl) rfl).trans ?_)) λz=>nomatch z).trans rfl).trans rfl) (j7 rfl);rw[S5,decide_eq_false hx];rfl
  .rw[hz];exact oB (a:=true) (o:=none) ((Z0 (a:=true) (b:=false) (BY rfl ht) λz=>nomatch z).trans rfl) (j7 rfl)
end
theorem PQ{t:Nat->D->Bool}:∀(ps:List D) (k:Nat),(∀i d,ps[i]?=some d->t (k+i) d=true)->oZ t k ps=true
 | [],_,_=>rfl
 |d::ps,k,h=>by
  have h0:=h 0 d rfl;rw[Nat.add_zero]at h0;rw[oZ,h0,Dw]
  exact PQ ps (k+1) λi d' e=>by
   have:=h (i+1) d' (by simpa using e)
   rw[show k+1+i=k+(i+1) by omega];exact this
def rT:Nat->D->Prop
 | 0,d=>∀xs,d≠.tup xs
 |n+1,d=>∀xs,d = .tup xs->xs.length<=1000/\∀x∈xs,rT n x
theorem EJ:∀{n k:Nat} {d:D},n<=k->rT n d->rT k d
 | 0,0,_,_,h=>h
 | 0,k+1,_,_,h=>λxs e=>absurd e (h xs)
 |n+1,0,_,hn,_=>absurd hn (by omega)
 |n+1,k+1,_,hn,h=>λxs e=>⟨(h xs e).1,λx hx=>EJ (by omega) ((h xs e).2 x hx)⟩
def KU{d:D}(h:∀xs,d≠.tup xs):rT n d:=EJ (Bh _) (show rT 0 d from h)
def KF{xs:List D}(hl:xs.length<=1000)(h:∀x∈xs,rT n x):rT (n+1) (.tup xs):=λys e=>by cases e;exact⟨hl,h⟩
theorem Oq{k:Nat}:∀{ds:List D},(∀d∈ds,depth d<=k)->Z8 ds<=k
 | [],_=>by rw[Z8];omega
 |d::ds,h=>by rw[Z8];have h1:=h d A6;have h2:=Oq (k:=k) λx hx=>h x (A7 _ hx);omega
def zW{k:Nat}{ds:List D}(h:∀d∈ds,depth d<=k):depth (.tup ds)<=k+1:=by
 rw[depth]
 have:=Oq h
 omega
section
variable{cl:Nat->Nat->Bool}{m K u:Nat}{R:Nat->List Nat}{G:List Nat}{P:List (Nat×Nat)}{gD:D}
structure oD(cl:Nat->Nat->Bool)(m K u:Nat)(P:List (Nat×Nat))(k:Nat)(d:D):Prop where
 ok:∀q,m<q+P.length->chk cl m K q P u d=true
 sl:rT k d
 dp:depth d<=k
def Ø{t v:Nat}(hn:t∉P.map B5):(P++[(t,v)]).lookup t=some v:=by
 have:P.lookup t=none:=by
  have:=qC (P:=P) (t:=t)
  rw[decide_eq_false hn]at this
  cases h:P.lookup t with
  |none=>rfl
  |some w=>rw[h]at this;cases this
 rw[List.lookup_append,this];simp
def Ù{t v j w:Nat}(h:P.lookup j=some w):(P++[(t,v)]).lookup j=some w:=by rw[List.lookup_append,h];rfl
def Yp(hg:jJ cl m R){t v j:Nat}(ht:t<m)(hj:j<m)(hc:cl t j=true)(hn:t∉P.map B5)(gG:P.lookup j=some v)(hP:P.length<m){u' k:Nat}:
  oD cl m K u' (P++[(t,v)]) (k+1) (.tup [.str "clash",.int (Ew (t:Int) (j:Int)),.int (Lh (t:Int) (j:Int))]):=by
 have ak:t≠j:=λz=>by subst z;rw[hg.ir]at hc;cases hc
 refine⟨λq hq=>?_,KF (by simp) λx hx=>KU λxs e=>?_,?_⟩
 .cases q with
  |zero=>rw[Af,Ay]at hq;omega
  |succ q=>
   show (if nD "tie" (.str "clash")=true then _ else if nD "clash" (.str "clash")=true then rO cl m (P++[(t,v)]) (.int (Ew (t:Int) (j:Int))) (.int (Lh (t:Int) (j:Int))) else false)=true;rw[if_neg (by decide +kernel),if_pos (by decide +kernel)];have l1:=Ø (v:=v) hn;have l2:(P++[(t,v)]).lookup j=some v:=Ù gG;show (decide ((Ew (t:Int) (j:Int),Lh (t:Int) (j:Int))∈w8 m cl m)&&same (P++[(t,v)]) (Ew (t:Int) (j:Int)).toNat (Lh (t:Int) (j:Int)).toNat)=true
   rcases Nat.lt_or_gt_of_ne ak with z|z
   .have e1:Ew (t:Int) (j:Int)=(t:Int):=by omega
    have e2:Lh (t:Int) (j:Int)=(j:Int):=by omega
    rw[e1,e2,decide_eq_true (Y0.mpr ⟨t,j,rfl,ht,z,hj,hc⟩),Ai,Ai];unfold same;rw[l1,l2];simp
   .have e1:Ew (t:Int) (j:Int)=(j:Int):=by omega
    have e2:Lh (t:Int) (j:Int)=(t:Int):=by omega
    rw[e1,e2,decide_eq_true (Y0.mpr ⟨j,t,rfl,hj,z,ht,by rw[hg.sy];exact hc⟩),Ai,Ai]
    unfold same;rw[l2,l1];simp
 .subst e;simp at hx
 .refine B3 (zW (k:=0) λx hx=>?_) (by omega);simp only[Ad,Eo,or_false]at hx;rcases hx with rfl|rfl|rfl<;>rw[depth]<;>simp
def Uc(d:D)(ds:List D):lU (d::ds) 0=some d:=by
 unfold lU pD;rw[if_pos (by decide),if_pos (by rw[Av];omega)]
 rfl
def ĥ:EL:=Y2 [none,some 2,some 5] (d8 (jH (d8 (z7 0)) (z7 4))) (u5 0) (oQ (kZ (y9 (jS false (z7 0) (d8 (z7 1)))) (y9 (mN false (z7 0) (z7 1)))) (y9 (d2 kM (m8 (z7 1) (z7 0)) (z7 2)))) (z7 0)
def Xx{t v:Nat}(ht:t<m)(hl:(R t).length<=1000){c6:Option Cell}:ĥ [sC (i9 R m),sC gD,sC (e9 P),sC (z8 K),sC (z8 t),sC (z8 v),c6]=some (((R t).filter λj=>P.lookup j==some v).map z8):=by
 refine(mT (ds:=(R t).map z8) (m9 ((lY (ds:=(Aa m).map λi=>D.lst ((R i).map z8)) (j:=(t:Int)) rfl rfl).trans (FH ht))) (by rw[A0];unfold f9;omega)).trans ?_
 refine(K8 (λY=>∃c,Y=[c,sC (e9 P),sC (z8 v)]) (λd=>match d with|.int x=>P.lookup x.toNat==some v|_=>false) (λd=>d) _ _ ⟨none,rfl⟩ ?_).trans ?_
 .rintro d hd Y ⟨c,rfl⟩;obtain⟨j,hj,rfl⟩:=Ah.mp hd;refine⟨_,rfl,⟨_,rfl⟩,?_,λ_=>rfl⟩;refine(IW (a:=(P.lookup j).isSome) (b:=P.lookup j==some v) ((wK (by unfold y9;rw[AZ (P:=P) rfl])).trans (v7 (AK (P:=P) (t:=j) rfl rfl))) λh=>?_).trans ?_
  .obtain⟨w,hw⟩:=Ct.mp h;refine v7 ((jI (x:=z8 w) (y:=z8 v) (LK rfl rfl hw) rfl).trans ?_);rw[yF,hw];by_cases e:w=v<;>simp[e]
  .show some ((P.lookup j).isSome&&(P.lookup j==some v))=some (P.lookup (j:Int).toNat==some v);rw[Ai];cases P.lookup j<;>rfl
 .rw[Hb,xU (q:=λj=>P.lookup j==some v) _ (λi _=>by
   show (P.lookup (i:Int).toNat==some v)=_
   rw[Ai])]
theorem Ž(hg:jJ cl m R)(hG:mZ m G)(h:jU cl G K u P){t v:Nat}(ht:t∈G)(hn:t∉P.map B5)(hv:v<=u)(hvK:v<K){k:Nat}{Fr:LD}(hF:∀u',jU cl G K u' (P++[(t,v)])->u'=(if v=u then u+1 else u)->∃d,Fr [i9 R m,gD,e9 (P++[(t,v)]),z8 K]=some d/\oD cl m K u' (P++[(t,v)]) (k+1) d):
  ∃d,AH Fr [i9 R m,gD,e9 P,z8 K,z8 t,z8 v]=some d/\oD cl m K (if v=u then u+1 else u) (P++[(t,v)]) (k+1) d:=by
 have ca:=hG.lt t ht
 have hPG:P.length<G.length:=by
  have ay:(t::P.map B5).Nodup:=Bm.mpr ⟨hn,h.nd⟩
  have:=K4 _ G ay λx hx=>by
   rcases Ad.mp hx with z|z
   .rw[z];exact ht
   .obtain⟨y,hy,rfl⟩:=Ah.mp z;exact h.sub y hy
  rw[Av,A0]at this;exact this
 have hGm:=hG.len;have hm12:=hg.m12;have e1:=Xx (R:=R) (P:=P) (K:=K) (gD:=gD) (v:=v) (c6:=none) ca (hg.len t ca)
 have mem:∀j,j∈(R t).filter (λj=>P.lookup j==some v)↔j∈R t/\P.lookup j=some v:=λj=>by rw[Az];simp
 show ∃d,lA (DV Fr [sC (i9 R m),sC gD,sC (e9 P),sC (z8 K),sC (z8 t),sC (z8 v),none])=some d/\_;generalize (R t).filter (λj=>P.lookup j==some v)=cs at e1 mem
 cases cs with
 |nil=>
  have aY:∀x∈P,cl t x.1=true->x.2≠v:=λx hx hc e=>by
   have:=(mem x.1).mpr ⟨(hg.mem t ca x.1).mpr ⟨hG.lt _ (h.sub x hx),hc⟩,(vQ h.nd).mpr (by rw[<-e];exact hx)⟩
   simp at this
  obtain⟨d,ed,gd⟩:=hF _ (h.add hg.sy hg.ir ht hn hv hvK aY) rfl;refine⟨d,?_,gd⟩;have ew:=KL (v:=v) h.nd hn (by omega)
  have fin:DV Fr [sC (i9 R m),sC gD,sC (e9 P),sC (z8 K),sC (z8 t),sC (z8 v),none]=some (.rt d):=by refine v5 (J4 (mR e1)) ?_;refine nF (by rfl) ?_;exact j7 ((x6 (ds:=[i9 R m,gD,e9 (P++[(t,v)]),z8 K]) (u3 rfl (u3 rfl (u3 ((x6 (ds:=[e9 P,z8 t,z8 v]) rfl).trans ew) rfl)))).trans ed)
  rw[fin];rfl
 |cons j cs=>
  obtain⟨h1,h2⟩:=(mem j).mp A6;obtain⟨hj,hc⟩:=(hg.mem t ca j).mp h1;refine⟨_,?_,Yp hg ca hj hc hn h2 (by omega)⟩
  have fin:DV Fr [sC (i9 R m),sC gD,sC (e9 P),sC (z8 K),sC (z8 t),sC (z8 v),none]=some (.rt (.tup [.str "clash",.int (Ew (t:Int) (j:Int)),.int (Lh (t:Int) (j:Int))])):=by refine v5 (J4 (mR e1)) ?_;refine mL ((K9 (a:=true) (by rfl)).trans ?_);rw[if_pos rfl];refine j7 ((jI (x:=.tup [.str "clash"]) (y:=.tup [.int (Ew (t:Int) (j:Int)),.int (Lh (t:Int) (j:Int))]) (pM (ds:=[.str "clash"]) rfl (by decide)) ((x6 (ds:=[.int (t:Int),.int (j:Int)]) (u3 rfl (u3 ((lY (ds:=z8 j::cs.map z8) (j:=0) rfl rfl).trans (Uc _ _)) rfl))).trans (NX _ _))).trans ?_);rfl
  rw[fin];rfl
theorem PP(hg:jJ cl m R)(hG:mZ m G)(gR:gD = .lst (G.map z8)\/gD = .tup (G.map z8))(hK:K<=1000):∀(q:Nat) (P:List (Nat×Nat)) (u:Nat),jU cl G K u P->(∀c,lD cl G c K->¬wZ c P)->G.length<q+P.length ->
  ∃d,sR q [i9 R m,gD,e9 P,z8 K]=some d/\oD cl m K u P (2*(G.length-P.length)+1) d
 | 0,P,u,h,_,hq=>by have:=h.len;omega
 |q+1,P,u,h,bL,hq=>by
  have hl:=h.len;have gl:=hG.len;have m12:=hg.m12
  have dg:∃t∈G,t∉P.map B5:=Hd λz=>by
   have all:∀t∈G,t∈P.map B5:=λt ht=>Hd λy=>z ⟨t,ht,y⟩;have lk:∀x∈P,P.lookup x.1=some x.2:=λx hx=>(vQ h.nd).mpr hx
   refine bL (λi=>(P.lookup i).getD 0) ⟨λi hi=>?_,λi hi j hj hc=>?_⟩ λx hx=>by show (P.lookup x.1).getD 0=x.2;rw[lk x hx];rfl
   .obtain⟨x,hx,rfl⟩:=Ah.mp (all i hi);show (P.lookup x.1).getD 0<K;rw[lk x hx];exact Ba ((h.use x.2).mp ⟨x,hx,rfl⟩) h.uK
   .obtain⟨x,hx,rfl⟩:=Ah.mp (all i hi);obtain⟨y,hy,rfl⟩:=Ah.mp (all j hj);show (P.lookup x.1).getD 0≠(P.lookup y.1).getD 0;rw[lk x hx,lk y hy];exact h.ok x hx y hy hc
  obtain⟨t,eh,ht,hn⟩:=Nw (R:=R) (P:=P) hG.lt hg.len (by omega) dg gR;have ca:=hG.lt t ht
  have hPG:P.length<G.length:=by
   have ay:(t::P.map B5).Nodup:=Bm.mpr ⟨hn,h.nd⟩
   have:=K4 _ G ay λx hx=>by
    rcases Ad.mp hx with z|z
    .rw[z];exact ht
    .obtain⟨y,hy,rfl⟩:=Ah.mp z;exact h.sub y hy
   rw[Av,A0]at this;exact this
  have hpg:∀v,∃d,v<Ew K (u+1)->AH (sR q) [i9 R m,gD,e9 P,z8 K,z8 t,z8 v]=some d/\oD cl m K (if v=u then u+1 else u) (P++[(t,v)]) (2*(G.length-(P.length+1))+1) d:=λv=>by
   by_cases hv:v<Ew K (u+1)
   .obtain⟨d,e,g⟩:=Ž (gD:=gD) hg hG h ht hn (v:=v) (by omega) (by omega) (Fr:=sR q) (k:=2*(G.length-(P.length+1))) λu' hp iP=>by
     have:=PP hg hG gR hK q (P++[(t,v)]) u' hp (λc hc he=>bL c hc λx hx=>he x (B4 _ hx)) (by rw[Af,Ay];omega)
     rw[Af,Ay]at this;exact this
    exact⟨d,λ_=>⟨e,g⟩⟩
   .exact⟨.non,λz=>absurd z hv⟩
  obtain⟨pf,hpf⟩:=Fw hpg;have et:=JR (K:=K) h.use (by omega) hK
  have e2:Y2 [none,some 0,some 1,some 2,some 3,some 4] (d8 (x8 Y3 (kF 2 3))) (u5 0) mQ (x8 (AH (sR q)) (Ub 1 2 3 4 5 0))
    [sC (i9 R m),sC gD,sC (e9 P),sC (z8 K),sC (z8 t),none]=some ((Aa (Ew K (u+1))).map pf):=by
   refine(mT (ds:=(Aa (Ew K (u+1))).map z8) (m9 ((x6 (ds:=[e9 P,z8 K]) rfl).trans et)) (by rw[A0,An];unfold f9;omega)).trans ?_
   refine(uN (λY=>∃c,Y=[c,sC (i9 R m),sC gD,sC (e9 P),sC (z8 K),sC (z8 t)]) (λd=>match d with|.int x=>pf x.toNat|_=>.non) _ _ ⟨none,rfl⟩ ?_).trans ?_
   .rintro d hd Y ⟨c,rfl⟩;obtain⟨v,hv,rfl⟩:=Ah.mp hd;refine⟨_,rfl,⟨_,rfl⟩,(x6 (ds:=[i9 R m,gD,e9 P,z8 K,z8 t,z8 v]) rfl).trans ?_⟩;show _=some (pf (v:Int).toNat);rw[Ai];exact(hpf v (Ap.mp hv)).1
   .rw[B8];refine congrArg some (B6 λv _=>?_);show pf (v:Int).toNat=pf v;rw[Ai]
  refine⟨.tup [.str "tie",z8 t,.tup ((Aa (Ew K (u+1))).map pf)],?_,?_⟩
  .show lA (GZ (sR q) [sC (i9 R m),sC gD,sC (e9 P),sC (z8 K),none,none])=_
   have fin:GZ (sR q) [sC (i9 R m),sC gD,sC (e9 P),sC (z8 K),none,none]=some (.rt (.tup [.str "tie",z8 t,.tup ((Aa (Ew K (u+1))).map pf)])):=by refine v5 (J4 ((x6 (ds:=[i9 R m,gD,e9 P]) rfl).trans eh)) ?_;refine v5 (J4 (mR e2)) ?_;exact j7 (pM (ds:=[.str "tie",z8 t,.tup ((Aa (Ew K (u+1))).map pf)]) (u3 rfl (u3 rfl (u3 (xM rfl) rfl))) (by show 3<=f9;decide))
   rw[fin];rfl
  .have hk:2*(G.length-P.length)+1=2*(G.length-(P.length+1))+1+1+1:=by omega
   have dR:∀x∈(Aa (Ew K (u+1))).map pf,∃v,v<Ew K (u+1)/\x=pf v:=λx hx=>by obtain⟨v,hv,rfl⟩:=Ah.mp hx;exact⟨v,Ap.mp hv,rfl⟩
   refine⟨λq' hq'=>?_,?_,?_⟩
   .cases q' with
    |zero=>omega
    |succ q'=>
     show (if nD "tie" (.str "tie")=true then qM (λt k d=>chk cl m K q' (P++[(t,k)]) (if k=u then u+1 else u) d) m (Ew K (u+1)) P (z8 t) (.tup ((Aa (Ew K (u+1))).map pf)) else _)=true;rw[if_pos (by decide +kernel),zK ca,qC,decide_eq_false hn,A0,An,decide_eq_true rfl];show oZ _ 0 _=true;refine PQ _ 0 λi d e=>?_;rw[As]at e;obtain⟨v,hv,rfl⟩:=Bj.mp e
     obtain⟨ah,hvv⟩:=Ax.mp hv;rw[An]at ah;rw[List.getElem_range]at hvv;subst hvv;rw[L8];exact(hpf i ah).2.ok q' (by rw[Af,Ay];omega)
   .rw[hk];refine KF (by simp) λx hx=>?_;simp only[Ad,Eo,or_false]at hx;rcases hx with rfl|rfl|rfl
    .exact KU λxs e=>by cases e
    .exact KU λxs e=>by cases e
    .refine KF (by rw[A0,An];omega) λx hx=>?_
     obtain⟨v,hv,rfl⟩:=dR x hx;exact(hpf v hv).2.sl
   .rw[hk];refine zW λx hx=>?_;simp only[Ad,Eo,or_false]at hx;rcases hx with rfl|rfl|rfl
    .rw[depth]<;>simp
    .show depth (.int _)<=_;rw[depth]<;>simp
    .refine zW λx hx=>?_;obtain⟨v,hv,rfl⟩:=dR x hx;exact(hpf v hv).2.dp
end
def yL{fa:ED}{fl fh:J5->Option (Option Int)}{lo hi:Option Int}(h:fa Y=some (.tup ds))(h1:fl Y=some lo)(h2:fh Y=some hi):kZ (l8 fa fl fh) (nT fa fl fh) Y=some (.tup (nN ds lo hi)):=by
 unfold kZ;rw[ZY h h1 h2];by_cases c:HT.sIx ds.length 0 lo=0/\HT.sIx ds.length ds.length hi=ds.length
 .have e:CA (.tup ds) lo hi=none:=if_pos c;rw[e];dsimp only;unfold nT;rw[h,h1,h2];dsimp only;rw[if_pos c];unfold nN;rw[c.1,c.2,List.drop_zero,Nat.sub_zero,Ha]
 .have e:CA (.tup ds) lo hi=some (.tup (nN ds lo hi)):=if_neg c;rw[e]
def ER{α:Type}(ds:List α)(j:Nat):nN ds none (some (j:Int))=ds.take j:=by
 have e0:HT.sIx ds.length 0 none=0:=rfl
 have e1:HT.sIx ds.length ds.length (some (j:Int))=Ew j ds.length:=by exact HT.sIx_nat _ _ _
 unfold nN;rw[e0,e1,List.drop_zero,Nat.sub_zero];rcases Nat.le_total j ds.length with z|z
 .rw[Nat.min_eq_left z]
 .rw[Nat.min_eq_right z,Ha,Ij z]
def QS{α:Type}(ds:List α)(j:Nat):nN ds (some (j:Int)) none=ds.drop j:=by
 have e0:HT.sIx ds.length ds.length none=ds.length:=rfl
 have e1:HT.sIx ds.length 0 (some (j:Int))=Ew j ds.length:=by exact HT.sIx_nat _ _ _
 unfold nN;rw[e0,e1];rcases Nat.le_total j ds.length with z|z
 .rw[Nat.min_eq_left z,Ij (by rw[E7];omega)]
 .rw[Nat.min_eq_right z,Nat.sub_self,Ii,List.drop_of_length_le z]
theorem Sn{x:Nat}:∀{Gs:List (List Nat)},(Gs.Pairwise λG G'=>∀x∈G,x∉G')->G∈Gs->G'∈Gs->x∈G->x∈G'->G=G'
 | [],_,h,_,_,_=>by simp at h
 |A::Gs,hp,h1,h2,hx,aG=>by
  rw[D5]at hp;rcases Ad.mp h1 with z|z<;>rcases Ad.mp h2 with y|y
  .rw[z,y]
  .subst z;exact absurd aG (hp.1 _ y x hx)
  .subst y;exact absurd hx (hp.1 _ z x aG)
  .exact Sn hp.2 z y hx aG
section
variable{cl:Nat->Nat->Bool}{m K:Nat}{R:Nat->List Nat}
def Ì(h:jU cl G K u P)(hG:G.Nodup)(hl:P.length=G.length):lD cl G (λi=>(P.lookup i).getD 0) K:=by
 have all:=h.full hG hl;have lk:∀x∈P,P.lookup x.1=some x.2:=λx hx=>(vQ h.nd).mpr hx;refine⟨λi hi=>?_,λi hi j hj hc=>?_⟩
 .obtain⟨x,hx,rfl⟩:=Ah.mp (all i hi);show (P.lookup x.1).getD 0<K;rw[lk x hx];exact Ba ((h.use x.2).mp ⟨x,hx,rfl⟩) h.uK
 .obtain⟨x,hx,rfl⟩:=Ah.mp (all i hi);obtain⟨y,hy,rfl⟩:=Ah.mp (all j hj);show (P.lookup x.1).getD 0≠(P.lookup y.1).getD 0;rw[lk x hx,lk y hy];exact h.ok x hx y hy hc
def Yt{Gs:List (List Nat)}(h1:∀G∈Gs,mZ m G/\wL cl m G)(h2:Gs.Pairwise λG G'=>∀x∈G,x∉G')(h3:∀t,t<m->∃G∈Gs,t∈G)(h4:∀G∈Gs,∃c,lD cl G c K):∃c,CJ cl m c K:=by
 have a:∀G,∃c,G∈Gs->lD cl G c K:=λG=>by
  by_cases z:G∈Gs
  .obtain⟨c,h⟩:=h4 G z;exact⟨c,λ_=>h⟩
  .exact⟨λ_=>0,λy=>absurd y z⟩
 have b:∀t,∃G,t<m->G∈Gs/\t∈G:=λt=>by
  by_cases z:t<m
  .obtain⟨G,h⟩:=h3 t z;exact⟨G,λ_=>h⟩
  .exact⟨[],λy=>absurd y z⟩
 obtain⟨cf,hc⟩:=Fw a;obtain⟨gf,hg⟩:=Fw b;refine⟨λi=>cf (gf i) i,λi hi=>(hc _ (hg i hi).1).lt i (hg i hi).2,λi j hi hj az=>?_⟩;have bo:=hg i hi;have cy:=hg j hj;have hji:=(h1 _ bo.1).2 i bo.2 j hj az;have e:=Sn h2 bo.1 cy.1 hji cy.2;show cf (gf i) i≠cf (gf j) j;rw[<-e];exact(hc _ bo.1).ne i bo.2 j hji az
def WM(hp:PW cl S)(ay:S.Nodup)(hs:∀i j,cl i j=cl j i)(hl:K<S.length):∀c,¬lD cl S c K:=λc hc=>by
 have hm:(S.map c).Nodup:=by
  have:S.Pairwise λi j=>c i≠c j:=by have fJ:S.Pairwise λi j=>cl i j=true:=hp;exact E9 (λ{i j} hi hj h=>hc.ne i hi j hj h) fJ
  exact Br.mpr this
 have:=K4 (S.map c) (Aa K) hm λx hx=>by obtain⟨i,hi,rfl⟩:=Ah.mp hx;exact Ap.mpr (hc.lt i hi)
 rw[A0,An]at this;omega
end
section
variable{n:Int}{ts:List f8}{r:List Int}{k w:Bg}{K:Nat}
def sD:D->D->D->Bool:=λrv kD d=>match Q8 12 [rv,d,e9 [],kD] with|some .non=>true|_=>false
def UF(h:kJ n ts r)(hm:ts.length<=11)(hk:KW k w)(hK:K<=1000)(bL:∀c,¬CJ (i4 r ts w) ts.length c K):
  ∃G gD,IN [Y9 n ts,.tup (r.map D.int),.str k,z8 K]=some gD/\(gD = .lst (G.map z8)\/gD = .tup (G.map z8))/\mZ ts.length G/\∀c,¬lD (i4 r ts w) G c K:=by
 obtain⟨F,eF,hF⟩:=NC h hk;obtain⟨hg,ay⟩:=HW h hk;have er:=HI h hk;have gg:F.Nodup:=hF.up.imp λ{a b} z=>At z
 have hFl:F.length<=ts.length:=by
  have:=K4 F (Aa ts.length) gg λx hx=>Ap.mpr (hF.lt x hx)
  rw[An]at this;exact this
 have e0:y9 (d2 yY (jP (d8 (z7 4))) (z7 3)) [sC (Y9 n ts),sC (.tup (r.map D.int)),sC (.str k),sC (z8 K),sC (jZ F),none]=some (decide (K<F.length)):=by
  refine v7 ((jI (x:=z8 F.length) (y:=z8 K) ((l9 (ds:=F.map z8) rfl).trans (by rw[A0];rfl)) rfl).trans ?_)
  show some (D.bl (decide ((K:Int)<(F.length:Int))))=_;by_cases z:K<F.length
  .rw[decide_eq_true z,decide_eq_true (by omega)]
  .rw[decide_eq_false z,decide_eq_false (by omega)]
 show ∃G gD,lA (DW [sC (Y9 n ts),sC (.tup (r.map D.int)),sC (.str k),sC (z8 K),none,none])=some gD/\_;by_cases c:K<F.length
 .rw[decide_eq_true c]at e0;refine⟨F.take (K+1),.tup ((F.take (K+1)).map z8),?_,.inr rfl,⟨gg.sublist (F7 _ _),λt ht=>hF.lt t (Dt ht)⟩,WM (Kn.sublist (F7 _ _) hF.pw) (gg.sublist (F7 _ _)) hg.sy (by rw[D7];omega)⟩
  have fin:DW [sC (Y9 n ts),sC (.tup (r.map D.int)),sC (.str k),sC (z8 K),none,none]=some (.rt (.tup ((F.take (K+1)).map z8))):=by refine v5 (J4 ((x6 (ds:=[Y9 n ts,.tup (r.map D.int),.str k]) rfl).trans eF)) ?_;refine mL ((K9 e0).trans ?_);rw[if_pos rfl];refine j7 ((yL (ds:=F.map z8) (lo:=none) (hi:=some ((K+1:Nat):Int)) rfl rfl (xL rfl)).trans ?_);rw[ER,List.map_take]
  rw[fin];rfl
 .rw[decide_eq_false c]at e0;generalize nL (mK ts r w)=R at hg ay er;obtain⟨Gs,eG,h1,h2,h3,h5⟩:=Pp hg λt _=>ay t
  have told:∀G∈Gs,∃res,Q8 12 [i9 R ts.length,.lst (G.map z8),e9 [],z8 K]=some res/\BV (i4 r ts w) G K [] res:=λG hG=>by
   have:=(h1 G hG).1.len
   exact HP hg (h1 G hG).1 hK 12 [] 0 jU.zero (by rw[Bx];omega)
  have e1:Y2 [none,some 5,some 3] (d8 (x8 AB (jT 5))) (u5 0) (y9 (d2 qQ (x8 (Q8 12) (z9 (z7 1) (z9 (z7 0) (z9 (oC (λ_=>some ([],[]))) (jT 2))))) (dC .non))) (z7 0)
    [sC (Y9 n ts),sC (.tup (r.map D.int)),sC (.str k),sC (z8 K),sC (jZ F),sC (i9 R ts.length)]=some ((Gs.map λG=>D.lst (G.map z8)).filter (sD (i9 R ts.length) (z8 K))):=by
   have hGl:Gs.length<=f9:=B3 h5 (by unfold f9;omega)
   refine(mT (ds:=Gs.map λG=>D.lst (G.map z8)) (m9 ((x6 (ds:=[i9 R ts.length]) rfl).trans eG)) (by rw[A0];exact hGl)).trans ?_
   refine(K8 (λY=>∃c,Y=[c,sC (i9 R ts.length),sC (z8 K)]) (sD (i9 R ts.length) (z8 K)) (λd=>d) _ _ ⟨none,rfl⟩ ?_).trans (by rw[Hb]);rintro d hd Y ⟨c,rfl⟩;obtain⟨G,hG,rfl⟩:=Ah.mp hd;obtain⟨res,er,hT⟩:=told G hG;refine⟨_,rfl,⟨_,rfl⟩,?_,λ_=>rfl⟩;refine(v7 (a:=sD (i9 R ts.length) (z8 K) (.lst (G.map z8))) ((jI (x:=res) (y:=.non) ((x6 (ds:=[i9 R ts.length,.lst (G.map z8),e9 [],z8 K]) rfl).trans er) rfl).trans ?_))
   unfold sD;rw[er];rcases hT with⟨rfl,_⟩|⟨P',u',rfl,_,_⟩<;>rfl
  cases hf:(Gs.map λG=>D.lst (G.map z8)).filter (sD (i9 R ts.length) (z8 K)) with
  |nil=>
   exfalso
   obtain⟨c,hc⟩:=Yt h1 h2 h3 (K:=K) λG hG=>by
    obtain⟨res,er,hT⟩:=told G hG;rcases hT with⟨rfl,_⟩|⟨P',u',rfl,hP,hl⟩
    .have:D.lst (G.map z8)∈(Gs.map λG=>D.lst (G.map z8)).filter (sD (i9 R ts.length) (z8 K)):=Az.mpr ⟨Ah.mpr ⟨G,hG,rfl⟩,by unfold sD;rw[er]⟩
     rw[hf]at this;simp at this
    .exact⟨_,Ì hP (h1 G hG).1.nd hl⟩
   exact bL c hc
  |cons d0 rest=>
   rw[hf]at e1
   have cX:d0∈(Gs.map λG=>D.lst (G.map z8)).filter (sD (i9 R ts.length) (z8 K)):=by rw[hf];exact A6
   obtain⟨hm0,ht0⟩:=Az.mp cX;obtain⟨G,hG,rfl⟩:=Ah.mp hm0;obtain⟨res,er',hT⟩:=told G hG;refine⟨G,_,?_,.inl rfl,(h1 G hG).1,?_⟩
   .have fin:DW [sC (Y9 n ts),sC (.tup (r.map D.int)),sC (.str k),sC (z8 K),none,none]=some (.rt (.lst (G.map z8))):=by refine v5 (J4 ((x6 (ds:=[Y9 n ts,.tup (r.map D.int),.str k]) rfl).trans eF)) ?_;refine nF e0 ?_;refine v5 (J4 ((x6 (ds:=[Y9 n ts,.tup (r.map D.int),.str k]) rfl).trans er)) ?_;exact j7 ((lY (j:=0) e1 rfl).trans (Uc _ _))
    rw[fin];rfl
   .rcases hT with⟨_,eB⟩|⟨P',u',rfl,_,_⟩
    .exact λc hc=>eB c hc λx hx=>by simp at hx
    .unfold sD at ht0;rw[er']at ht0;cases ht0
def On(hf:nO cl m K f):sX f=K:=IT λv=>by
 have h1:v∈nA f↔v∈f:=by unfold nA;rw[AY];simp
 rw[<-h1,hf.fst,Ap]
def Vm(h:kJ n ts r)(hm:ts.length<=11)(hk:KW k w)(hK:K<=1000)(hd:depth d<=jK):sQ [Y9 n ts,.tup (r.map D.int),.str k,z8 K,d]=some (.bl (chk (i4 r ts w) ts.length K 12 [] 0 d)):=by
 have ec:=Nv (n:=n) hk.tab (ts:=ts) (r:=r) h.nd h.rl (by omega) h.mem
 exact mG (x:=O6 [sC (Y9 n ts),sC (.tup (r.map D.int)),sC (.str k),sC (z8 K),sC d]) (
  j7 ((x6 (ds:=[Y9 n ts,.tup ((w8 ts.length (i4 r ts w) ts.length).map j0),e9 [],z8 K,d]) (u3 rfl (u3 ((x6 (ds:=[Y9 n ts,.tup (r.map D.int),.str k]) rfl).trans ec) rfl))).trans (Po (by omega) hK 12 0 [] d Pg.zero (by rw[Bx];omega) hd)))
def U2(h:kJ n ts r)(hm:ts.length<=11)(hk:KW k w)(hK:K<=1000){f:List Nat}(ef:Y4 [Y9 n ts,.tup (r.map D.int),.str k]=some (.tup (f.map z8)))(hf:nO (i4 r ts w) ts.length K0 f):
  (K0<=K/\AE [Y9 n ts,.tup (r.map D.int),.str k,z8 K]=some .non) \/
  (K<K0/\∃d,AE [Y9 n ts,.tup (r.map D.int),.str k,z8 K]=some d/\d≠.non/\oD (i4 r ts w) ts.length K 0 [] (2*ts.length+1) d):=by
 have jl:=DT (vs:=f) (by rw[hf.len];omega) (.inr rfl)
 rw[On hf]at jl
 have e0:y9 (d2 uX (x8 Y8 (z9 (x8 Y4 (kQ 0 1 2)) i3)) (z7 3)) [sC (Y9 n ts),sC (.tup (r.map D.int)),sC (.str k),sC (z8 K)]=some (decide (K0<=K)):=by
  refine v7 ((jI (x:=z8 K0) (y:=z8 K) ((x6 (ds:=[.tup (f.map z8)]) (u3 ((x6 (ds:=[Y9 n ts,.tup (r.map D.int),.str k]) rfl).trans ef) rfl)).trans jl) rfl).trans ?_);show some (D.bl (decide ((K0:Int)<=(K:Int))))=_;by_cases z:K0<=K
  .rw[decide_eq_true z,decide_eq_true (by omega)]
  .rw[decide_eq_false z,decide_eq_false (by omega)]
 show (K0<=K/\lA (AF [sC (Y9 n ts),sC (.tup (r.map D.int)),sC (.str k),sC (z8 K)])=_)\/(K<K0/\∃d,lA (AF [sC (Y9 n ts),sC (.tup (r.map D.int)),sC (.str k),sC (z8 K)])=some d/\_);by_cases c:K0<=K
 .rw[decide_eq_true c]at e0;refine .inl ⟨c,?_⟩;have fin:AF [sC (Y9 n ts),sC (.tup (r.map D.int)),sC (.str k),sC (z8 K)]=some (.rt .non):=mL ((K9 e0).trans rfl);rw[fin];rfl
 .rw[decide_eq_false c]at e0;refine .inr ⟨by omega,?_⟩
  obtain⟨G,gD,eg,gR,hG,bL⟩:=UF h hm hk hK λc' hc=>by
   have:=hf.least c' K hc
   omega
  obtain⟨hg,_⟩:=HW h hk;have er:=HI h hk;have gl:=hG.len;obtain⟨d,ed,gd⟩:=PP hg hG gR hK 12 [] 0 jU.zero (λc' hc _=>bL c' hc) (by rw[Bx];omega)
  refine⟨d,?_,λz=>?_,⟨gd.ok,EJ (by rw[Bx];omega) gd.sl,B3 gd.dp (by rw[Bx];omega)⟩⟩
  .have fin:AF [sC (Y9 n ts),sC (.tup (r.map D.int)),sC (.str k),sC (z8 K)]=some (.rt d):=by refine nF e0 ?_;exact j7 ((x6 (ds:=[i9 (nL (mK ts r w)) ts.length,gD,e9 [],z8 K]) (u3 ((x6 (ds:=[Y9 n ts,.tup (r.map D.int),.str k]) rfl).trans er) (u3 ((x6 (ds:=[Y9 n ts,.tup (r.map D.int),.str k,z8 K]) rfl).trans eg) rfl))).trans ed)
   rw[fin];rfl
  .have:=gd.ok 12 (by rw[Bx];omega)
   rw[z]at this;cases this
end
def FU(xs ys:List D)(h:xs.length+ys.length<=f9):jN (.tup xs) (.tup ys)=some (.tup (xs++ys)):=by show (if xs.length+ys.length<=f9 then some (D.tup (xs++ys)) else none)=_;rw[if_pos h]
def ME(x:Int){j:Int}(h:0<j):oR (.int x) (.int j)=some (.int (x % j)):=by unfold oR rX;dsimp only;rw[if_pos (decide_eq_true h)]
def TN(x:Int){j:Int}(h:0<j)(h2:j<1073741824):uP (.int x) (.int j)=some (.int (x / j)):=by unfold uP rX;dsimp only;rw[if_pos (by rw[decide_eq_true h,decide_eq_true h2];rfl)]
def LC{ds:List D}{i:Nat}(h:i<ds.length):lU ds (i:Int)=some ds[i]:=by unfold lU pD;rw[if_pos (by omega),if_pos (by omega)];show ds[(i:Int).toNat]?=_;rw[Ai,A3 h]
def wI:List D:=[.non,.tup [.str "clash",.int 0,.int 1],.lst [],.int 0,.str "tie"]
def Yr:∀d∈wI,depth d<=1:=by intro d h;simp only[wI,Ad,Eo,or_false]at h;rcases h with rfl|rfl|rfl|rfl|rfl<;>simp[depth,Z8]
def Tv:EL:=nC (z9 (d2 jN (kZ (l8 (z7 0) (lW) (kW (z7 2))) (nT (z7 0) (lW) (kW (z7 2)))) (kZ (l8 (z7 0) (kW (d2 jN (z7 2) (dI 1))) (lW)) (nT (z7 0) (kW (d2 jN (z7 2) (dI 1))) (lW)))) (z9 (d2 jN (z7 0) (kZ (l8 (z7 0) (lW) (kW (dI 1))) (nT (z7 0) (lW) (kW (dI 1))))) (z9 (FV (z7 0) (n8 (dI 1))) i3)))
def XQ{ds:List D}(hl:ds.length<=1000):Tv [sC (.tup ds),sC (.int x),sC (z8 a),sC (z8 w)]=some [.tup (ds.take a++ds.drop (a+1)),.tup (ds++ds.take 1),.tup ds.reverse]:=by
 have t1:(ds.take a).length<=1000:=by rw[D7];omega
 have t2:(ds.drop (a+1)).length<=1000:=by rw[E7];omega
 have t3:(ds.take 1).length<=1000:=by rw[D7];omega
 refine tU (u3 ((jI (x:=.tup (ds.take a)) (y:=.tup (ds.drop (a+1))) ?_ ?_).trans (FU _ _ (by unfold f9;omega))) (u3 ((jI (x:=.tup ds) (y:=.tup (ds.take 1)) rfl ?_).trans (FU _ _ (by unfold f9;omega))) (u3 rfl rfl))) (by show 3<=f9;decide)
 .refine(yL (ds:=ds) (lo:=none) (hi:=some (a:Int)) rfl rfl (xL rfl)).trans ?_;rw[ER]
 .refine(yL (ds:=ds) (lo:=some ((a+1:Nat):Int)) (hi:=none) rfl (xL rfl) rfl).trans ?_;rw[QS]
 .refine(yL (ds:=ds) (lo:=none) (hi:=some ((1:Nat):Int)) rfl rfl (xL rfl)).trans ?_;rw[ER]
def Ç{B:Nat}(h:depth (.tup ds)<=B):∃C,B=C+1/\∀d∈ds,depth d<=C:=by
 rw[depth]at h;refine⟨B-1,by omega,λd hd=>?_⟩;obtain⟨i,hi,rfl⟩:=Dj hd
 have:=uI (A3 hi)
 omega
theorem Pr:∀(q k B:Nat) (d:D) (x:Int),rT k d->k<q->depth d<=B->∃d',Q0 q [d,.int x]=some d'/\depth d'<=B+1
 | 0,k,B,d,x,_,hq,_=>absurd hq (by omega)
 |q+1,k,B,d,x,hs,hq,hd=>by
  show ∃d',lA (wA (Q0 q) [sC d,sC (.int x),none,none])=some d'/\_
  have im:lM (kN (y9 (mF "tuple" (z7 0)))) (y9 (d2 kM (jP (d8 (z7 0))) (dI 0))) [sC d,sC (.int x),none,none]=some true ->
    ∃d',lA (wA (Q0 q) [sC d,sC (.int x),none,none])=some d'/\depth d'<=B+1:=λe=>by
   have h1:0<=x % 5:=Ji _ (by omega);have h2:x % 5<5:=Hw _ (by omega);obtain⟨j,hj⟩:=Cb h1
   have hj5:j<wI.length:=by show j<5;omega
   refine⟨wI[j],?_,B3 (Yr _ (Bo hj5)) (by omega)⟩
   have fin:wA (Q0 q) [sC d,sC (.int x),none,none]=some (.rt wI[j]):=by
    refine mL ((K9 e).trans ?_);rw[if_pos rfl];refine j7 ((lY (ds:=wI) (j:=x % 5) (tU (ds:=wI) rfl (by show 5<=f9;decide)) ((jI (x:=.int x) (y:=.int 5) rfl rfl).trans (ME x (by omega)))).trans ?_)
    rw[hj];exact LC hj5
   rw[fin];rfl
  rcases AT d with ht|⟨ds,rfl⟩
  .exact im ((Z0 (a:=true) (b:=false) (BY rfl ht) λz=>nomatch z).trans rfl)
  .by_cases h0:ds.length=0
   .refine im ((Z0 (a:=false) (b:=true) (vC rfl) λ_=>v7 ((jI (x:=z8 ds.length) (y:=z8 0) (l9 (ds:=ds) rfl) rfl).trans ?_)).trans rfl);rw[yF,decide_eq_true h0]
   .cases k with
    |zero=>exact absurd rfl (hs ds)
    |succ k=>
     obtain⟨hl,dR⟩:=hs ds rfl;obtain⟨C,rfl,hC⟩:=Ç hd
     have e1:lM (kN (y9 (mF "tuple" (z7 0)))) (y9 (d2 kM (jP (d8 (z7 0))) (dI 0))) [sC (.tup ds),sC (.int x),none,none]=some false:=(Z0 (a:=false) (b:=false) (vC rfl) λ_=>v7 ((jI (x:=z8 ds.length) (y:=z8 0) (l9 (ds:=ds) rfl) rfl).trans (by rw[yF,decide_eq_false h0]))).trans rfl
     have a1:0<=x % (ds.length:Int):=Ji _ (by omega);have a2:x % (ds.length:Int)<ds.length:=Hw _ (by omega);obtain⟨a,ha⟩:=Cb a1;have b1:0<=x / 8 % 7:=Ji _ (by omega);have b2:x / 8 % 7<7:=Hw _ (by omega);obtain⟨w,hw⟩:=Cb b1
     have dZ:a<ds.length:=by omega
     have pre:∀o,(J8 (jL (y9 (d2 pE (z7 3) (dI 4))) (jB (d2 jN (d2 jN (kZ (l8 (z7 0) (lW) (kW (z7 2))) (nT (z7 0) (lW) (kW (z7 2)))) (jW (z9 (x8 (Q0 q) (z9 (jH (d8 (z7 0)) (z7 2)) (z9 (d2 uP (z7 1) (dI 64)) i3))) i3))) (kZ (l8 (z7 0) (kW (d2 jN (z7 2) (dI 1))) (lW)) (nT (z7 0) (kW (d2 jN (z7 2) (dI 1))) (lW))))) Y1) (jB (jH Tv (d2 wG (z7 3) (dI 4))))) [sC (.tup ds),sC (.int x),sC (z8 a),sC (z8 w)]=some (.rt o) ->
       lA (wA (Q0 q) [sC (.tup ds),sC (.int x),none,none])=some o:=λo ho=>by
      have fin:wA (Q0 q) [sC (.tup ds),sC (.int x),none,none]=some (.rt o):=by
       refine nF e1 ?_;refine v5 (J4 (d:=z8 a) ((jI (x:=.int x) (y:=.int (ds.length:Int)) rfl (l9 (ds:=ds) rfl)).trans ((ME x (by omega)).trans (by rw[ha];rfl)))) ?_
       refine v5 (J4 (d:=z8 w) ((jI (x:=.int (x / 8)) (y:=.int 7) ((jI (x:=.int x) (y:=.int 8) rfl rfl).trans (TN x (by omega) (by omega))) rfl).trans ((ME _ (by omega)).trans (by rw[hw];rfl)))) ?_
       exact ho
      rw[fin];rfl
     have e4:y9 (d2 pE (z7 3) (dI 4)) [sC (.tup ds),sC (.int x),sC (z8 a),sC (z8 w)]=some (decide ((w:Int)<4)):=v7 ((jI (x:=z8 w) (y:=.int 4) rfl rfl).trans rfl);have sub:∀(l:List D),(∀y∈l,y∈ds)->depth (.tup l)<=C+1+1:=λl cq=>B3 (zW λy hy=>hC y (cq y hy)) (by omega);by_cases hw4:w<4
     .rw[decide_eq_true (show (w:Int)<4 by omega)]at e4;obtain⟨d',ed,bn⟩:=Pr q k C ds[a] (x / 64) (dR _ (Bo dZ)) (by omega) (hC _ (Bo dZ));refine⟨.tup (ds.take a++[d']++ds.drop (a+1)),pre _ ?_,B3 (zW (k:=C+1) λy hy=>?_) (by omega)⟩
      .refine mL ((K9 e4).trans ?_);rw[if_pos rfl]
       have t1:(ds.take a).length<=1000:=by rw[D7];omega
       have t2:(ds.drop (a+1)).length<=1000:=by rw[E7];omega
       refine j7 ((jI (x:=.tup (ds.take a++[d'])) (y:=.tup (ds.drop (a+1))) ((jI (x:=.tup (ds.take a)) (y:=.tup [d']) ?_ (pM (ds:=[d']) (u3 ((x6 (ds:=[ds[a],.int (x / 64)]) (u3 ((lY (ds:=ds) (j:=(a:Int)) rfl rfl).trans (LC dZ)) (u3 ((jI (x:=.int x) (y:=.int 64) rfl rfl).trans (TN x (by omega) (by omega))) rfl))).trans ed) rfl) (by show 1<=f9;decide))).trans (FU _ _ (by rw[Ay];unfold f9;omega))) ?_).trans (FU _ _ (by rw[Af,Ay];unfold f9;omega)))
       .refine(yL (ds:=ds) (lo:=none) (hi:=some (a:Int)) rfl rfl (xL rfl)).trans ?_;rw[ER]
       .refine(yL (ds:=ds) (lo:=some ((a+1:Nat):Int)) (hi:=none) rfl (xL rfl) rfl).trans ?_;rw[QS]
      .rcases Aq.mp hy with z|z
       .rcases Aq.mp z with z|z
        .exact B3 (hC y (Dt z)) (by omega)
        .rw[Ae.mp z];exact bn
       .exact B3 (hC y (Fe z)) (by omega)
     .rw[decide_eq_false (show ¬(w:Int)<4 by omega)]at e4
      have bU:∀(j:Nat) (o:D),w=j+4->[D.tup (ds.take a++ds.drop (a+1)),.tup (ds++ds.take 1),.tup ds.reverse][j]?=some o->depth o<=C+1+1->∃d',lA (wA (Q0 q) [sC (.tup ds),sC (.int x),none,none])=some d'/\depth d'<=C+1+1:=λj o hj ho hdo=>by
       refine⟨o,pre _ (nF e4 (j7 ((lY (j:=(j:Int)) (XQ hl) ((jI (x:=z8 w) (y:=.int 4) rfl rfl).trans ?_)).trans ?_))),hdo⟩
       .show some (D.int ((w:Int)-4))=_;congr 2;omega
       .obtain⟨ah,rfl⟩:=Ax.mp ho;exact LC ah
      have hw':w=0+4\/w=1+4\/w=2+4:=by omega
      rcases hw' with z|z|z
      .exact bU 0 _ z rfl (sub _ λy hy=>(Aq.mp hy).elim Dt Fe)
      .exact bU 1 _ z rfl (sub _ λy hy=>(Aq.mp hy).elim id Dt)
      .exact bU 2 _ z rfl (sub _ λy hy=>List.mem_reverse.mp hy)
def P7{p:Int}:p∈lR 0 n↔0<=p/\p<(n:Int):=by
 unfold lR;constructor
 .intro h;obtain⟨k,hk,rfl⟩:=Ah.mp h
  have:=Ap.mp hk
  omega
 .intro h;exact Ah.mpr ⟨p.toNat,Ap.mpr (by omega),by omega⟩
def Xa(n:Nat):(lR 0 n).Nodup:=by unfold lR;exact Br.mpr (Ds.imp λ{a b} h z=>h (by omega))
def RS(a b:Bool):lP (.bl a) (.bl b)=some (.bl (!(a==b))):=by cases a<;>cases b<;>rfl
structure E6 where
 ns:List Int
 c1:Option Cell
 n:Int
 ts:List f8
 r:List Int
 k:Bg
 w:Bg
 K0:Nat
def E6.prs(E:E6):D:=.lst ((w8 E.ts.length (i4 E.r E.ts E.w) E.ts.length).map j0)
abbrev e6(E:E6)(c8 c9 c10 c11 c12:Option Cell):J5:=[sC (.lst (E.ns.map D.int)),E.c1,sC (Y9 E.n E.ts),sC (.tup (E.r.map D.int)),sC (z8 E.ts.length),sC (.str E.k),sC E.prs,sC (z8 E.K0),c8,c9,c10,c11,c12]
structure E6.Ok(E:E6):Prop where
 h:kJ E.n E.ts E.r
 m:E.ts.length<=9
 hk:KW E.k E.w
 few:∃f,Y4 [Y9 E.n E.ts,.tup (E.r.map D.int),.str E.k]=some (.tup (f.map z8))/\nO (i4 E.r E.ts E.w) E.ts.length E.K0 f
 km:E.K0<=E.ts.length
def E6.chk(E:E6)(K:Nat)(d:D):Bool:=P.chk (i4 E.r E.ts E.w) E.ts.length K 12 [] 0 d
section
variable{E:E6}{K:Nat}{d:D}
def E6.Ok.isP(o:E.Ok)(hK:K<=1000)(hd:depth d<=jK):sQ [Y9 E.n E.ts,.tup (E.r.map D.int),.str E.k,z8 K,d]=some (.bl (E.chk K d)):=Vm o.h (by have:=o.m;omega) o.hk hK hd
def E6.Ok.lwP(o:E.Ok)(hd:depth d<=jK):Q2 12 [E.prs,z8 E.ts.length,z8 K,e9 [],d]=some (.bl (E.chk K d)):=PN (by have:=o.m;omega) 12 0 [] d Pg.zero (by have:=o.m;rw[Bx];omega) hd
def LZ:EO:=
 (J8 (i8 12 (x8 sQ (xC 2 3 5 8 11)))
 (jL (lM (kN (y9 (mF "bool" (z7 12)))) (y9 (d2 lP (z7 12) (x8 (Q2 12) (z9 (z7 6) (z9 (z7 4) (z9 (z7 8) (z9 (oC (λ_=>some ([],[]))) (jT 11)))))))))
 lX
 Y1))
def XS(o:E.Ok)(hK:K<=1000)(hd:depth d<=jK){c9 c10 c12:Option Cell}:∃bz,LZ (e6 E (sC (z8 K)) c9 c10 (sC d) c12)=some (.nx (e6 E (sC (z8 K)) c9 c10 (sC d) bz)):=by
 refine⟨sC (.bl (E.chk K d)),?_⟩;refine v5 (J4 ((x6 (ds:=[Y9 E.n E.ts,.tup (E.r.map D.int),.str E.k,z8 K,d]) rfl).trans (o.isP hK hd))) ?_;refine(K9 (a:=false) ((Z0 (a:=false) (b:=false) ((nY (v7 (wP (d:=.bl (E.chk K d)) rfl))).trans rfl) λ_=>v7 ((jI (x:=.bl (E.chk K d)) (y:=.bl (E.chk K d)) rfl ((x6 (ds:=[E.prs,z8 E.ts.length,z8 K,e9 [],d]) rfl).trans (o.lwP hd))).trans ?_)).trans rfl)).trans rfl
 rw[RS,beq_self_eq_true];rfl
def xA:List D:=[.non,.tup [],.tup [.str "clash",.int 0,.int 1],.tup [.str "tie",.int 0,.tup []],.tup [.str "tie",.bl true,.tup []]]
def WE:∀d∈xA,depth d<=60:=by intro d h;simp only[xA,Ad,Eo,or_false]at h;rcases h with rfl|rfl|rfl|rfl|rfl<;>simp[depth,Z8]
def Ta:EO:=
 (J8 (jL (kN (y9 (x8 (Q2 12) (z9 (z7 6) (z9 (z7 4) (z9 (z7 8) (z9 (oC (λ_=>some ([],[]))) (jT 9))))))))
 lX
 Y1)
 (J8 (jL (y9 (d2 rR (x8 sQ (xC 2 3 5 8 9)) (dC (.bl true))))
 lX
 Y1)
 (J8 (i8 10 (kX (Y2 [none,some 9] (d8 (l8 (z7 0) (kW (dI 2)) (kW (dI 7)))) (u5 0) mQ (x8 (Q0 25) (kF 1 0)))))
 (J8 (lG (d8 (kX (GD (mI (z7 10)) (nC (z9 (dC .non) (z9 (jW i3) (z9 (jW (z9 (dC (.str "clash")) (z9 (dI 0) (z9 (dI 1) i3)))) (z9 (jW (z9 (dC (.str "tie")) (z9 (dI 0) (z9 (jW i3) i3)))) (z9 (jW (z9 (dC (.str "tie")) (z9 (dC (.bl true)) (z9 (jW i3) i3)))) i3))))))))) (u5 11) LZ)
 (J8 (i8 12 (x8 sQ (z9 (z7 2) (z9 (z7 3) (z9 (z7 5) (z9 (d2 jN (z7 8) (dI 1)) (jT 9)))))))
 (jL (y9 (d2 lP (z7 12) (x8 (Q2 12) (z9 (z7 6) (z9 (z7 4) (z9 (d2 jN (z7 8) (dI 1)) (z9 (oC (λ_=>some ([],[]))) (jT 9))))))))
 lX
 Y1))))))
def YT(o:E.Ok)(hl:E.ns.length<=63)(hs:rT 19 d)(hd:depth d<=19){c10 c11 c12:Option Cell}:
  ∃df:List D,Y2 [none,some 9] (d8 (l8 (z7 0) (kW (dI 2)) (kW (dI 7)))) (u5 0) mQ (x8 (Q0 25) (kF 1 0)) (e6 E (sC (z8 K)) (sC d) c10 c11 c12)=some df/\df.length<=100/\∀t∈df,depth t<=jK:=by
 have hx:∀x:Int,∃d',Q0 25 [d,.int x]=some d'/\depth d'<=19+1:=λx=>Pr 25 19 19 d x hs (by omega) hd;obtain⟨sf,hsf⟩:=Fw hx
 have az:(nN (E.ns.map D.int) (some 2) (some 7)).length<=63:=by unfold nN;rw[D7,E7,A0];omega
 refine⟨(nN (E.ns.map D.int) (some 2) (some 7)).map λd=>match d with|.int x=>sf x|_=>.non,?_,by rw[A0];omega,λt ht=>?_⟩
 .refine(mT (ds:=nN (E.ns.map D.int) (some 2) (some 7)) rfl (by unfold f9;omega)).trans ?_
  refine uN (λY=>∃c,Y=[c,sC d]) (λd=>match d with|.int x=>sf x|_=>.non) _ _ ⟨none,rfl⟩ ?_;rintro y hy Y ⟨c,rfl⟩;obtain⟨i,_,rfl⟩:=Ah.mp (Fe (Dt hy));exact⟨_,rfl,⟨_,rfl⟩,(x6 (ds:=[d,.int i]) rfl).trans (hsf i).1⟩
 .obtain⟨y,hy,rfl⟩:=Ah.mp ht;obtain⟨i,_,rfl⟩:=Ah.mp (Fe (Dt hy));exact B3 (hsf i).2 (by decide)
def Xt(o:E.Ok)(hl:E.ns.length<=63)(hK:K<=100)(hg:oD (i4 E.r E.ts E.w) E.ts.length K 0 [] (2*E.ts.length+1) d){c10 c11 c12:Option Cell}:
  ∃cm bF bz,Ta (e6 E (sC (z8 K)) (sC d) c10 c11 c12)=some (.nx (e6 E (sC (z8 K)) (sC d) cm bF bz)):=by
 have hm:=o.m;have hd:depth d<=19:=B3 hg.dp (by omega);have hdD:depth d<=jK:=B3 hd (by decide);have hc:E.chk K d=true:=hg.ok 12 (by rw[Bx];omega)
 obtain⟨df,e3,hl3,hd3⟩:=YT (K:=K) o hl (EJ (by omega) hg.sl) hd (c10:=c10) (c11:=c11) (c12:=c12)
 obtain⟨Y',l4,bF,bz,rfl⟩:=JX (h:=u5 11) (g:=LZ) (λY=>∃c11 c12,Y=e6 E (sC (z8 K)) (sC d) (sC (.lst df)) c11 c12) (ds:=df++xA) (Y:=e6 E (sC (z8 K)) (sC d) (sC (.lst df)) c11 c12) ⟨c11,c12,rfl⟩ (λt ht Y hI=>by
  obtain⟨a,b,rfl⟩:=hI;have htd:depth t<=jK:=(Aq.mp ht).elim (hd3 t) (WE t);obtain⟨b',e⟩:=XS o (show K<=1000 by omega) htd (c9:=sC d) (c10:=sC (.lst df)) (c12:=b)
  exact⟨_,_,rfl,.inl e,_,_,rfl⟩)
 refine⟨sC (.lst df),bF,sC (.bl (E.chk (K+1) d)),?_⟩;refine nF ((nY (v7 ((x6 (ds:=[E.prs,z8 E.ts.length,z8 K,e9 [],d]) rfl).trans (o.lwP hdD)))).trans (by rw[hc];rfl)) ?_
 refine nF (v7 ((jI (x:=.bl (E.chk K d)) (y:=.bl true) ((x6 (ds:=[Y9 E.n E.ts,.tup (E.r.map D.int),.str E.k,z8 K,d]) rfl).trans (o.isP (by omega) hdD)) rfl).trans (by rw[hc];rfl))) ?_
 refine v5 (J4 (mR e3)) ?_;refine v5 ((mJ (ds:=df++xA) ?_).trans l4) ?_
 .refine m9 (mR ?_);show (if df.length+xA.length<=f9 then some (df++xA) else none)=_;rw[if_pos (by have:xA.length=5:=rfl;unfold f9;omega)]
 refine v5 (J4 ((x6 (ds:=[Y9 E.n E.ts,.tup (E.r.map D.int),.str E.k,z8 (K+1),d]) rfl).trans (o.isP (by omega) hdD))) ?_;refine(K9 (a:=false) (v7 ((jI (x:=.bl (E.chk (K+1) d)) (y:=.bl (E.chk (K+1) d)) rfl ((x6 (ds:=[E.prs,z8 E.ts.length,z8 (K+1),e9 [],d]) rfl).trans (o.lwP hdD))).trans ?_))).trans rfl;rw[RS,beq_self_eq_true];rfl
def LQ:EO:=
 (J8 (i8 9 (x8 AE (zH 2 3 5 8)))
 (J8 (jL (y9 (d2 lP (d2 qQ (z7 9) (dC .non)) (d2 yX (z7 8) (z7 7))))
 lX
 Y1)
 (jL (y9 (d2 rR (z7 9) (dC .non))) Ta Y1)))
theorem Ā{d:D}(h:d≠.non):qQ d .non=some (.bl false)/\rR d .non=some (.bl true):=by
 cases d with
 |non=>exact absurd rfl h
 |_=>exact⟨rfl,rfl⟩
def Sy(a b:Nat):yX (z8 a) (z8 b)=some (.bl (decide (b<=a))):=by
 show some (D.bl (decide ((b:Int)<=(a:Int))))=_;by_cases z:b<=a
 .rw[decide_eq_true z,decide_eq_true (by omega)]
 .rw[decide_eq_false z,decide_eq_false (by omega)]
def Xj(o:E.Ok)(hl:E.ns.length<=63)(hK:K<=100){c9 c10 c11 c12:Option Cell}:
  ∃eD cm bF bz,LQ (e6 E (sC (z8 K)) c9 c10 c11 c12)=some (.nx (e6 E (sC (z8 K)) eD cm bF bz)):=by
 obtain⟨f,ef,hf⟩:=o.few;have hm:=o.m;rcases U2 o.h (by omega) o.hk (K:=K) (by omega) ef hf with⟨hle,ea⟩|⟨ah,d,ea,hnn,hg⟩
 .refine⟨sC .non,c10,c11,c12,?_⟩;refine v5 (J4 ((x6 (ds:=[Y9 E.n E.ts,.tup (E.r.map D.int),.str E.k,z8 K]) rfl).trans ea)) ?_;refine nF (v7 ((jI (x:=.bl true) (y:=.bl true) rfl ((jI (x:=z8 K) (y:=z8 E.K0) rfl rfl).trans ((Sy _ _).trans (by rw[decide_eq_true hle])))).trans rfl)) ?_;exact(K9 (a:=false) (v7 rfl)).trans rfl
 .obtain⟨a,b,c,e⟩:=Xt o hl hK hg (c10:=c10) (c11:=c11) (c12:=c12);obtain⟨i1,i2⟩:=Ā hnn;refine⟨sC d,a,b,c,?_⟩;refine v5 (J4 ((x6 (ds:=[Y9 E.n E.ts,.tup (E.r.map D.int),.str E.k,z8 K]) rfl).trans ea)) ?_;refine nF (v7 ((jI (x:=.bl false) (y:=.bl false) ((jI (x:=d) (y:=.non) rfl rfl).trans i1) ((jI (x:=z8 K) (y:=z8 E.K0) rfl rfl).trans ((Sy _ _).trans (by rw[decide_eq_false (by omega)])))).trans rfl)) ?_
  refine(K9 (a:=true) (v7 ((jI (x:=d) (y:=.non) rfl rfl).trans i2))).trans ?_;rw[if_pos rfl];exact e
end
def SD:EO:=
 (J8 (i8 6 (x8 DM (kQ 2 3 5)))
 (J8 (i8 7 (x8 Y8 (z9 (x8 Y4 (kQ 2 3 5)) i3)))
 (lG (lO (d2 jN (z7 7) (dI 2))) (u5 8) LQ)))
section
variable{n:Int}{ts:List f8}{r:List Int}{k w:Bg}{ns:List Int}{c1 c8 c9 c10 c11 c12:Option Cell}
def OA(h:kJ n ts r)(hm:ts.length<=9)(hk:KW k w)(hl:ns.length<=63){c6 c7:Option Cell}:
  ∃bZ cu fr eD cm bF bz,SD [sC (.lst (ns.map D.int)),c1,sC (Y9 n ts),sC (.tup (r.map D.int)),sC (z8 ts.length),sC (.str k),c6,c7,c8,c9,c10,c11,c12] =
   some (.nx [sC (.lst (ns.map D.int)),c1,sC (Y9 n ts),sC (.tup (r.map D.int)),sC (z8 ts.length),sC (.str k),bZ,cu,fr,eD,cm,bF,bz]):=by
 have hn6:=h.n6;have hrl:=h.len
 have ok6:∀t∈ts,0<=t.1/\t.1<t.2/\t.2<6:=λt ht=>by have:=h.ok t ht;omega
 have eP:=Wb (n:=n) (r:=r) (by omega) hk h.m12 h.up ok6 h.mem;obtain⟨F,eF,hF⟩:=NC h hk;obtain⟨f,K,ef,hf,_⟩:=UE h (by omega) hk eF hF;have ab:=hf.len
 have hKm:K<=ts.length:=by
  have:=K4 (nA f) f (zR f [] Dm) λx hx=>by
   rcases (AY f [] x).mp hx with z|z
   .cases z
   .exact z
  rw[hf.fst,An]at this;omega
 have jl:=DT (vs:=f) (by omega) (.inr rfl);rw[On hf]at jl
 let E:E6:=⟨ns,c1,n,ts,r,k,w,K⟩
 have o:E.Ok:=⟨h,hm,hk,⟨f,ef,hf⟩,hKm⟩
 obtain⟨Y',l1,a8,a9,a10,a11,a12,rfl⟩:=JX (h:=u5 8) (g:=LQ) (λY=>∃c8 c9 c10 c11 c12,Y=e6 E c8 c9 c10 c11 c12) (ds:=(Aa (K+2)).map z8) (Y:=e6 E c8 c9 c10 c11 c12) ⟨_,_,_,_,_,rfl⟩ (λd hd Y hI=>by
  obtain⟨b8,b9,b10,b11,b12,rfl⟩:=hI;obtain⟨i,hi,rfl⟩:=Ah.mp hd
  have:=Ap.mp hi
  obtain⟨x9,x10,x11,x12,e⟩:=Xj (K:=i) o hl (by omega) (c9:=b9) (c10:=b10) (c11:=b11) (c12:=b12)
  exact⟨_,_,rfl,.inl e,_,_,_,_,_,rfl⟩)
 refine⟨sC E.prs,sC (z8 K),a8,a9,a10,a11,a12,?_⟩;refine v5 (J4 ((x6 (ds:=[Y9 n ts,.tup (r.map D.int),.str k]) rfl).trans eP)) ?_;refine v5 (J4 (d:=z8 K) ((x6 (ds:=[.tup (f.map z8)]) (u3 ((x6 (ds:=[Y9 n ts,.tup (r.map D.int),.str k]) rfl).trans ef) rfl)).trans jl)) ?_;exact(mJ (ds:=(Aa (K+2)).map z8) (EI (j:=K+2) rfl (by omega))).trans l1
end
def Sk:EO:=J8 (i8 2 (x8 CM (z9 (z7 1) (z9 (dI 6) (z9 (dI 9) i3)))))
 (J8 (i8 3 (x8 CL (z9 (d2 uP (z7 1) (dI 3)) (z9 (jC 2 0) i3))))
 (J8 (i8 4 (jP (d8 (jC 2 1))))
 (lG (d8 (jW (z9 (dC (.str "pile")) (z9 (dC (.str "queue")) i3)))) (u5 5) SD)))
def WK{ns:List Int}(hl:ns.length<=63){c2 c3 c4 c5 c6 c7 c8 c9 c10 c11 c12:Option Cell}:∃gO fm bJ fu bZ cu fr eD cm bF bz,Sk [sC (.lst (ns.map D.int)),sC (.int c),c2,c3,c4,c5,c6,c7,c8,c9,c10,c11,c12] =
  some (.nx [sC (.lst (ns.map D.int)),sC (.int c),gO,fm,bJ,fu,bZ,cu,fr,eD,cm,bF,bz]):=by
 obtain⟨n',ts,w1,w2,w3,w4⟩:=U4 c (most:=6) (ties:=9) (by decide) (by decide) (by decide) (by decide);have hlo:=w2.lo;obtain⟨n,rfl⟩:=Cb (show 0<=n' by omega);obtain⟨r,r1,r2⟩:=U3 (c / 3) (n:=(n:Int)) (by omega) (by omega);rw[Ai]at r2
 have hm:ts.length<=9:=by omega
 have hr:r.Nodup:=r2.nodup_iff.mpr (Xa n)
 have aK:∀t∈ts,t.1∈r/\t.2∈r:=λt ht=>by
  have:=w2.ok t ht
  exact⟨r2.mem_iff.mpr (P7.mpr (by omega)),r2.mem_iff.mpr (P7.mpr (by omega))⟩
 have hL:kJ (n:Int) ts r:=⟨w2.up,w2.ok,hr,by rw[r2.length_eq,Wl],aK,w2.hi,by omega⟩;obtain⟨a6,a7,a8,a9,a10,a11,a12,ea⟩:=OA hL hm (.inl ⟨rfl,rfl⟩) hl (ns:=ns) (c1:=sC (.int c)) (c6:=c6) (c7:=c7) (c8:=c8) (c9:=c9) (c10:=c10) (c11:=c11) (c12:=c12);obtain⟨b6,b7,b8,b9,b10,b11,b12,eb⟩:=OA hL hm (.inr ⟨rfl,rfl⟩) hl (ns:=ns) (c1:=sC (.int c)) (c6:=a6) (c7:=a7) (c8:=a8) (c9:=a9) (c10:=a10) (c11:=a11) (c12:=a12)
 refine⟨sC (Y9 (n:Int) ts),sC (.tup (r.map D.int)),sC (z8 ts.length),sC (.str "queue"),b6,b7,b8,b9,b10,b11,b12,?_⟩;refine v5 (J4 (d:=Y9 (n:Int) ts) ((x6 (ds:=[.int c,.int 6,.int 9]) rfl).trans w1)) ?_;refine v5 (J4 (d:=.tup (r.map D.int)) ((x6 (ds:=[.int (c / 3),.int (n:Int)]) (u3 ((jI (x:=.int c) (y:=.int 3) rfl rfl).trans rfl) rfl)).trans r1)) ?_;refine v5 (J4 (d:=z8 ts.length) ((l9 (ds:=ts.map j0) rfl).trans (by rw[A0];rfl))) ?_
 refine(mJ (ds:=[.str "pile",.str "queue"]) (sA (pM (ds:=[.str "pile",.str "queue"]) rfl (show 2<=f9 by decide)))).trans ?_;exact(qY rfl ea).trans ((qY rfl eb).trans rfl)
def law_true:∀ns:List Int,ns.length<=63->yM [.lst (ns.map D.int)]=some (.bl true):=by
 intro ns hl;refine mG (x:=RO [sC (.lst (ns.map D.int)),none,none,none,none,none,none,none,none,none,none,none,none]) ?_
 obtain⟨Y',e,c1,c2,c3,c4,c5,c6,c7,c8,c9,c10,c11,c12,rfl⟩:=JX (h:=u5 1) (g:=Sk) (λY=>∃c1 c2 c3 c4 c5 c6 c7 c8 c9 c10 c11 c12:Option Cell,Y=[sC (.lst (ns.map D.int)),c1,c2,c3,c4,c5,c6,c7,c8,c9,c10,c11,c12]) (ds:=nN (ns.map D.int) none (some 2))
  (Y:=[sC (.lst (ns.map D.int)),none,none,none,none,none,none,none,none,none,none,none,none]) ⟨none,none,none,none,none,none,none,none,none,none,none,none,rfl⟩ (λd hd Y hI=>by
   obtain⟨c1,c2,c3,c4,c5,c6,c7,c8,c9,c10,c11,c12,rfl⟩:=hI;obtain⟨i,_,rfl⟩:=Ah.mp (Fe (Dt hd));obtain⟨gO,fm,bJ,fu,bZ,cu,fr,eD,cm,bF,bz,e⟩:=WK (c:=i) hl (c2:=c2) (c3:=c3) (c4:=c4) (c5:=c5) (c6:=c6) (c7:=c7) (c8:=c8) (c9:=c9) (c10:=c10) (c11:=c11) (c12:=c12)
   exact⟨_,_,rfl,.inl e,⟨_,_,_,_,_,_,_,_,_,_,_,_,rfl⟩⟩)
 exact v5 ((mJ (ds:=nN (ns.map D.int) none (some 2)) rfl).trans e) rfl
end P
open PySem PySem.W PyProof.Rows
def PySem.W.Fast.te16434009636361747345:True:=trivial
def PySem.W.Fast.tw4958820926926749561:True:=trivial
def PySem.W.Fast.tw5033224578447978335:True:=trivial
def PySem.W.Fast.tw609212596163016472:True:=trivial
def PySem.W.Fast.tw8376343567957126943:True:=trivial
def PySem.W.Fast.tw14235420217985916550:True:=trivial
def PySem.W.Fast.tw16621306397442806508:True:=trivial
def PySem.W.Fast.tw10524378355079326416:True:=trivial
def PySem.W.Fast.tw6038090894851957827:True:=trivial
def PySem.W.Fast.tw11292904850917874017:True:=trivial
def PySem.W.Fast.tw207276813896168731:True:=trivial
def PySem.W.Fast.tw4661545873522341302:True:=trivial
def PySem.W.Fast.tw7141184841971618472:True:=trivial
def PySem.W.Fast.tw10565266360938446043:True:=trivial
def PySem.W.Fast.tw14299263303138777795:True:=trivial
def PySem.W.Fast.tw2475998257713955734:True:=trivial
set_option maxRecDepth 100000 in
set_option maxHeartbeats 0 in
theorem PySem.Challenge.cw_pageties_k06_whole_papers_holds : PySem.Challenge.rw_pageties_k06_whole_papers.Holds := by
 w_on;o_law;k_head;(case hw=>w_witness2)
 k_fill
 refine P.walk (l:=PySem.Challenge.rw_pageties_k06_whole_papers) rfl rfl (λw h ya=>PySem.W.km_in_of ya) (λw h ya P q e=>PySem.W.km_tabs_of ya P (Bq (f:=B5) (L3.mem_look e))) (λw=>by kernel_rfl) P.law_true ?F
 case F=>
  intro w mg fa h KX G hV;apply P.all_mk hV;constructor
  all_goals first
   |exact⟨trivial⟩
   |exact PySem.W.mg_none_of KX G (by k_is)
   | (refine' P.st_mk KX G ?a ?b ?c ?d;(case a=>k_is);(case b=>k_is);(case c=>k_is);(case d=>k_is))
   | (refine' P.stL_mk KX G ?a ?b ?c ?d ?e;(case a=>k_is);(case b=>k_is);(case c=>k_is);(case d=>k_is);(case e=>kernel_rfl))
   | (refine' P.tb_CLASHING KX G ?a ?b ?c ?v0 ?v1;(case a=>k_is);(case b=>k_is);(case c=>k_keys);(case v0=>k_is);(case v1=>k_is))
