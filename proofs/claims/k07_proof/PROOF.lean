import PyProof.Rows.All
import Wide.All
import OpenK.AllK
import Wide.FinOn
import Lean
import PyProof.EqAt
import PyProof.EqKinds
import PyProof.TupleCall
import PyProof.Rows.TupAdd
import PyProof.NeKinds
import KE.LcSums
import PyProof.ListRange
import PyProof.ListMulRoad
import PyProof.Draws
import PyProof.EnumMake
import PyProof.MinMaxWalk
import PyProof.WalkInts
import PyProof.Rows.SortStr
import PyProof.Rows.SortKeyStr
import PyProof.WalksMore
import PyProof.TupleKey
import KE.KDictLaws
import KE.KDictOf
import KE.KDictList
import PyProof.TupleOfGen
import PySem.Challenge.RW_pageties_k07_whole_rows
set_option Elab.async false
set_option linter.all false
set_option maxRecDepth 100000
set_option maxHeartbeats 4000000
abbrev K9:=@decide_eq_true
abbrev z7:=@if_pos
abbrev Y1:=@decide_eq_false
abbrev w6:=@PySem.wpAny_pure
abbrev y3:=@if_neg
abbrev lC:=@of_decide_eq_true
abbrev w9:=@absurd
abbrev lD:=@congrArg
abbrev pQ:=@of_decide_eq_false
abbrev VP:=PySem.Value->PySem.Shared->Prop
abbrev f8:=List (PySem.Addr×PySem.Obj)
open List renaming length_map→A0,getElem?_eq_getElem→A4,mem_cons_self→A6,mem_cons_of_mem→A7,range→A9,mem_append_right→Ac,mem_cons→Ad,mem_singleton→Ae,map_cons→Af,mem_range→Ag,length_append→Ah,mem_map→Ak,getElem?_map→Am,size_toArray→An,length_cons→As,length_range→At,mem_append→Aw,mem_filter→Az,map_map→B1,getElem?_eq_some_iff→B2,map_congr_left→B4,map_append→B6,mem_append_left→B7,length_singleton→Bb,getElem?_set_ne→Bc,pairwise_map→Bd,replicate→Bh,idxOf_lt_length_of_mem→Bl,lookup_cons→Bm,nodup_cons→Bq,toArray→Bu,append_nil→Bx,nodup_append→Bz,mem_map_of_mem→C3,mem_of_getElem?→C5,getElem_mem→Cd,nodup_range→Cj,getElem?_set_self→Ck,append_assoc→Co,filterMap_cons→Cs,getD_eq_getElem?_getD→Cu,getElem?_eq_none→Cv,length_filter_le→Cw,length_set→Cy,pairwise_append→D0,getElem?_append_left→Dg,not_mem_nil→Dk,getElem?_range→Dl,pairwise_singleton→Dq,pairwise_cons→Ds,length_nil→Dt,pairwise_lt_range→Dz,mergeSort_perm→E2,getElem_of_mem→E3,nodup_nil→E6,length_take→E9,pairwise_mergeSort→Ea,all_eq_true→Eb,getElem?_cons_succ→Ec,replicate_succ→Ek,mem_filterMap→Er,zip_cons_cons→Et,any_cons→Ex,filter_sublist→F4,getElem?_append_right→F9,foldl_cons→Fh,flatten_cons→Fn,ext_getElem?→Fu,length_drop→G8,eq_nil_of_length_eq_zero→Ge,map_nil→Gg,range_succ_eq_map→Gh,find?_cons→Gn,mem_iff_getElem→Gw,perm_append_singleton→Ha,idxOf_cons_self→Hb,idxOf_eq_length→Hc,map_id'→Hj,drop_eq_getElem_cons→Hl,pairwise_iff_getElem→Hm,getLast?_eq_some_iff→Hn,getLast?_eq_none_iff→Ho,of_mem_zip→Hy,range_succ→Hz,filter_map→I0,getElem_idxOf→Ie,length→Ih,map_id→Io,pairwise_filterMap→Ip,take_zero→Jb,take_of_length_le→Jc,idxOf_append→Ji,length_replicate→Jj,ext_getElem→Jm,mem_erase_of_ne→Jv,getElem?_of_mem→Jw,nil_append→Kb,idxOf_cons→Kd,zip_nil_right→Kn,getElem?_drop→Kx,take_sublist→L1,range'→L6,Pairwise→Lm,any_eq_true→Lp,take_length→Lu,mem_flatMap→Lv,sublist_nil→Lw,Nodup→M5,drop_drop→Mj,foldl→N7,all_map→Ng
open PySem renaming wpAny_bind→A3,Value→Aa,starEach→Ab,Shared→Ai,wpAny→Ap,Addr→Av,model→B0,bootBuiltins→B5,Str→Bf,sizeLine_eq→Bs,Program→Bw,Around→C1,backTo→C8,wpAny_newObj_type→Cb,mem_of_lookup→Cc,eval→Ce,Heap→Cf,World→Cg,Builtin→Cl,wpAny_mono→Cn,wpAny_holding→Cp,foldedSetIterable→Cz,SetTable→D1,wpAny_setState_of→D2,cLine→D4,mainGlobals→D5,Spec→D9,compareOp→Da,behindInMarks→Dd,wpAny_truthy_bool→De,Stmt→Do,wpAny_tryCatch→E5,assignEach→Ef,wpAny_seqItems→Ei,swapsWith→Ej,wpAny_pyIter_tuple→Ep,wpAny_Call_Name_kw→Es,wpAny_call_entry→Eu,codeAny→Ew,wpAny_of_eq→Ey,wpAny_callSpecial?_slot→F0,wpAny_updateSeq→F2,intKind→Fc,wpAny_passesOwn→Fg,sysModules→Fv,attributeBase→Fx,wpAny_pyNext_tuple_item→G6,wpAny_forIn_list→G7,wpAny_askSetting→Gb,richCompare→Gd,wpAny_letGo→Gf,wpAny_evalAll_cons→Gj,bindArgs→Gk,wpAny_loadPart'→Gm,wpAny_standAt→Go,wpAny_pyIter_list→Gq,FuncData→Gu,NameKind→Gv,holding→Hd,cellsFrom→He,updateSeq→Hi,Pos→Hq,binaryOp→Hs,wpAny_newList→Hv,builtinsNs→Ia,tupleKind_room_in1→Ic,wpAny_field→Ij,sliceBounds→Ik,pyNext→Ir,wpAny_pyNext_tuple_end→Is,wpAny_typeOf→Iw,Keyword→Ix,wpAny_setField→Iy,wpAny_evalAll_nil→Jd,wpAny_storeSet_of→Jh,builtinLookup_eq_fast→Jk,seqItems?→Jn,keywordEach→Jt,Obj→Jy,wpAny_execs_nil→Jz,letOwnedTupleGo→Ka,wpAny_setEntries_of→Ke,codeAny_mono→Kg,setNext→Kj,codeAmong→Kk,Paired→Kl,call_meets→Ko,wpAny_runValue→Kq,wpAny_rule→Kr,firstArgMember→Ks,isSubtype_type→Kv,standAt→L0,collect→L4,wpAny_pyIter_enum→L5,ofAClassStatement→Lc,Result→Lf,argsOk→Lj,noFill_tuple_add→Lo,concat_meets→Lz,getItem→M0,defaultsOf→M2,wpAny_ite_false→M7,wpAny_specialOf→M8,codeAny_of_tree→M9,typeLookup_type→Ma,assign→Md,subscripted→Me,backToKw→Mf,relayAll→Mh,tupleKind→Ml,PassesOwn→Mm,callerA→Mn,Arguments→Mo,Fin→Mr,valueAt→Ms,pickOrder→Mt,rangeSize_one→Mu,seq_tuple_add→Mv,wpAny_attempt→Mx,pyIter→N3,wpAny_load→N4,IsPart→N5,typeLookup→N6,setAdd→N8,setsByText→N9,Walks→Nb,again→Nc,BindsTo→Nd,newList→Nf,entryFor→Nk,setAddHashed→Nm,call_meetsIn→No,Env→Nq,putSet_of→Nr,isSubtype→Nt,atKey→Nu,hashByValue→Nv,wpAny_Name→Nw,CmpOp→Nx,truthy→Ny,wpAny_call→Nz,bindL→O0,bindC→O1,Meets→O2,call→O5,closureFor→O6,newTuple→Oa
open PySem.W renaming Frag→A5,fnOf→Dx,keepIn→F8,kitOne→Fa,kas_rev→Fd,kas_place→Fj,kia_one→Fk,kas_desc→Fo,kas_descPart→Fp,codeIn→Iu,nsIn→Iz,kdv_fn→Ja,codeHdIn→Jo,kas_asc→Jr,methodObj→Kz,envX→M3,OpenLaw→Mc,kas_tail3→Mp,kas_count→Mq,mg_of→N0,KasT→Od
open PySem.Heap renaming get?_push_of_some→A8,lt_size→Ao,get?_push_size→Ar,get?_update_other→Bo,get?_update_self→D6,SameBut→Dh,size_push→Dr,size_update→Hg
open Nat renaming le_refl→Aj,ne_of_lt→Aq,lt_of_lt_of_le→B8,zero_le→Bg,le_trans→Bn,lt_succ_of_lt→C2,le_of_lt→D7,ne_of_gt→D8,lt_irrefl→Dc,lt_trans→Dp,not_lt_zero→Dv,lt_succ_self→Dy,le_succ→Em,lt_succ_iff_lt_or_eq→G4,min_le_right→Hf,lt_of_le_of_lt→Ib,lt_trichotomy→Lb,le_add_right→Lq,zero_add→M4,min_eq_left→Mb,sub_self→Nn
open Array renaming length_toList→Au,getElem?_toList→Cq,getD→Eh,getElem?_eq_getElem→En,getD_eq_getD_getElem?→Gr,getElem?_eq_some_iff→Gz,toList_push→L7
open Int renaming toNat_natCast→Ay,min_eq_left→E7,max_eq_right→Ed,toNat_of_nonneg→El,min_eq_right→Ev,max_eq_left→Fl,le_refl→Il,le_total→Ki,zero_add→Np
open Bool renaming false_ne_true→B3,and_eq_true→Bi,false_eq_true→Bj,not_eq_true'→Fq,not_true→Hx,or_false→Lg,false_or→Li,or_eq_true→M6,true_or→Nj
open Option renaming map_eq_some_iff→B9,isSome_iff_exists→Dj,isSome_map→Fs
open Option.some renaming inj→Ba
open PySem.SetTable renaming below→Be,leap→C9,runEnd→Dw,grown→Ez,bits→F7,insertAt→Ft,Probe→Gx,toList_insertAt→Hw,sizeAbove→Ku,turns→Kw,layClean→La,slot→Ll,advance→Ls,tooFull→Lt,laid→My
open PyProof.Rows renaming seqObj→Bk,IntsAre→Ci,envOfC→Dm,callWith_type1→Ee,callWith_kw→Fz,slot_tuple_getitem→G5,listUpdate_at→Gp,envOfC→Jl,AllBare→Kf,listItems_at→Kh,size_push'→M1,seqEpoch_at→Mg,subscriptTail→Mw,IsTup→Na,failedOf→Ni,Subscript_→O4,SortKind→O7,keyKind'→O8
open Prod renaming fst→Bp,snd→Mi,ext→O3
open PySem.PassesOwn renaming never→Br
open PySem.Str renaming ofString→Bt
open Sum renaming inl→Bv,inr→Ly
open PySem.Heap.SameBut renaming update→By
open PySem.NameKind renaming free→C0,cell→Du
open Classical renaming byContradiction→C4,choose_spec→Eo,choose→Jp
open PySem.Around renaming under_plainId→C6
open PySem.Builtin.Builtins renaming bindParams→C7
open PySem.Value renaming none→Ca,type→Cm,ref→D3,int→If,notImplemented→Js,isInt_shape→Ky,str→Mk,bool→N2
open Ne renaming symm→Ch
open Pure renaming pure→Cr
open PySem.Obj renaming mapSeq→Ct,putSet→Gy
open Or renaming inr→Db,inl→E8
open PySem.SeqAt renaming RcNeAt→Df,EqAt→G9,RcAt→Gc,EqAt→N1
open PySem.F renaming plain_max_loop→Di,args_tuple_add_2→Ht,entry_tuple_add→Ii,plainAttrs_list→Im,plainAttrs_dict→Iq,slot_tuple_add→Iv,entry_max_loop→Je,plain_max→L8,entry_max→L9,kind_max→Lr
open PySem.Builtin.Tuple renaming tupleExact→E4
open List.Pairwise renaming nil→Eg,imp_of_mem→G0
open ForInStep renaming yield→F1
open PyProof.Rows.F renaming plain_set_update_loop→F3
open PySem.Builtin.List renaming listExtendWith→F5,listTooLong→Hu
open PySem.SetTable.layClean renaming free→F6
open List.Perm renaming refl→Fb,swap→Jg
open PySem.Builtin.Slice renaming slicePlaces→Fe,sliceAdjust→Hk
open PySem.Builtin.SmallTypes renaming nextOf→Ff
open Array.Perm renaming refl→Fi
open Sum.inl renaming inj→Fm
open False renaming elim→Fw
open PySem.AutoSeq1 renaming wpAny_loadPart'→Fy
open MonadExcept renaming tryCatch→Ga
open True renaming intro→Gi
open PySem.SetTable.probe renaming go→Gt
open List.Sublist renaming append→Hr,refl→Ld
open PySem.Builtin.Range renaming rangeSize→Ig
open PySem.SetTable.below renaming go→Jf
open Min renaming min→Jq
open PySem.Data renaming seq→Ju
open Prod.mk renaming inj→Jx
open PySem.Fin renaming again→Kc
open ToString renaming toString→Kt
open PySem.Paired renaming length→Le
open Function renaming comp→Lh
open List.cons renaming inj→Ln
open PySem.Shared renaming TypeIs→Mz
open PySem.W.KasT renaming ask→Nh
open PySem.pickOrder renaming go→Nl
open PySem.Walks renaming list→O9
open PySem.SeqAt.EqAt renaming same→Ob
open Except renaming ok→Oc
namespace L2
open PySem PySem.Spec PyProof.Rows
abbrev d3:=Sum Int Bf
def xN:d3->Aa->Bool
 | .inl k,v=>Aa.isInt k v
 | .inr x,v=>Aa.isStrOf x v
def Ϻ(w:Cg):d3->Int
 | .inl k=>hashInt k
 | .inr x=>hashStr w x
theorem rX:∀{k:d3} {v:Aa},xN k v=true->(∃i t,k=Bv i/\v=If i t)\/(∃x t,k=Ly x/\v=Mk x t)
 | .inl i,v,h=>by obtain⟨t,e⟩:=Ky (k:=i) (v:=v) h;exact .inl ⟨i,t,rfl,e⟩
 | .inr x,v,h=>by obtain⟨t,e⟩:=Aa.isStrOf_shape (x:=x) (v:=v) h;exact .inr ⟨x,t,rfl,e⟩
def Ym(i:Int)(t:Tok):xN (.inl i) (.int i t)=true:=by simp[xN,Aa.isInt]
def Yn(x:Bf)(t:Tok):xN (.inr x) (.str x t)=true:=by simp[xN,Aa.isStrOf]
def ľ(a b:Int):decide ((Bv a:d3)=Bv b)=(a==b):=by
 by_cases e:a=b
 .subst e;simp
 .have h:¬(Bv a:d3)=Bv b:=λq=>e (Fm q);rw[Y1 h];exact(beq_eq_false_iff_ne.mpr e).symm
def Ł(a b:Bf):decide ((Ly a:d3)=Ly b)=decide (a=b):=by
 by_cases e:a=b
 .subst e;simp
 .have h:¬(Ly a:d3)=Ly b:=λq=>e (Ly.inj q);rw[Y1 h,Y1 e]
def Ŀ(a:Int)(b:Bf):decide ((Bv a:d3)=Ly b)=false:=Y1 (λq=>nomatch q)
def ŀ(a:Bf)(b:Int):decide ((Ly a:d3)=Bv b)=false:=Y1 (λq=>nomatch q)
def mM(prog:Bw)(w:Cg):PySem.KeyKind prog w d3 where
 is:=xN
 hash:=Ϻ w
 inj:=λv a b ha hb=>by
  rcases rX ha with⟨i,t,rfl,rfl⟩|⟨x,t,rfl,rfl⟩
  .rcases rX hb with⟨j,u,rfl,e⟩|⟨y,u,rfl,e⟩
   .injection e with e1 _;rw[e1]
   .exact nomatch e
  .rcases rX hb with⟨j,u,rfl,e⟩|⟨y,u,rfl,e⟩
   .exact nomatch e
   .injection e with e1 _;rw[e1]
 byValue:=λk v h=>by rcases rX h with⟨i,t,rfl,rfl⟩|⟨x,t,rfl,rfl⟩<;>rfl
 pyHash:=λhv h=>by
  rcases rX hv with⟨i,t,rfl,rfl⟩|⟨x,t,rfl,rfl⟩
  .exact wpAny_pyHash_int h
  .exact wpAny_pyHash_str h
 eqBool:=λhu hv h=>by
  rcases rX hu with⟨i,t,rfl,rfl⟩|⟨x,t,rfl,rfl⟩
  .rcases rX hv with⟨j,u,rfl,rfl⟩|⟨y,u,rfl,rfl⟩
   .rw[ľ]at h;exact wpAny_eqBool_int h
   .rw[Ŀ]at h;exact N1.int_str i t y u _ _ _ _ h
  .rcases rX hv with⟨j,u,rfl,rfl⟩|⟨y,u,rfl,rfl⟩
   .rw[ŀ]at h;exact N1.str_int x t j u _ _ _ _ h
   .rw[Ł]at h;exact wpAny_eqBool_str h
 «strs»:=λk x t v h=>by
  rcases rX h with⟨i,u,rfl,e⟩|⟨y,u,rfl,e⟩
  .exact nomatch e
  .injection e with e1 _;subst e1;cases v<;>rfl
def Vm(prog:Bw)(w:Cg)(i:Int)(t:Tok):(mM prog w).is (.inl i) (.int i t)=true:=Ym i t
def Vn(prog:Bw)(w:Cg)(x:Bf)(t:Tok):(mM prog w).is (.inr x) (.str x t)=true:=Yn x t
inductive V where
 |non|bl (b:Bool)|int (i:Int)|str (x:Bf)|byt (b:Array UInt8)|flt (b:UInt64)|ref (a:Av)|ty (n:String)
 deriving DecidableEq
def e9:V->Aa->Prop
 | .non,u=>u=Ca
 | .bl b,u=>u=N2 b
 | .int i,u=>∃t,u=If i t
 | .str x,u=>∃t,u=Mk x t
 | .byt b,u=>∃t,u=Aa.bytes b t
 | .flt b,u=>∃t,u=Aa.float b t
 | .ref a,u=>u=D3 a
 | .ty n,u=>u=Cm n
abbrev Y7:List V->List Aa->Prop:=Kl e9
def Y7.length{xs:List V}{us:List Aa}(r:Y7 xs us):xs.length=us.length:=Le r
theorem Y7.get:∀{xs:List V} {us:List Aa} {i:Nat} {x:V},Y7 xs us->xs[i]?=some x->∃u,us[i]?=some u/\e9 x u
 |_,_,_,_,.nil,e=>by simp at e
 |_,_,0,_,.cons r _,e=>by simp at e;subst e;exact⟨_,rfl,r⟩
 |_,_,i+1,x,.cons _ t,e=>by obtain⟨u,h1,h2⟩:=Y7.get (i:=i) (x:=x) t (by simpa using e);exact⟨u,by simpa using h1,h2⟩
theorem Y7.append:∀{xs ys:List V} {us ws:List Aa},Y7 xs us->Y7 ys ws->Y7 (xs++ys) (us++ws)
 |_,_,_,_,.nil,s=>s
 |_,_,_,_,.cons r t,s=>.cons r (Y7.append t s)
theorem Y7.take:∀{xs:List V} {us:List Aa} (n:Nat),Y7 xs us->Y7 (xs.take n) (us.take n)
 |_,_,0,_=>.nil
 |_,_,_+1,.nil=>.nil
 |_,_,n+1,.cons r t=>.cons r (Y7.take n t)
theorem Y7.drop:∀{xs:List V} {us:List Aa} (n:Nat),Y7 xs us->Y7 (xs.drop n) (us.drop n)
 |_,_,0,r=>r
 |_,_,_+1,.nil=>.nil
 |_,_,n+1,.cons _ t=>Y7.drop n t
def o9:Option V->Option Aa->Prop
 |some v,some u=>e9 v u
 |none,none=>True
 |_,_=>False
def KV{κ:Type}:List (κ×V)->List (κ×Aa)->Prop:=Kl λ(p:κ×V) (q:κ×Aa)=>p.1=q.1/\e9 p.2 q.2
def kV:d3->V
 | .inl i=>.int i
 | .inr x=>.str x
inductive HO where
 /-- a list -/
 |lst (xs:List V)
 /-- a tuple (never changes) -/
 |tup (xs:List V)
 /-- a dict whose keys are ints and texts;one whose keys are tuples of ints and texts (the empty one is gu) -/
 |dK (kvs:List (d3×V))|dT (kvs:List (List d3×V))
 /-- a set of ints: its members,its size -/
 |set (S:Int->Bool) (n:Nat)
 /-- an instance of the class at C,its dict at dx,its attributes -/
 |ins (C dx:Av) (fs:List (Bf×V))
 /-- the dict of the instance at x -/
 |own (x:Av)
 /-- the dict of an exception -/
 |xd (fs:List (Bf×V))
 /-- a bound method,f of x -/
 |met (f x:Av)
 /-- a range object lo,lo+1,.. below hi -/
 |rng (lo hi:Int)
 /-- a thing that is known to the object (the script;a dict while a loop walks it): read,never written while it is so -/
 |frz (o:Jy) (u:HO)
 /-- a code object's table -/
 |tbl (ps:Array Aa)
 /-- any other thing,by what is true of its one object (a def of one's own: SetO a S n:=HO.ext λh=>..) -/
 |ext (φ:Cf->Prop)
abbrev Hp:=Av->Option HO
def upd(H:Hp)(a:Av)(o:HO):Hp:=λb=>if b=a then some o else H b
def v8:upd H a o a=some o:=by unfold upd;rw[z7 rfl]
def j6{a b:Av}(h:b≠a):upd H a o b=H b:=by unfold upd;rw[y3 h]
def v0C{H:Hp}{o u:HO}(h:H a=some o)(h':H b=some u)(d:o≠u):a≠b:=by intro e;subst e;rw[h]at h';exact d (Ba h')
def W3{H:Hp}{o:HO}(h:H a=some o)(h':H b=none):a≠b:=by intro e;subst e;rw[h]at h';cases h'
def RA(ps:Array Aa):Bf:=match (ps[0]?:Option Aa) with|some (Mk q _)=>q++".<locals>."++"<lambda>" |_=>"<lambda>"
def pT(h:Cf)(a:Av)(items:Array Aa):Prop:=∃o,h.get? a=some o/\o.cls = .type "tuple"/\(∃n,o.data = .seq items n)/\o.dict=none
def pT.isTup(x:pT h a items):Na h a items:=let ⟨o,e,c,d,_⟩:=x;⟨o,e,c,d⟩
def pT.new(h:Cf)(items:Array Aa):pT (h.push { cls:=.type "tuple",data:=.seq items }) h.objs.size items:=⟨_,Ar _ rfl,rfl,⟨_,rfl⟩,rfl⟩
section
variable(P:Bw)(w:Cg)
def kU(H:Hp)(h:Cf)(a:Av):HO->Prop
 | .lst xs=>xs.length<=sizeLine/\∃(its:List Aa) (n:Nat),Y7 xs its/\h.get? a=some { cls:=.type "list",data:=.seq its.toArray n }
 | .tup xs=>xs.length<=sizeLine/\∃its:List Aa,Y7 xs its/\pT h a its.toArray
 | .dK kvs=>kvs.length<=sizeLine/\(a==Fv)=false/\∃vs,KV kvs vs/\h.DictOf (mM P w) a vs
 | .dT kvs=>kvs.length<=sizeLine/\(a==Fv)=false/\∃xs:List (List d3×Av×Aa),
   Kl (λ(p:List d3×V) (q:List d3×Av×Aa)=>p.1=q.1/\H q.2.1=some (.tup (p.1.map kV))/\e9 p.2 q.2.2) kvs xs /\
   ∃o es ep,h.get? a=some o/\o.ExactDict/\o.data = .dict es ep/\es.toList=xs.map (entryOfKey (Ml (mM P w)))/\(xs.map (·.1)).Nodup
 | .set S n=>h.SetOf (Fc P w) a S n
 | .ins C dx fs=>H dx=some (.own a)/\fs.length<=1000/\dx≠a/\h.get? a=some (PySem.W.instObj C dx) /\
   ∃mA,h.Ns1 dx mA/\(∀f,o9 (fs.lookup f) (mA f))/\PySem.Within mA (fs.map (·.1))
 | .own _=>∃o,h.get? a=some o
 | .xd fs=>∃mA,h.Ns1 a mA/\∀f,o9 (fs.lookup f) (mA f)
 | .rng lo hi=>∃t u v,h.get? a=some { cls:=.type "range",data:=.fields #[.int lo t,.int hi u,.int 1 v] }
 | .frz o u=>h.get? a=some o/\kU H h a u
 | .tbl ps=>∃qs:Array Aa,h.get? a=some { cls:=.none,data:=.fields qs }/\TriplesOk qs.toList/\∀(p:Hq) (v:Aa),Kk p qs.toList=some v->∃(c:Av) (oc:Jy) (vs:Array Aa) (t:Tok),v = .ref c/\H c=some (.frz oc (.own a))/\oc.data = .fields vs/\vs[1]?=some (.str (RA ps) t)
 | .met f x=>h.get? a=some (Kz (.ref f) (.ref x))
 | .ext φ=>φ h/\(∃o,h.get? a=some o)/\∀h1 h2:Cf,φ h1->(∀o,h1.get? a=some o->h2.get? a=some o)->φ h2
def kR(H:Hp)(h:Cf):Prop:=∀a o,H a=some o->kU P w H h a o
end
section
variable{P:Bw}{w:Cg}{H H':Hp}{h h':Cf}{a:Av}{o:HO}
theorem kU.lt(x:kU P w H h a o):a<h.objs.size:=by
 cases o with
 |lst xs=>obtain⟨_,_,_,_,e⟩:=x;exact Ao e
 |tup xs=>obtain⟨_,_,_,p⟩:=x;exact p.isTup.lt
 |dK kvs=>obtain⟨_,_,_,_,o,_,_,e,_⟩:=x;exact Ao e
 |dT kvs=>obtain⟨_,_,_,_,o,_,_,e,_⟩:=x;exact Ao e
 |set S n=>obtain⟨o,_,_,_,e,_⟩:=x;exact Ao e
 |ins C dx fs=>obtain⟨_,_,_,e,_⟩:=x;exact Ao e
 |own y=>obtain⟨_,e⟩:=x;exact Ao e
 |xd fs=>obtain⟨_,⟨_,_,_,e,_⟩,_⟩:=x;exact Ao e
 |rng lo hi=>obtain⟨_,_,_,e⟩:=x;exact Ao e
 |frz ob u=>obtain⟨e,_⟩:=x;exact Ao e
 |tbl ps=>obtain⟨_,e,_⟩:=x;exact Ao e
 |met f y=>exact Ao (show h.get? a=some _ from x)
 |ext φ=>obtain⟨_,⟨_,e⟩,_⟩:=x;exact Ao e
theorem Kl.mapP{α β:Type}{F G:α->β->Prop}:∀{l₁:List α} {l₂:List β},Kl F l₁ l₂->(∀a b,F a b->G a b)->Kl G l₁ l₂
 |_,_,.nil,_=>.nil
 |_,_,.cons r t,f=>.cons (f _ _ r) (Kl.mapP t f)
theorem kU.stay(x:kU P w H h a o)(k:∀b u,(b=a\/H b=some (.own a))->h.get? b=some u->h'.get? b=some u)(ho:∀b,H b=some (.own a)->H' b=some (.own a))(ht:∀b xs,H b=some (.tup xs)->H' b=some (.tup xs))(hz:∀b ob u,H b=some (.frz ob u)->H' b=some (.frz ob u)):kU P w H' h' a o:=by
 induction o with
 |lst xs=>obtain⟨z,its,n,r,e⟩:=x;exact⟨z,its,n,r,k _ _ (.inl rfl) e⟩
 |tup xs=>obtain⟨z,its,r,ob,e,c⟩:=x;exact⟨z,its,r,ob,k _ _ (.inl rfl) e,c⟩
 |dK kvs=>obtain⟨z,y,vs,r,ob,es,ep,e,c⟩:=x;exact⟨z,y,vs,r,ob,es,ep,k _ _ (.inl rfl) e,c⟩
 |dT kvs=>obtain⟨z,y,xs,r,ob,es,ep,e,c⟩:=x;exact⟨z,y,xs,Kl.mapP r λp q z=>⟨z.1,ht _ _ z.2.1,z.2.2⟩,ob,es,ep,k _ _ (.inl rfl) e,c⟩
 |set S n=>obtain⟨ob,es,ep,t,e,c⟩:=x;exact⟨ob,es,ep,t,k _ _ (.inl rfl) e,c⟩
 |ins C dx fs=>obtain⟨d,z,ne,e,mA,⟨od,es,ep,e2,c⟩,r⟩:=x;exact⟨ho _ d,z,ne,k _ _ (.inl rfl) e,mA,⟨od,es,ep,k _ _ (.inr d) e2,c⟩,r⟩
 |own y=>obtain⟨ob,e⟩:=x;exact⟨ob,k _ _ (.inl rfl) e⟩
 |xd fs=>obtain⟨mA,⟨od,es,ep,e,c⟩,r⟩:=x;exact⟨mA,⟨od,es,ep,k _ _ (.inl rfl) e,c⟩,r⟩
 |rng lo hi=>obtain⟨t,u,v,e⟩:=x;exact⟨t,u,v,k _ _ (.inl rfl) e⟩
 |frz ob u ih=>obtain⟨e,q⟩:=x;exact⟨k _ _ (.inl rfl) e,ih q⟩
 |tbl ps=>obtain⟨qs,e,t,c⟩:=x;exact⟨qs,k a _ (.inl rfl) e,t,λp v q=>let ⟨c',oc,vs,tk,z1,z2,z3⟩:=c p v q;⟨c',oc,vs,tk,z1,hz _ _ _ z2,z3⟩⟩
 |met f y=>have e:h.get? a=some (Kz (.ref f) (.ref y)):=x;show h'.get? a=some (Kz (.ref f) (.ref y));exact k a _ (.inl rfl) e
 |ext φ=>obtain⟨p,⟨o,e⟩,st⟩:=x;exact⟨st _ _ p λo q=>k _ _ (.inl rfl) q,⟨o,k _ _ (.inl rfl) e⟩,st⟩
def kR.lt(x:kR P w H h)(e:H a=some o):a<h.objs.size:=(x a o e).lt
theorem kR.fresh(x:kR P w H h)(e:h.objs.size<=a):H a=none:=by
 cases q:H a with
 |none=>rfl
 |some u=>exact w9 (B8 (x.lt q) e) (Dc _)
def kR.kept(x:kR P w H h)(k:∀b u,h.get? b=some u->h'.get? b=some u):kR P w H h':=λa o e=>(x a o e).stay (λb u _ q=>k b u q) (λ_ q=>q) (λ_ _ q=>q) λ_ _ _ q=>q
def kR.laid(x:kR P w H h)(k:∀b u,h.get? b=some u->h'.get? b=some u)(hp:h.objs.size<=a)(new:kU P w (upd H a o) h' a o):kR P w (upd H a o) h':=λb u e=>by
 have hn:=x.fresh hp;by_cases hb:b=a
 .subst hb;rw[v8]at e;cases e;exact new
 .rw[j6 hb]at e
  exact(x b u e).stay (λc v _ q=>k c v q) (λc q=>by rw[j6 (W3 q hn)];exact q) (λc xs q=>by rw[j6 (W3 q hn)];exact q) λc ob xs q=>by rw[j6 (W3 q hn)];exact q
end
def Rd(H:Hp)(a:Av)(u:HO):Prop:=H a=some u\/∃o,H a=some (.frz o u)
def Rd.of{H:Hp}{u:HO}(h:H a=some u):Rd H a u:=.inl h
def Rd.ok(r:Rd H a u)(x:kR P w H h):kU P w H h a u:=by
 rcases r with r|⟨o,r⟩
 .exact x a u r
 .obtain⟨_,q⟩:=x a _ r;exact q
def AY:Option HO->Prop
 |some (.lst _)=>True
 |some (.dK _)=>True
 |some (.dT _)=>True
 |some (.set _ _)=>True
 |some (.ins _ _ _)=>True
 |some (.ext _)=>True
 |_=>False
section
variable{P:Bw}{w:Cg}{H:Hp}{h h':Cf}{x e:Av}{o':HO}
def kR.write(ok:kR P w H h)(mu:AY (H x))(he:e=x\/H e=some (.own x))(k:∀b u,b≠e->h.get? b=some u->h'.get? b=some u)(gR:∃u,h'.get? e=some u)(new:kU P w (upd H x o') h' x o'):kR P w (upd H x o') h':=λb u q=>by
 have ie:∀c y,H c=some (.own y)->c≠x:=λc y r z=>by subst z;rw[r]at mu;exact mu
 have ntup:∀c xs,H c=some (.tup xs)->c≠x:=λc xs r z=>by subst z;rw[r]at mu;exact mu
 have nfrz:∀c ob u,H c=some (.frz ob u)->c≠x:=λc ob u r z=>by subst z;rw[r]at mu;exact mu
 by_cases hb:b=x
 .subst hb;rw[v8]at q;cases q;exact new
 .rw[j6 hb]at q;by_cases gF:b=e
  .have q':H b=some (.own x):=by
    rcases he with z|z
    .exact w9 (gF.trans z) hb
    .rw[gF];exact z
   rw[q]at q';cases q';obtain⟨v,hv⟩:=gR;exact⟨v,by rw[gF];exact hv⟩
  .refine(ok b u q).stay (λc v hc r=>k c v ?_ r) (λc r=>by rw[j6 (ie c b r)];exact r) (λc xs r=>by rw[j6 (ntup c xs r)];exact r) λc ob xs r=>by rw[j6 (nfrz c ob xs r)];exact r
   rcases hc with rfl|hc
   .exact gF
   .rintro rfl;rcases he with z|z
    .exact ie c b hc z
    .rw[hc]at z;cases z;exact hb rfl
end
structure Un(fs ex:List Av)(H H':Hp)(h h':Cf):Prop where
 keep:∀b o,h.get? b=some o->H b=none->b∉fs->b∉ex->h'.get? b=some o
 slot:∀b o,h.get? b=some o->H b=none->b∈fs->b∉ex->∃sl,h'.get? b=some { o with slots:=sl }
 free:∀b o,h.get? b=some o->H b=none->b∉ex->H' b=none
 there:∀b o,h.get? b=some o->b∉ex->∃o',h'.get? b=some o'
 tups:∀b xs,H b=some (.tup xs)->H' b=some (.tup xs)
 frzs:∀b o u,H b=some (.frz o u)->H' b=some (.frz o u)
 tbls:∀b ps,H b=some (.tbl ps)->∃more,H' b=some (.tbl (ps++more))
section
variable{fs fs' ex ex':List Av}{H H1 H2:Hp}{h h1 h2 h':Cf}{a x e:Av}{o:HO}
def Un.any(u:Un fs ex H H1 h h1){b:Av}{ob:Jy}(q:h.get? b=some ob)(n:H b=none)(hx:b∉ex):∃sl,h1.get? b=some { ob with slots:=sl }:=by
 by_cases hb:b∈fs
 .exact u.slot b ob q n hb hx
 .exact⟨ob.slots,u.keep b ob q n hb hx⟩
def Un.trans(a:Un fs ex H H1 h h1)(b:Un fs ex H1 H2 h1 h2):Un fs ex H H2 h h2 where
 keep:=λc ob q n hc hx=>b.keep c ob (a.keep c ob q n hc hx) (a.free c ob q n hx) hc hx
 slot:=λc ob q n hc hx=>by obtain⟨sl,e1⟩:=a.slot c ob q n hc hx;obtain⟨sl',e2⟩:=b.slot c _ e1 (a.free c ob q n hx) hc hx;exact⟨sl',e2⟩
 free:=λc ob q n hx=>by obtain⟨o',e1⟩:=a.there c ob q hx;exact b.free c o' e1 (a.free c ob q n hx) hx
 there:=λc ob q hx=>by obtain⟨o',e1⟩:=a.there c ob q hx;exact b.there c o' e1 hx
 tups:=λc xs q=>b.tups c xs (a.tups c xs q)
 frzs:=λc ob xs q=>b.frzs c ob xs (a.frzs c ob xs q)
 tbls:=λc ps q=>by obtain⟨m1,e1⟩:=a.tbls c ps q;obtain⟨m2,e2⟩:=b.tbls c _ e1;exact⟨m1++m2,by rw[e2,Array.append_assoc]⟩
def Un.kept(k:∀b u,h.get? b=some u->h'.get? b=some u):Un fs ex H H h h':=
 ⟨λb ob q _ _ _=>k b ob q,λb ob q _ _ _=>⟨ob.slots,k b ob q⟩,λ_ _ _ n _=>n,λb ob q _=>⟨ob,k b ob q⟩,λ_ _ q=>q,λ_ _ _ q=>q,λ_ ps q=>⟨#[],by rw[q];simp⟩⟩
def Un.refl:Un fs ex H H h h:=Un.kept λ_ _ q=>q
def Un.laid(k:∀b u,h.get? b=some u->h'.get? b=some u)(hp:h.objs.size<=a)(hn:H a=none):Un fs ex H (upd H a o) h h' where
 keep:=λb u q _ _ _=>k b u q
 slot:=λb u q _ _ _=>⟨u.slots,k b u q⟩
 free:=λb u q n _=>by rw[j6 (Aq (B8 (Ao q) hp))];exact n
 there:=λb u q _=>⟨u,k b u q⟩
 tups:=λb xs q=>by rw[j6 (W3 q hn)];exact q
 frzs:=λb u xs q=>by rw[j6 (W3 q hn)];exact q
 tbls:=λb ps q=>⟨#[],by rw[j6 (W3 q hn),q];simp⟩
def Un.write(mu:AY (H x))(he:e=x\/H e=some (.own x))(k:∀b u,b≠e->h.get? b=some u->h'.get? b=some u)(gR:∃u,h'.get? e=some u):Un fs ex H (upd H x o) h h':=by
 have hx:∀b,H b=none->b≠x:=λb n z=>by subst z;rw[n]at mu;exact mu
 have hb:∀b,H b=none->b≠e:=λb n z=>by
  subst z;rcases he with r|r
  .exact hx b n r
  .rw[n]at r;cases r
 have hm:∀b u,H b=some u->¬AY (some u)->b≠x:=λb u q nm z=>by subst z;rw[q]at mu;exact nm mu
 refine⟨λb u q n _ _=>k b u (hb b n) q,λb u q n _ _=>⟨u.slots,k b u (hb b n) q⟩,λb u q n _=>by rw[j6 (hx b n)];exact n,λb u q _=>?_,
  λb xs q=>by rw[j6 (hm b _ q λz=>z)];exact q,λb u xs q=>by rw[j6 (hm b _ q λz=>z)];exact q,λb ps q=>⟨#[],by rw[j6 (hm b _ q λz=>z),q];simp⟩⟩
 by_cases gF:b=e
 .subst gF;exact gR
 .exact⟨u,k b u gF q⟩
def Un.mono(u:Un fs ex H H1 h h1)(hs:∀b∈fs,b∈fs')(hx:∀b∈ex,b∈ex'):Un fs' ex' H H1 h h1:=
 ⟨λb ob q n hb he=>u.keep b ob q n (λz=>hb (hs b z)) λz=>he (hx b z),λ_ _ q n _ he=>u.any q n λz=>he (hx _ z),λb ob q n he=>u.free b ob q n λz=>he (hx b z),λb ob q he=>u.there b ob q λz=>he (hx b z),u.tups,u.frzs,u.tbls⟩
end
def FQ(h:Cf)(H:Hp):List Av:=(A9 h.objs.size).filter λa=>(H a).isSome
def sI(h:Cf)(H:Hp):Cf:=PySem.W.hideAll h (FQ h H)
def Yj(h:Cf)(H:Hp):(sI h H).objs.size=h.objs.size:=PySem.W.hideAll_size _ _
def ϥ{h:Cf}{H:Hp}{b:Av}{o:Jy}(e:h.get? b=some o)(n:H b=none):(sI h H).get? b=some o:=PySem.W.hideAll_get _ e λhm=>by have q:(H b).isSome=true:=(Az.mp hm).2;rw[n]at q;simp at q
theorem Ó{b:Av}{o:Jy}(e:(sI h H).get? b=some o):h.get? b=some o/\H b=none:=by
 have e':h.get? b=some o:=PySem.W.of_hideAll (FQ h H) e;refine⟨e',?_⟩
 cases q:H b with
 |none=>rfl
 |some x=>have hm:b∈FQ h H:=Az.mpr ⟨Ag.mpr (Ao e'),by simp[q]⟩;have z:(sI h H).get? b=none:=PySem.W.hideAll_none (FQ h H) hm;rw[z]at e;cases e
def ż(g h:Cf)(L:Av):f8:=(A9 h.objs.size).filterMap λa=>if a=L\/(g.get? a).isSome=true then none else (h.get? a).map λo=>(a,o)
def rest(g h:Cf)(L d:Av):f8:=(ż g h L).filter λp=>decide (p.1≠d)
structure Mod(K:A5)(mg:Bf->Option Aa)(base:Cf):Prop where
 kin:K.In base
 glob:base.Ns D5 mg
 blt:∃mb,base.Ns Ia mb/\∀x:Bf,x≠"__name__"->mb x=B5 x
 nolimit:base.NoLimit
 bm:∃bm ob,mg "__builtins__" = some (.ref bm)/\bm≠Ia/\base.get? bm=some ob/\ob.cls = .type "module"/\ob.dict=some Ia/\ob.data = .plain
structure Cx where
 prog:Bw
 w:Cg
 K:A5
 mg:Bf->Option Aa
 base:Cf
 A:C1
 N:List Bf
 s₀:Ai
 H₀:Hp
 env:Nq
 outer:List Nq
 stack:List Nq
 ex:List Av
 fn:Bf->Bool
 calm:Bool
 pn:f8
 xe:VP
def nU(l:List Nq):List Av:=l.filterMap (·.frame)
abbrev Cx.fs(X:Cx):List Av:=nU X.outer
def mS(sc:Scope)(x:Bf):Prop:=sc.names.lookup x=some .local\/sc.names.lookup x=some .cell\/sc.names.lookup x=some .free
def mT(sc:Scope)(x:Bf):Prop:=sc.names.lookup x=some .local\/sc.names.lookup x=some .cell
def ϳ(env:Nq)(h:Cf)(m:Bf->Option Aa)(x:Bf)(u:Aa):Prop:=(env.kindOf x=some .local/\m x=some u)\/((env.kindOf x=some .cell\/env.kindOf x=some .free)/\∃c,env.cells.lookup x=some c/\h.IsCell c (some u))
structure Cx.Ok(X:Cx):Prop where
 mod:Mod X.K X.mg X.base
 kind:X.env.scope.kind = .function
 glob:X.env.globals=D5
 blt:X.env.builtins=Ia
 above:X.s₀.heap.objs.size<=X.env.locals
 inj:∀x y c,X.env.cells.lookup x=some c->X.env.cells.lookup y=some c->x=y
 has:∀x,(X.env.kindOf x=some .cell\/X.env.kindOf x=some .free)->∃c,X.env.cells.lookup x=some c
 cab:∀x c,X.fn x=true->X.env.cells.lookup x=some c->X.s₀.heap.objs.size<=c
 hd:X.calm=true->X.A.handled=none
 frames:X.A.frames=some X.stack
 stk:X.stack=X.outer\/(X.stack=X.env::X.outer/\X.env.frame=some X.env.locals)
 exf:∀b∈X.ex,b≠X.env.locals/\∀x c,X.env.cells.lookup x=some c->c≠b
 bs:∀b o,X.base.get? b=some o->X.s₀.heap.get? b=some o/\X.H₀ b=none
 bsz:X.base.objs.size<=X.s₀.heap.objs.size
 noex:∀b o,X.base.get? b=some o->b∉X.ex
 exfs:∀b∈X.ex,b∉X.fs
 funs:X.s₀.heap.FunFrames X.base X.outer
 frf:∀b∈X.fs,X.H₀ b=none
structure a9(X:Cx)(aa:f8)(U:List (Option V))(H:Hp)(s:Ai):Prop where
 ok:X.Ok
 os:s.os=X.s₀.os
 bare:Kf s.gens
 base:Un X.fs X.ex X.H₀ H X.s₀.heap s.heap
 loc:∃m,s.heap.Ns X.env.locals m/\∀(i:Nat) (x:Bf) (v:V),X.N[i]?=some x->U[i]?=some (some v)->mS X.env.scope x->∃u,e9 v u/\ϳ X.env s.heap m x u
 cell:∀x c,X.env.cells.lookup x=some c->∃v,s.heap.IsCell c v
 free:H X.env.locals=none
 freeC:∀x c,X.env.cells.lookup x=some c->H c=none
 pin:∀p∈X.pn++aa,s.heap.get? p.1=some p.2/\H p.1=none/\p.1≠X.env.locals/\p.1∉X.fs/\∀v,p.2.data≠.cell v
 hok:kR X.prog X.w H s.heap
 len:U.length=X.N.length
section
variable{X:Cx}{aa:f8}{U:List (Option V)}{H H':Hp}{s:Ai}{h':Cf}
def Cx.Ok.nofr(ok:X.Ok){b:Av}{o:Jy}(e:X.base.get? b=some o):b∉X.fs:=λhb=>by
 have:=(ok.funs.mem hb).1
 rw[e]at this;cases this
def a9.bs(I:a9 X aa U H s):∀b o,X.base.get? b=some o->s.heap.get? b=some o/\H b=none:=λb o e=>
 ⟨I.base.keep b o (I.ok.bs b o e).1 (I.ok.bs b o e).2 (I.ok.nofr e) (I.ok.noex b o e),I.base.free b o (I.ok.bs b o e).1 (I.ok.bs b o e).2 (I.ok.noex b o e)⟩
def a9.bk(I:a9 X aa U H s):∀b o,X.base.get? b=some o->s.heap.get? b=some o:=λb o e=>(I.bs b o e).1
def a9.mod(I:a9 X aa U H s):Mod X.K X.mg X.base:=I.ok.mod
def a9.kIn(I:a9 X aa U H s):X.K.In s.heap:=I.ok.mod.kin.keeps I.bk
def a9.nolimit(I:a9 X aa U H s):s.heap.NoLimit:=I.ok.mod.nolimit.keeps I.bk
def a9.lt(I:a9 X aa U H s):X.env.locals<s.heap.objs.size:=let ⟨_,hn,_⟩:=I.loc;hn.lt
def a9.sz(I:a9 X aa U H s):X.s₀.heap.objs.size<=s.heap.objs.size:=Bn I.ok.above (D7 I.lt)
def a9.nofs(I:a9 X aa U H s){a:Av}(h:s.heap.objs.size<=a):a∉X.fs:=λhb=>by obtain⟨_,o,ho,_⟩:=I.ok.funs.mem hb;exact w9 (B8 (Ao ho) (Bn I.sz h)) (Dc _)
def a9.cne(I:a9 X aa U H s):∀x c,X.env.cells.lookup x=some c->c≠X.env.locals:=λx c e z=>by obtain⟨v,o,ho,hd⟩:=I.cell x c e;obtain⟨m,⟨o',es,ep,bJ,bZ,_⟩,_⟩:=I.loc;rw[z,bJ]at ho;cases ho;rw[bZ]at hd;cases hd
def a9.funs(I:a9 X aa U H s):s.heap.FunFrames X.base X.outer:=by
 have all:∀(l:List Nq),(∀b∈nU l,b∈X.fs)->X.s₀.heap.FunFrames X.base l->s.heap.FunFrames X.base l:=by
  intro l
  induction l with
  |nil=>intro _ _;trivial
  |cons env r ih=>
   intro hs hl;obtain⟨hk,⟨L,o,hf,hn,ho,hd⟩,hr⟩:=hl;have hL:L∈X.fs:=hs L (by unfold nU;rw[Cs,hf];exact A6)
   obtain⟨sl,e⟩:=I.base.slot L o ho (I.ok.frf L hL) hL λz=>I.ok.exfs L z hL;exact⟨hk,⟨L,_,hf,hn,e,hd⟩,ih (λb hb=>hs b (by unfold nU;rw[Cs,hf];exact A7 _ hb)) hr⟩
 exact all X.outer (λ_ hb=>hb) I.ok.funs
def a9.stack(I:a9 X aa U H s):s.heap.FunFrames X.base X.stack:=by
 rcases I.ok.stk with e|⟨e,hf⟩
 .rw[e];exact I.funs
 .rw[e];obtain⟨m,hn,_⟩:=I.loc;refine .cons (by rw[I.ok.kind];decide) hf hn ?_ I.funs
  exact Cf.get?_none_of_le (Bn I.ok.bsz I.ok.above)
def a9.stkSub(I:a9 X aa U H s):∀b∈nU X.stack,b∈X.env.locals::X.fs:=λb hb=>by
 rcases I.ok.stk with e|⟨e,hf⟩
 .rw[e]at hb;exact A7 _ hb
 .rw[e]at hb;unfold nU at hb;rw[Cs,hf]at hb;exact hb
def a9.stkFree(I:a9 X aa U H s):∀b∈nU X.stack,H b=none:=λb hb=>by
 rcases Ad.mp (I.stkSub b hb) with e|hb
 .rw[e];exact I.free
 .obtain⟨_,o,ho,_⟩:=I.ok.funs.mem hb;exact I.base.free b o ho (I.ok.frf b hb) λz=>I.ok.exfs b z hb
def a9.stepN{t':Nat}{d':Drawn}{ch:List Av}(I:a9 X aa U H s)(bV:∀b∈ch,(b∈X.ex\/X.s₀.heap.get? b=none)/\b≠X.env.locals/\(∀x c,X.env.cells.lookup x=some c->c≠b)/\∀p∈X.pn++aa,p.1≠b)(keep:∀b o,b≠X.env.locals->b∉X.fs->b∉ch->s.heap.get? b=some o->H b=none->h'.get? b=some o)(slot:∀b o,b≠X.env.locals->b∈X.fs->b∉ch->s.heap.get? b=some o->H b=none->∃sl,h'.get? b=some { o with slots:=sl })(free:∀b o,b∉ch->s.heap.get? b=some o->H b=none->H' b=none)(there:∀b o,b∉ch->s.heap.get? b=some o->∃o',h'.get? b=some o')(tups:∀b xs,H b=some (.tup xs)->H' b=some (.tup xs))(frzs:∀b o u,H b=some (.frz o u)->H' b=some (.frz o u))(tbls:∀b ps,H b=some (.tbl ps)->∃more,H' b=some (.tbl (ps++more)))(ns:∀m,s.heap.Ns X.env.locals m->h'.Ns X.env.locals m)(hok:kR X.prog X.w H' h')(hg:Kf g'):
  a9 X aa U H' { s with heap:=h',gens:=g',drawn:=d',toks:=t' }:=by
 have neL:∀b o,X.s₀.heap.get? b=some o->b≠X.env.locals:=λb o e=>Aq (B8 (Ao e) I.ok.above)
 have eI:∀b o,X.s₀.heap.get? b=some o->b∉X.ex->b∉ch:=λb o e hx hb=>by
  rcases (bV b hb).1 with z|z
  .exact hx z
  .rw[z]at e;cases e
 have fM:∀x c,X.env.cells.lookup x=some c->∀v,s.heap.IsCell c v->h'.IsCell c v:=λx c e v h_=>by
  obtain⟨o,ho,hd⟩:=h_;have fF:c∉ch:=λz=>(bV c z).2.2.1 x c e rfl;by_cases hc:c∈X.fs
  .obtain⟨sl,q⟩:=slot c o (I.cne x c e) hc fF ho (I.freeC x c e);exact⟨_,q,hd⟩
  .exact⟨o,keep c o (I.cne x c e) hc fF ho (I.freeC x c e),hd⟩
 refine⟨I.ok,I.os,hg,⟨λb o e n hb hx=>?_,λb o e n hb hx=>?_,λb o e n hx=>?_,λb o e hx=>?_,λb xs e=>tups b xs (I.base.tups b xs e),λb o xs e=>frzs b o xs (I.base.frzs b o xs e),λb ps e=>?_⟩,?_,λx c e=>?_,?_,λx c e=>?_,λp hp=>?_,hok,I.len⟩
 .exact keep b o (neL b o e) hb (eI b o e hx) (I.base.keep b o e n hb hx) (I.base.free b o e n hx)
 .obtain⟨sl,e1⟩:=I.base.slot b o e n hb hx;obtain⟨sl',e2⟩:=slot b _ (neL b o e) hb (eI b o e hx) e1 (I.base.free b o e n hx);exact⟨sl',e2⟩
 .obtain⟨o',e1⟩:=I.base.there b o e hx;exact free b o' (eI b o e hx) e1 (I.base.free b o e n hx)
 .obtain⟨o',e1⟩:=I.base.there b o e hx;exact there b o' (eI b o e hx) e1
 .obtain⟨m1,e1⟩:=I.base.tbls b ps e;obtain⟨m2,e2⟩:=tbls b _ e1;exact⟨m1++m2,by rw[e2,Array.append_assoc]⟩
 .obtain⟨m,hn,hl⟩:=I.loc;refine⟨m,ns m hn,λi x v e1 e2 e3=>?_⟩;obtain⟨u,r,l⟩:=hl i x v e1 e2 e3;refine⟨u,r,?_⟩;rcases l with l|⟨k,c,e,z⟩
  .exact .inl l
  .exact .inr ⟨k,c,e,fM x c e _ z⟩
 .obtain⟨v,z⟩:=I.cell x c e;exact⟨v,fM x c e v z⟩
 .obtain⟨m,⟨o,_,_,ho,_⟩,_⟩:=I.loc;exact free _ o (λz=>(bV _ z).2.1 rfl) ho I.free
 .obtain⟨v,o,ho,hd⟩:=I.cell x c e;exact free c o (λz=>(bV c z).2.2.1 x c e rfl) ho (I.freeC x c e)
 .obtain⟨e,n,ne,nf,d⟩:=I.pin p hp;have fF:p.1∉ch:=λz=>(bV p.1 z).2.2.2 p hp rfl;exact⟨keep p.1 p.2 ne nf fF e n,free p.1 p.2 fF e n,ne,nf,d⟩
def a9.step{t':Nat}{d':Drawn}{ch:List Av}(I:a9 X aa U H s)(bV:∀b∈ch,(b∈X.ex\/X.s₀.heap.objs.size<=b)/\b≠X.env.locals/\(∀x c,X.env.cells.lookup x=some c->c≠b)/\∀p∈X.pn++aa,p.1≠b)(keep:∀b o,b≠X.env.locals->b∉X.fs->b∉ch->s.heap.get? b=some o->H b=none->h'.get? b=some o)(slot:∀b o,b≠X.env.locals->b∈X.fs->b∉ch->s.heap.get? b=some o->H b=none->∃sl,h'.get? b=some { o with slots:=sl })(free:∀b o,b∉ch->s.heap.get? b=some o->H b=none->H' b=none)(there:∀b o,b∉ch->s.heap.get? b=some o->∃o',h'.get? b=some o')(tups:∀b xs,H b=some (.tup xs)->H' b=some (.tup xs))(frzs:∀b o u,H b=some (.frz o u)->H' b=some (.frz o u))(tbls:∀b ps,H b=some (.tbl ps)->∃more,H' b=some (.tbl (ps++more)))(ns:∀m,s.heap.Ns X.env.locals m->h'.Ns X.env.locals m)(hok:kR X.prog X.w H' h')(hg:Kf g'):
  a9 X aa U H' { s with heap:=h',gens:=g',drawn:=d',toks:=t' }:=
 I.stepN (λb hb=>⟨(bV b hb).1.imp id λz=>Cf.get?_none_of_le z,(bV b hb).2⟩) keep slot free there tups frzs tbls ns hok hg
def a9.un{t':Nat}(I:a9 X aa U H s)(u:Un X.fs [] H H' s.heap h')(hok:kR X.prog X.w H' h'):a9 X aa U H' { s with heap:=h',toks:=t' }:=by
 obtain⟨m,⟨o,es,ep,ho,r⟩,_⟩:=id I.loc;obtain⟨sl,hL⟩:=u.any ho I.free (by simp)
 exact I.step (g':=s.gens) (d':=s.drawn) (ch:=[]) (λ_ z=>nomatch z) (λb o _ hb _ e n=>u.keep b o e n hb (by simp)) (λb o _ hb _ e n=>u.slot b o e n hb (by simp)) (λb o _ e n=>u.free b o e n (by simp)) (λb o _ e=>u.there b o e (by simp)) u.tups u.frzs u.tbls (λm' hm=>by
  obtain⟨o',cI,dM,bJ,r'⟩:=hm;rw[ho]at bJ;cases bJ
  exact⟨_,cI,dM,hL,r'⟩) hok I.bare
def a9.call{t':Nat}{d':Drawn}(I:a9 X aa U H s)(u:Un (nU X.stack) ch H H' s.heap h')(hok:kR X.prog X.w H' h')(hg:Kf g')(bV:∀b∈ch,(b∈X.ex\/X.s₀.heap.objs.size<=b)/\b≠X.env.locals/\(∀x c,X.env.cells.lookup x=some c->c≠b)/\∀p∈X.pn++aa,p.1≠b):
  a9 X aa U H' { s with heap:=h',gens:=g',drawn:=d',toks:=t' }:=by
 obtain⟨m,⟨o,es,ep,ho,r⟩,_⟩:=id I.loc;obtain⟨sl,hL⟩:=u.any ho I.free λz=>(bV _ z).2.1 rfl
 exact I.step (ch:=ch) bV (λb o hL hb hc e n=>u.keep b o e n (λz=>(Ad.mp (I.stkSub b z)).elim hL hb) hc) (λb o _ _ hc e n=>u.any e n hc) (λb o hc e n=>u.free b o e n hc) (λb o hc e=>u.there b o e hc) u.tups u.frzs u.tbls (λm' hm=>by
  obtain⟨o',cI,dM,bJ,r'⟩:=hm;rw[ho]at bJ;cases bJ
  exact⟨_,cI,dM,hL,r'⟩) hok hg
def a9.turned{t':Nat}{it:Av}(I:a9 X aa U H s)(k:∀b o,b≠it->s.heap.get? b=some o->h'.get? b=some o)(hn:H it=none)(hL:it≠X.env.locals)(h1:it∈X.ex\/X.s₀.heap.objs.size<=it)(h2:∀x c,X.env.cells.lookup x=some c->c≠it)(h3:∀p∈X.pn++aa,p.1≠it):a9 X aa U H { s with heap:=h',toks:=t' }:=by
 have nit:∀b u,H b=some u->b≠it:=λb u e z=>by rw[z,hn]at e;cases e
 refine I.step (g':=s.gens) (d':=s.drawn) (ch:=[it]) (λb hb=>?_) (λb o _ _ hc e _=>k b o (λz=>hc (by simp[z])) e) (λb o _ _ hc e _=>⟨o.slots,k b o (λz=>hc (by simp[z])) e⟩) (λ_ _ _ _ n=>n)
  (λb o hc e=>⟨o,k b o (λz=>hc (by simp[z])) e⟩) (λ_ _ e=>e) (λ_ _ _ e=>e) (λb ps e=>⟨#[],by rw[e];simp⟩) (λm hm=>?_) (λb u e=>?_) I.bare
 .have e:b=it:=by simpa using hb
  subst e;exact⟨h1,hL,h2,h3⟩
 .obtain⟨o,es,ep,ho,r⟩:=hm;exact⟨o,es,ep,k _ o (Ch hL) ho,r⟩
 .refine(I.hok b u e).stay (λc v hc q=>k c v ?_ q) (λ_ q=>q) (λ_ _ q=>q) λ_ _ _ q=>q;rcases hc with z|z
  .rw[z];exact nit b u e
  .exact nit c _ z
def a9.tok(I:a9 X aa U H s)(t:Nat):a9 X aa U H { s with toks:=t }:=I.un (h':=s.heap) (t':=t) Un.refl I.hok
def a9.kept{t':Nat}(I:a9 X aa U H s)(k:∀b u,s.heap.get? b=some u->h'.get? b=some u):a9 X aa U H { s with heap:=h',toks:=t' }:=I.un (Un.kept k) (I.hok.kept k)
def a9.laid{a:Av}{t':Nat}(I:a9 X aa U H s)(k:∀b u,s.heap.get? b=some u->h'.get? b=some u)(hp:s.heap.objs.size<=a)(new:kU X.prog X.w (upd H a o) h' a o):
  a9 X aa U (upd H a o) { s with heap:=h',toks:=t' }:=I.un (Un.laid k hp (I.hok.fresh hp)) (I.hok.laid k hp new)
def a9.write{x e:Av}{t':Nat}(I:a9 X aa U H s)(mu:AY (H x))(he:e=x\/H e=some (.own x))(k:∀b u,b≠e->s.heap.get? b=some u->h'.get? b=some u)(gR:∃u,h'.get? e=some u)(new:kU X.prog X.w (upd H x o) h' x o):a9 X aa U (upd H x o) { s with heap:=h',toks:=t' }:=I.un (Un.write mu he k gR) (I.hok.write mu he k gR new)
def a9.pins_of{fK:f8}(I:a9 X aa U H s)(h:∀p∈fK,s.heap.get? p.1=some p.2/\H p.1=none/\p.1≠X.env.locals/\p.1∉X.fs/\∀v,p.2.data≠.cell v):a9 X fK U H s:=
 ⟨I.ok,I.os,I.bare,I.base,I.loc,I.cell,I.free,I.freeC,λp hp=>(Aw.mp hp).elim (λz=>I.pin p (B7 _ z)) (h p),I.hok,I.len⟩
def Sb{N:List Bf}(hN:N.Nodup){i j:Nat}{x:Bf}(a:N[i]?=some x)(b:N[j]?=some x):i=j:=by obtain⟨h1,e1⟩:=B2.mp a;obtain⟨h2,e2⟩:=B2.mp b;exact(List.getElem_inj hN).mp (e1.trans e2.symm)
def Py{i:Nat}{x:Bf}{Q:Unit->Ai->Prop}(I:a9 X aa U H s)(hN:X.N.Nodup)(hi:X.N[i]?=some x)(hx:mT X.env.scope x)(r:e9 v u)(h:∀s',a9 X aa (U.set i (some v)) H s'->(∃a,Dh a s.heap s'.heap/\(a=X.env.locals\/X.env.cells.lookup x=some a))->Q () s')(hf:X.fn x=true\/X.env.scope.names.lookup x=some .local:=by first|exact .inl rfl|exact .inr rfl|assumption):Ap M A (storeName X.env x u) Q E s:=by
 obtain⟨m,hn,hl⟩:=id I.loc
 have hcls:(X.env.scope.kind==.class||(X.env.scope.kind==.module&&X.env.locals != X.env.globals))=false:=by rw[I.ok.kind];rfl
 have hiσ:i<U.length:=by rw[I.len];exact(B2.mp hi).1
 have cne:=I.cne
 have cP:∀{a:Av} {h':Cf},(∃o,s.heap.get? a=some o/\H a=none)->Dh a s.heap h'->kR X.prog X.w H h':=λ{a h'} ha hs b ob e=>by
  obtain⟨_,_,bD⟩:=ha;refine(I.hok b ob e).stay (λc w' hc q=>(hs.2 c ?_).trans q) (λ_ q=>q) (λ_ _ q=>q) λ_ _ _ q=>q;rintro rfl;rcases hc with rfl|hc
  .rw[bD]at e;cases e
  .rw[bD]at hc;cases hc
 rcases hx with hk|hk
 .refine wpAny_storeName_local hk hn (λh' bo hs=>?_) hcls;obtain⟨oL,_,_,hoL,_⟩:=id hn;refine h _ ⟨I.ok,I.os,I.bare,⟨λb o e n hb hx=>?_,λb o e n hb hx=>?_,I.base.free,λb o e hx=>?_,I.base.tups,I.base.frzs,I.base.tbls⟩,⟨_,bo,λj y v' e1 e2 e3=>?_⟩,λy c e=>?_,I.free,I.freeC,λp hp=>?_,cP ⟨oL,hoL,I.free⟩ hs,by simpa using I.len⟩ ⟨_,hs,.inl rfl⟩
  .exact(hs.2 b (Aq (B8 (Ao e) I.ok.above))).trans (I.base.keep b o e n hb hx)
  .obtain⟨sl,e1⟩:=I.base.slot b o e n hb hx;exact⟨sl,(hs.2 b (Aq (B8 (Ao e) I.ok.above))).trans e1⟩
  .obtain⟨o',e1⟩:=I.base.there b o e hx;exact⟨o',(hs.2 b (Aq (B8 (Ao e) I.ok.above))).trans e1⟩
  .by_cases hj:j=i
   .subst hj;rw[hi]at e1;cases e1;rw[Ck hiσ]at e2;cases e2;exact⟨u,r,.inl ⟨hk,by simp⟩⟩
   .rw[Bc (Ch hj)]at e2;obtain⟨u',r',q⟩:=hl j y v' e1 e2 e3;refine⟨u',r',?_⟩;rcases q with⟨k,e⟩|⟨k,c,e,z⟩
    .refine .inl ⟨k,?_⟩
     have:y≠x:=λe=>hj (Sb hN e1 (e▸hi))
     simp[this,e]
    .exact .inr ⟨k,c,e,z.sameBut hs (cne y c e)⟩
  .obtain⟨w',z⟩:=I.cell y c e;exact⟨w',z.sameBut hs (cne y c e)⟩
  .obtain⟨e,n,ne,nf,d⟩:=I.pin p hp;exact⟨(hs.2 p.1 ne).trans e,n,ne,nf,d⟩
 .have hfn:X.fn x=true:=by
   rcases hf with z|z
   .exact z
   .rw[z]at hk;cases hk
  obtain⟨c,hc⟩:=I.ok.has x (.inl hk);obtain⟨w',z⟩:=I.cell x c hc;refine wpAny_storeName_cell I.ok.kind hk hc z (λh' bS hs=>?_);obtain⟨oc,fS,hocd⟩:=id z;refine h { s with heap:=h' } ⟨I.ok,I.os,I.bare,⟨λb o e n hb hx=>?_,λb o e n hb hx=>?_,I.base.free,λb o e hx=>?_,I.base.tups,I.base.frzs,I.base.tbls⟩,⟨m,hn.sameBut hs (Ch (cne x c hc)),λj y v' e1 e2 e3=>?_⟩,λy c' e=>?_,I.free,I.freeC,λp hp=>?_,cP ⟨oc,fS,I.freeC x c hc⟩ hs,by simpa using I.len⟩ ⟨c,hs,.inr hc⟩
  .exact(hs.2 b (Aq (B8 (Ao e) (I.ok.cab x c hfn hc)))).trans (I.base.keep b o e n hb hx)
  .obtain⟨sl,e1⟩:=I.base.slot b o e n hb hx;exact⟨sl,(hs.2 b (Aq (B8 (Ao e) (I.ok.cab x c hfn hc)))).trans e1⟩
  .obtain⟨o',e1⟩:=I.base.there b o e hx;exact⟨o',(hs.2 b (Aq (B8 (Ao e) (I.ok.cab x c hfn hc)))).trans e1⟩
  .by_cases hj:j=i
   .subst hj;rw[hi]at e1;cases e1;rw[Ck hiσ]at e2;cases e2;exact⟨u,r,.inr ⟨.inl hk,c,hc,bS⟩⟩
   .rw[Bc (Ch hj)]at e2;obtain⟨u',r',q⟩:=hl j y v' e1 e2 e3;refine⟨u',r',?_⟩;rcases q with q|⟨k,c',e,z'⟩
    .exact .inl q
    .refine .inr ⟨k,c',e,z'.sameBut hs ?_⟩;rintro rfl;exact hj (Sb hN e1 (I.ok.inj _ _ _ e hc▸hi))
  .by_cases hcc:c'=c
   .subst hcc;exact⟨_,bS⟩
   .obtain⟨w2,z2⟩:=I.cell y c' e;exact⟨w2,z2.sameBut hs hcc⟩
  .obtain⟨e,n,ne,nf,d⟩:=I.pin p hp;refine⟨(hs.2 p.1 ?_).trans e,n,ne,nf,d⟩;intro q;rw[q,fS]at e;have q':oc=p.2:=Ba e;exact d w' (by rw[<-q'];exact hocd)
def JV{i:Nat}{x:Bf}{Q:Unit->Ai->Prop}(I:a9 X aa U H s)(hN:X.N.Nodup)(hi:X.N[i]?=some x)(hx:mT X.env.scope x)(r:e9 v u)(h:∀s',a9 X aa (U.set i (some v)) H s'->Q () s')(hf:X.fn x=true\/X.env.scope.names.lookup x=some .local:=by first|exact .inl rfl|exact .inr rfl|assumption):Ap M A (storeName X.env x u) Q E s:=Py I hN hi hx r (λs' I' _=>h s' I') hf
def a9.call'{s':Ai}(I:a9 X aa U H s)(ho:s'.os=s.os)(u:Un (nU X.stack) ch H H' s.heap s'.heap)(hok:kR X.prog X.w H' s'.heap)(hg:Kf s'.gens)(bV:∀b∈ch,(b∈X.ex\/X.s₀.heap.objs.size<=b)/\b≠X.env.locals/\(∀x c,X.env.cells.lookup x=some c->c≠b)/\∀p∈X.pn++aa,p.1≠b):a9 X aa U H' s':=by obtain⟨h',g',d',t',o'⟩:=s';have e:o'=s.os:=ho;subst e;exact I.call (g':=g') (t':=t') (d':=d') u hok hg bV
end
abbrev XK:=Aa->Option Av->Hp->Prop
abbrev St:=List (Option V)
abbrev VK:=V->Hp->Prop
abbrev TE:=St->Hp->VK->Prop
abbrev TT:=St->Hp->(Bool->Hp->Prop)->Prop
abbrev TA:=St->Hp->(List V->Hp->Prop)->Prop
structure qA where
 nx:St->Hp->Prop
 rt:VK
 bk:St->Hp->Prop:=λ_ _=>False
 ct:St->Hp->Prop:=λ_ _=>False
abbrev TS:=qA->St->Hp->Prop
def EP(X:Cx)(aa:f8)(U:St)(Q:VK)(u:Aa)(s':Ai):Prop:=∃v H',a9 X aa U H' s'/\e9 v u/\Q v H'
def TP(X:Cx)(aa:f8)(U:St)(Q:Bool->Hp->Prop)(b:Bool)(s':Ai):Prop:=∃H',a9 X aa U H' s'/\Q b H'
def AP(X:Cx)(aa:f8)(U:St)(Q:List V->Hp->Prop)(us:List Aa)(s':Ai):Prop:=∃vs H',a9 X aa U H' s'/\Y7 vs us/\Q vs H'
def SP(X:Cx)(aa:f8)(D:qA)(f:Flow)(s':Ai):Prop:=
 match f with
 | .next=>∃U' H',a9 X aa U' H' s'/\D.nx U' H'
 | .brk=>∃U' H',a9 X aa U' H' s'/\D.bk U' H'
 | .cont=>∃U' H',a9 X aa U' H' s'/\D.ct U' H'
 | .ret u=>∃v U' H',a9 X aa U' H' s'/\e9 v u/\D.rt v H'
def PE(X:Cx)(e:Expr)(t:TE):Prop:=∀(aa:f8) (s:Ai) (U:St) (H:Hp) (Q:VK),a9 X aa U H s->t U H Q->Ap (B0 X.prog X.w) X.A (Ce e X.env) (EP X aa U Q) X.xe s
def PT(X:Cx)(e:Expr)(t:TT):Prop:=∀(aa:f8) (s:Ai) (U:St) (H:Hp) (Q:Bool->Hp->Prop),a9 X aa U H s->t U H Q->Ap (B0 X.prog X.w) X.A (isTrue e X.env (Ce e X.env)) (TP X aa U Q) X.xe s
def PW(X:Cx)(e:Expr)(t:TT):Prop:=∀(whole:Sem Aa) (aa:f8) (s:Ai) (U:St) (H:Hp) (Q:Bool->Hp->Prop),a9 X aa U H s->t U H Q->Ap (B0 X.prog X.w) X.A (isTrue e X.env whole) (TP X aa U Q) X.xe s
def PW.pt(h:PW X e t):PT X e t:=h _
def PA(X:Cx)(es:List Expr)(t:TA):Prop:=∀(pos:Hq) (aa:f8) (s:Ai) (U:St) (H:Hp) (Q:List V->Hp->Prop),a9 X aa U H s->t U H Q->Ap (B0 X.prog X.w) X.A (spliced (C8 pos (Ab es X.env))) (AP X aa U Q) X.xe s
def PS(X:Cx)(st:Do)(t:TS):Prop:=∀(aa:f8) (s:Ai) (U:St) (H:Hp) (D:qA),a9 X aa U H s->t D U H->Ap (B0 X.prog X.w) X.A (exec st X.env) (SP X aa D) X.xe s
def m7(X:Cx)(st:List Do)(t:TS):Prop:=∀(aa:f8) (s:Ai) (U:St) (H:Hp) (D:qA),a9 X aa U H s->t D U H->Ap (B0 X.prog X.w) X.A (execs st X.env) (SP X aa D) X.xe s
def kQ{α:Type}{t:Sem α}{Q Q':α->Ai->Prop}{M:Model}{A:C1}{E:VP}{s:Ai}(h:Ap M A t Q E s)(hQ:∀a s,Q a s->Q' a s):Ap M A t Q' E s:=Cn h hQ λ_ _ x=>x
def jE{α β γ:Type}{t:Sem α}{I:γ->Ai->Prop}{R:β->α->Prop}{Q:β->γ->Prop}{Q':α->Ai->Prop}{M:Model}{A:C1}{E:VP}{s:Ai}(h:Ap M A t (λu s'=>∃v H',I H' s'/\R v u/\Q v H') E s)(k:∀a s v H',I H' s->R v a->Q v H'->Q' a s):Ap M A t Q' E s:=Cn h (λa s h=>by
 obtain⟨v,H',x,y,z⟩:=h
 exact k a s v H' x y z) λ_ _ x=>x
section
variable{X:Cx}
def FH(i:Nat):TE:=λU H Q=>∃v,U[i]?=some (some v)/\Q v H
def tC(v:V):TE:=λ_ H Q=>Q v H
def nN{i:Nat}{x:Bf}(hN:X.N[i]?=some x)(hv:mS X.env.scope x)(hd:(x==("__debug__":Bf))=false:=by decide)(aT:(x==("__classdict__":Bf))=false:=by decide):PE X (.Name x pos) (FH i):=by
 intro aa s U H Q I h;obtain⟨v,e,h⟩:=h;obtain⟨m,hn,hl⟩:=I.loc;obtain⟨u,r,l⟩:=hl i x v hN e hv;have fin:EP X aa U Q u s:=⟨v,H,I,r,h⟩;rcases l with⟨hk,hm⟩|⟨hk,c,hc,au⟩
 .exact Nw (wpAny_loadName_local I.ok.kind hk hn hm fin) hd
 .rcases hk with hk|hk
  .exact Nw (wpAny_loadName_cell I.ok.kind hk hc au fin) hd
  .exact Nw (wpAny_loadName_free I.ok.kind hk hc au fin aT) hd
def Ŕ{i j pos}:PE X (.Constant (.int i) j pos) (tC (.int i)):=λ_ _ _ H _ I h=>wpAny_Constant_int ⟨.int i,H,I.tok _,⟨_,rfl⟩,h⟩
def v09{b j pos}:PE X (.Constant (.bool b) j pos) (tC (.bl b)):=λ_ _ _ H _ I h=>Constant_bool ⟨.bl b,H,I,rfl,h⟩
def ŕ{j pos}:PE X (.Constant .none j pos) (tC .non):=λ_ _ _ H _ I h=>Constant_none ⟨.non,H,I,rfl,h⟩
def Ř{x j pos}:PE X (.Constant (.str x) j pos) (tC (.str x)):=λ_ _ _ H _ I h=>Calls.Constant_str ⟨.str x,H,I.tok _,⟨_,rfl⟩,h⟩
def Gl(X:Cx)(x:Bf):Prop:=X.env.kindOf x=some .globalImplicit
def QU{u:Aa}{Q:VP}(I:a9 X aa U H s)(hg:Gl X x)(hm:X.mg x=some u)(h:Q u s)(hd:(x==("__debug__":Bf))=false:=by decide):Ap (B0 X.prog X.w) X.A (Ce (.Name x pos) X.env) Q E s:=Calls.Name_function_global I.ok.kind hg (Calls.loadGlobal_global (by rw[I.ok.glob];exact I.mod.glob.keeps I.bk) hm h) hd
def oE{u:Aa}{Q:VP}(I:a9 X aa U H s)(hg:Gl X x)(hm:X.mg x=none)(hv:B5 x=some u)(h:Q u s)(hn:x≠"__name__":=by decide)(hd:(x==("__debug__":Bf))=false:=by decide):Ap (B0 X.prog X.w) X.A (Ce (.Name x pos) X.env) Q E s:=by obtain⟨mb,h1,h2⟩:=I.mod.blt;exact Calls.Name_function_global I.ok.kind hg (Calls.loadGlobal_builtin (by rw[I.ok.glob];exact I.mod.glob.keeps I.bk) hm (by rw[I.ok.blt];exact h1.keeps I.bk) ((h2 x hn).trans hv) h) hd
def Ý{u:Aa}(hg:Gl X x)(hm:X.mg x=some u)(r:e9 v u)(hd:(x==("__debug__":Bf))=false:=by decide):PE X (.Name x pos) (tC v):=λ_ _ _ H _ I h=>QU I hg hm ⟨v,H,I,r,h⟩ hd
def Ú{u:Aa}(hg:Gl X x)(hm:X.mg x=none)(hv:B5 x=some u)(r:e9 v u)(hn:x≠"__name__":=by decide)(hd:(x==("__debug__":Bf))=false:=by decide):PE X (.Name x pos) (tC v):=λ_ _ _ H _ I h=>oE I hg hm hv ⟨v,H,I,r,h⟩ hn hd
variable{a b:Expr}{ta tb:TE}{pos:Hq}
def PC(X:Cx)(op:Nx)(a b:Expr)(t:TE):Prop:=
 ∀(aa:f8) (s:Ai) (U:St) (H:Hp) (Q:VK),a9 X aa U H s->t U H Q ->
  Ap (B0 X.prog X.w) X.A (Ce a X.env) (λv s₁=>Ap (B0 X.prog X.w) X.A (Ce b X.env) (λu s₂=>Ap (B0 X.prog X.w) X.A (Da op v u) (EP X aa U Q) X.xe s₂) X.xe s₁) X.xe s
def tB(t:TE):TT:=λU H Q=>t U H λx H1=>∃c,x = .bl c/\Q c H1
def LL(h:PC X op a b t)(h1:Dd op b=false:=by first|exact nobehind _ (by decide) (by decide)|rfl):PT X (.Compare a [op] [b] pos) (tB t):=by intro aa s U H Q I hw;refine wpAny_isTrue_Compare1 (kQ (h aa s U H _ I hw) λv s1 h1=>kQ h1 λu s2 h2=>kQ h2 λc s3 ⟨x,H1,I1,r1,q1⟩=>?_) h1;obtain⟨d,rfl,q⟩:=q1;cases r1;exact De ⟨H1,I1,q⟩
def Š(h:PE X e t)(he:∀whole,isTrue e X.env whole=(do let v <-whole;L0 e.pos;Hd [v] (Ny v)):=by intro _;rfl):PT X e (tB t):=by intro aa s U H Q I hw;refine isTrue_plain (jE (h aa s U H _ I hw) λv s1 x H1 I1 r1 q1=>?_) (he _);obtain⟨d,rfl,q⟩:=q1;cases r1;exact De ⟨H1,I1,q⟩
variable{tA tB':TT}{rest:List Expr}
def Η(t u:TT):TT:=λU H Q=>t U H λc H1=>if c=true then u U H1 Q else Q false H1
def tOr(t u:TT):TT:=λU H Q=>t U H λc H1=>if c=true then Q true H1 else u U H1 Q
def Λ(t:TT):TT:=λU H Q=>t U H λc H1=>Q (!c) H1
theorem ã(ha:PT X a tA):PW X (.BoolOp .And [a] pos) tA:=by
 intro wh aa s U H Q I h;refine isTrue_and (kQ (ha aa s U H Q I h) λc s1 e=>?_)
 cases c with
 |true=>exact isTrue_and_nil e
 |false=>exact e
theorem Ť(ha:PT X a tA):PW X (.BoolOp .Or [a] pos) tA:=by
 intro wh aa s U H Q I h;refine isTrue_or (kQ (ha aa s U H Q I h) λc s1 e=>?_)
 cases c with
 |false=>exact isTrue_or_nil e
 |true=>exact e
theorem ţ(ha:PT X a tA)(hb:PW X (.BoolOp .And (b::rest) pos) tB'):PW X (.BoolOp .And (a::b::rest) pos) (Η tA tB'):=by
 intro wh aa s U H Q I h;refine isTrue_and (kQ (ha aa s U H _ I h) λc s1 ⟨H1,I1,q1⟩=>?_)
 cases c with
 |true=>exact hb wh aa s1 U H1 Q I1 q1
 |false=>exact⟨H1,I1,q1⟩
theorem v05(ha:PT X a tA)(hb:PW X (.BoolOp .Or (b::rest) pos) tB'):PW X (.BoolOp .Or (a::b::rest) pos) (tOr tA tB'):=by
 intro wh aa s U H Q I h;refine isTrue_or (kQ (ha aa s U H _ I h) λc s1 ⟨H1,I1,q1⟩=>?_)
 cases c with
 |true=>exact⟨H1,I1,q1⟩
 |false=>exact hb wh aa s1 U H1 Q I1 q1
def ş(ha:PT X a tA):PT X (.UnaryOp .Not a pos) (Λ tA):=by intro aa s U H Q I h;exact isTrue_not (ha aa s U H (λc H1=>Q (!c) H1) I h)
def ģ(ta tb:TE):TE:=λU H Q=>ta U H λx H1=>∃c,x = .bl c/\if c=true then tb U H1 Q else Q (.bl false) H1
def Ĩ(ta:TE):TE:=λU H Q=>ta U H λx H1=>∃c,x = .bl c/\Q (.bl (!c)) H1
def ŗ{op}(h:PE X a t):PE X (.BoolOp op [a] pos) t:=λaa s U H Q I hw=>BoolOp_one (h aa s U H Q I hw)
theorem Œ(ha:PE X a ta)(hb:PE X (.BoolOp .And (b::rest) pos) tb):PE X (.BoolOp .And (a::b::rest) pos) (ģ ta tb):=by
 intro aa s U H Q I h;refine BoolOp_and (jE (ha aa s U H _ I h) λv s1 x H1 I1 r1 q1=>?_);obtain⟨c,rfl,q1⟩:=q1;cases r1;refine De ?_
 cases c with
 |true=>exact hb aa s1 U H1 Q I1 q1
 |false=>exact⟨.bl false,H1,I1,rfl,q1⟩
def Ŗ(ha:PE X a ta):PE X (.UnaryOp .Not a pos) (Ĩ ta):=by intro aa s U H Q I h;refine UnaryOp_ (jE (ha aa s U H _ I h) λv s1 x H1 I1 r1 q1=>?_);obtain⟨c,rfl,q1⟩:=q1;cases r1;exact not_of (De ⟨.bl (!c),H1,I1,rfl,q1⟩)
def tIf(t:TT)(ta tb:TE):TE:=λU H Q=>t U H λc H1=>if c=true then ta U H1 Q else tb U H1 Q
theorem Xf(hc:PT X c tA)(ha:PE X a ta)(hb:PE X b tb):PE X (.IfExp c a b pos) (tIf tA ta tb):=by
 intro aa s U H Q I h;refine wpAny_IfExp (kQ (hc aa s U H _ I h) λd s1 ⟨H1,I1,q1⟩=>?_)
 cases d with
 |true=>exact ha aa s1 U H1 Q I1 q1
 |false=>exact hb aa s1 U H1 Q I1 q1
end
def i5(K:A5)(H:Hp)(a:Av)(xs:List V):Prop:=
 Rd H a (.lst xs) \/
  ∃(o:Jy) (its:Array Aa) (n:Nat),K.lookup a=some o/\o.cls = .type "list"/\o.dict=none/\o.data = .seq its n/\its.size<=sizeLine/\Y7 xs its.toList
def i8(K:A5)(H:Hp)(a:Av)(xs:List V):Prop:=
 Rd H a (.tup xs) \/
  ∃(o:Jy) (its:Array Aa) (n:Nat),K.lookup a=some o/\o.cls = .type "tuple"/\o.data = .seq its n/\its.size<=sizeLine/\Y7 xs its.toList/\o.dict=none
def ϵ:Aa->Option V
 | .none=>some .non
 | .bool b=>some (.bl b)
 | .int i _=>some (.int i)
 | .str x _=>some (.str x)
 | .bytes b _=>some (.byt b)
 | .float b _=>some (.flt b)
 | .ref a=>some (.ref a)
 | .type n=>some (.ty n)
 |_=>none
theorem e9.abs(r:e9 x u):ϵ u=some x:=by
 cases x with
 |non=>cases r;rfl
 |bl _=>cases r;rfl
 |int _=>obtain⟨t,rfl⟩:=r;rfl
 |str _=>obtain⟨t,rfl⟩:=r;rfl
 |byt _=>obtain⟨t,rfl⟩:=r;rfl
 |flt _=>obtain⟨t,rfl⟩:=r;rfl
 |ref _=>cases r;rfl
 |ty _=>cases r;rfl
def e9.inj(r:e9 x u)(q:e9 y u):x=y:=Ba (r.abs.symm.trans q.abs)
theorem Y7.inj:∀{xs ys:List V} {us:List Aa},Y7 xs us->Y7 ys us->xs=ys
 |_,_,_,.nil,.nil=>rfl
 |_,_,_,.cons r t,.cons r' t'=>by rw[r.inj r',Y7.inj t t']
section
variable{X:Cx}{aa:f8}{U:St}{H:Hp}{s:Ai}{a:Av}{xs ys:List V}
def i5.of{K:A5}(h:H a=some (.lst xs)):i5 K H a xs:=.inl (.inl h)
def i8.of{K:A5}(h:H a=some (.tup xs)):i8 K H a xs:=.inl (.inl h)
def a9.list(I:a9 X aa U H s)(h:i5 X.K H a xs):∃its:List Aa,Y7 xs its/\PlainL s.heap a its.toArray/\xs.length<=sizeLine:=by
 rcases h with h|⟨o,its,n,hk,hc,hd,hs,hz,r⟩
 .obtain⟨z,its,n,r,e⟩:=h.ok I.hok;exact⟨its,r,⟨_,n,e,rfl,rfl,rfl⟩,z⟩
 .refine⟨its.toList,r,⟨o,n,I.kIn a o hk,hc,hd,by simpa using hs⟩,?_⟩;have e:=r.length;simp only[Au]at e;omega
def a9.tuple(I:a9 X aa U H s)(h:i8 X.K H a xs):∃its:List Aa,Y7 xs its/\Na s.heap a its.toArray/\xs.length<=sizeLine:=by
 rcases h with h|⟨o,its,n,hk,hc,hs,hz,r,_⟩
 .obtain⟨z,its,r,p⟩:=h.ok I.hok;exact⟨its,r,p.isTup,z⟩
 .refine⟨its.toList,r,⟨o,I.kIn a o hk,hc,n,by simpa using hs⟩,?_⟩;have e:=r.length;simp only[Au]at e;omega
def a9.tupleP(I:a9 X aa U H s)(h:i8 X.K H a xs):∃o,s.heap.get? a=some o/\o.cls = .type "tuple"/\o.dict=none:=by
 rcases h with h|⟨o,its,n,hk,hc,hs,hz,r,d⟩
 .obtain⟨z,its,r,o,e,c,_,d⟩:=h.ok I.hok;exact⟨o,e,c,d⟩
 .exact⟨o,I.kIn a o hk,hc,d⟩
def a9.list_inj(I:a9 X aa U H s)(h:i5 X.K H a xs)(h':i5 X.K H a ys):xs=ys:=by
 obtain⟨its,r,⟨o,n,e,_,_,d⟩,_⟩:=I.list h;obtain⟨its',r',⟨o',n',e',_,_,d'⟩,_⟩:=I.list h';rw[e]at e';cases e';rw[d]at d';injection d' with d1 _
 have:its=its':=by simpa using lD Array.toList d1
 subst this;exact r.inj r'
def a9.tuple_inj(I:a9 X aa U H s)(h:i8 X.K H a xs)(h':i8 X.K H a ys):xs=ys:=by
 obtain⟨its,r,⟨o,e,_,n,d⟩,_⟩:=I.tuple h;obtain⟨its',r',⟨o',e',_,n',d'⟩,_⟩:=I.tuple h';rw[e]at e';cases e';rw[d]at d';injection d' with d1 _
 have:its=its':=by simpa using lD Array.toList d1
 subst this;exact r.inj r'
end
abbrev Cx.wish(X:Cx)(E:VP):Cx:={ X with xe:=E }
abbrev Cx.nox(X:Cx):Cx:=X.wish λ_ _=>False
def Cx.Ok.wish{X:Cx}(ok:X.Ok)(E:VP):(X.wish E).Ok:=
 ⟨ok.mod,ok.kind,ok.glob,ok.blt,ok.above,ok.inj,ok.has,ok.cab,ok.hd,ok.frames,ok.stk,ok.exf,ok.bs,ok.bsz,ok.noex,ok.exfs,ok.funs,ok.frf⟩
def Cx.Ok.unwish{X:Cx}(ok:(X.wish E).Ok):X.Ok:=
 ⟨ok.mod,ok.kind,ok.glob,ok.blt,ok.above,ok.inj,ok.has,ok.cab,ok.hd,ok.frames,ok.stk,ok.exf,ok.bs,ok.bsz,ok.noex,ok.exfs,ok.funs,ok.frf⟩
section
variable{X:Cx}{aa:f8}{U:St}{H:Hp}{s:Ai}{E:VP}
def a9.wish(I:a9 X aa U H s)(E:VP):a9 (X.wish E) aa U H s:=⟨I.ok.wish E,I.os,I.bare,I.base,I.loc,I.cell,I.free,I.freeC,I.pin,I.hok,I.len⟩
def a9.unwish(I:a9 (X.wish E) aa U H s):a9 X aa U H s:=⟨I.ok.unwish,I.os,I.bare,I.base,I.loc,I.cell,I.free,I.freeC,I.pin,I.hok,I.len⟩
theorem SP.unwish(h:SP (X.wish E) aa D f s'):SP X aa D f s':=by
 cases f with
 |next=>obtain⟨U',H',I,q⟩:=h;exact⟨U',H',I.unwish,q⟩
 |brk=>obtain⟨U',H',I,q⟩:=h;exact⟨U',H',I.unwish,q⟩
 |cont=>obtain⟨U',H',I,q⟩:=h;exact⟨U',H',I.unwish,q⟩
 |ret u=>obtain⟨v,U',H',I,r,q⟩:=h;exact⟨v,U',H',I.unwish,r,q⟩
def m7.nox{st:List Do}{t:TS}(h:m7 X.nox st t):m7 X st t:=λaa s U H D I hw=>Cn (h aa s U H D (I.wish _) hw) (λ_ _ q=>q.unwish) λ_ _ z=>Fw z
end
section
variable{X:Cx}{st:Do}{rest:List Do}{t u:TS}{e:Expr}{te:TE}{pos:Hq}
def ħ:TS:=λD U H=>D.nx U H
def UD(t u:TS):TS:=λD U H=>t { D with nx:=u D } U H
def â:m7 X [] ħ:=λ_ _ U H _ I h=>Jz ⟨U,H,I,h⟩
theorem yR(h1:PS X st t)(h2:m7 X rest u):m7 X (st::rest) (UD t u):=by
 intro aa s U H D I h;refine wpAny_execs_cons (kQ (h1 aa s U H { D with nx:=u D } I h) λf s1 q=>?_)
 cases f with
 |next=>obtain⟨U',H',I',q⟩:=q;exact h2 aa s1 U' H' D I' q
 |ret v=>exact q
 |brk=>exact q
 |cont=>exact q
theorem DW(h1:PS X st t):m7 X [st] t:=by
 intro aa s U H D I h;refine wpAny_execs_cons (kQ (h1 aa s U H D I h) λf s1 q=>?_)
 cases f with
 |next=>exact Jz q
 |ret v=>exact q
 |brk=>exact q
 |cont=>exact q
def a9.quiet(I:a9 X aa U H s):interactive X.env=false:=by simp[interactive,I.ok.kind]
def Ħ(te:TE):TS:=λD U H=>te U H λ_ H1=>D.nx U H1
def Ax(he:PE X e te)(hs:Ej e none pos.line X.env=Cr false:=by rfl):PS X (.Expr e pos) (Ħ te):=by intro aa s U H D I h;exact wpAny_Expr_any (jE (he aa s U H _ I h) λv s1 x H1 I1 r1 q1=>⟨U,H1,I1,q1⟩) I.quiet hs
def UC(te:TE):TS:=λD U H=>te U H D.rt
def LJ(he:PE X e te):PS X (.Return (some e) pos) (UC te):=by intro aa s U H D I h;exact wpAny_Return_some (jE (he aa s U H _ I h) λv s1 x H1 I1 r1 q1=>⟨x,U,H1,I1,r1,q1⟩)
def Κ(c:TT)(t u:TS):TS:=λD U H=>c U H λb H1=>if b=true then t D U H1 else u D U H1
theorem v07(hc:PT X c tc)(ha:m7 X a t)(hb:m7 X b u):PS X (.If c a b pos) (Κ tc t u):=by
 intro aa s U H D I h;refine wpAny_If (kQ (hc aa s U H _ I h) λd s1 ⟨H1,I1,q1⟩=>?_)
 cases d with
 |true=>exact ha aa s1 U H1 D I1 q1
 |false=>exact hb aa s1 U H1 D I1 q1
end
abbrev TG:=V->St->Hp->(St->Hp->Prop)->Prop
abbrev vU:=List V->St->Hp->(St->Hp->Prop)->Prop
def PG(X:Cx)(ae:Expr)(t:TG):Prop:=
 ∀(aa:f8) (s:Ai) (U:St) (H:Hp) (v:V) (u:Aa) (Q:St->Hp->Prop),a9 X aa U H s->e9 v u->t v U H Q ->
  Ap (B0 X.prog X.w) X.A (Md ae X.env u) (λ_ s'=>∃U' H',a9 X aa U' H' s'/\Q U' H') X.xe s
def vX(X:Cx)(ts:List Expr)(t:vU):Prop:=
 ∀(aa:f8) (s:Ai) (U:St) (H:Hp) (vs:List V) (us:List Aa) (Q:St->Hp->Prop),a9 X aa U H s->Y7 vs us->t vs U H Q ->
  Ap (B0 X.prog X.w) X.A (assignInOrder ((Ef ts X.env).map (·.2)) us) (λ_ s'=>∃U' H',a9 X aa U' H' s'/\Q U' H') X.xe s
abbrev NG:=V->V->Hp->VK->Prop
def UJ(X:Cx)(op:Operator)(t:NG):Prop:=
 ∀(aa:f8) (s:Ai) (U:St) (H:Hp) (x y:V) (v u:Aa) (Q:VK),a9 X aa U H s->e9 x v->e9 y u->t x y H Q ->
  Ap (B0 X.prog X.w) X.A (inplaceOp op v u) (EP X aa U Q) X.xe s
section
variable{X:Cx}{pos:Hq}
def r0(i:Nat):TG:=λv U H Q=>Q (U.set i (some v)) H
def DV{i:Nat}{x:Bf}(hN:X.N.Nodup)(hi:X.N[i]?=some x)(hx:mT X.env.scope x)(hf:X.fn x=true\/X.env.scope.names.lookup x=some .local:=by first|exact .inl rfl|exact .inr rfl|assumption):PG X (.Name x pos) (r0 i):=by intro aa s U H v u Q I r h;exact wpAny_assign_Name (JV I hN hi hx r (λs' I'=>⟨_,H,I',h⟩) hf)
def Ul:vU:=λvs U H Q=>vs=[]/\Q U H
def MC(t:TG)(u:vU):vU:=λvs U H Q=>∃v r,vs=v::r/\t v U H λU' H'=>u r U' H' Q
def Rk:vX X [] Ul:=by intro aa s U H vs us Q I r h;obtain⟨e,h⟩:=h;subst e;cases r;exact assignInOrder_nil ⟨U,H,I,h⟩
theorem JP(h1:PG X e t)(h2:vX X es u)(hs:(Ef (e::es) X.env).map (·.2)=Md e X.env::(Ef es X.env).map (·.2):=by rfl):vX X (e::es) (MC t u):=by
 intro aa s U H vs us Q I r h;obtain⟨v,vr,e1,h⟩:=h;subst e1
 cases r with
 |cons r rr=>rw[hs];refine assignInOrder_cons (kQ (h1 aa s U H _ _ _ I r h) λ_ s1 ⟨U1,H1,I1,q1⟩=>?_);exact h2 aa s1 U1 H1 _ _ Q I1 rr q1
def Um(K:A5)(n:Nat)(t:vU):TG:=λv U H Q=>∃a xs,v = .ref a/\i8 K H a xs/\xs.length=n/\t xs U H Q
def TL{n:Nat}(hc:X.calm=true)(h:vX X es t)(hn:(Ef es X.env).length=n:=by rfl)(bX:(Ef es X.env).findIdx? (·.1)=none:=by rfl):PG X (.Tuple es k pos) (Um X.K n t):=by intro aa s U H v u Q I r hw;obtain⟨a,xs,e1,hq,hl,hw⟩:=hw;subst e1;cases r;obtain⟨its,rv,ht,hz⟩:=I.tuple hq;refine assign_Tuple_tuple (I.ok.hd hc) ht (by simp[hn,<-hl,rv.length]) bX λh' hx=>?_;have I1:a9 X aa U H { s with heap:=h' }:=I.kept (t':=s.toks) λb o e=>hx b o (Aq (Ao e)) e;exact h aa _ U H xs _ Q I1 (by simpa using rv) hw
def FG(te:TE)(g:TG):TS:=λD U H=>te U H λx H1=>g x U H1 D.nx
def LK{i:Nat}{x:Bf}(hN:X.N.Nodup)(hi:X.N[i]?=some x)(hx:mT X.env.scope x)(he:PE X e te)(hs:Ej e (some (.Name x aU)) pos.line X.env=Cr false:=by rfl)(hf:X.fn x=true\/X.env.scope.names.lookup x=some .local:=by first|exact .inl rfl|exact .inr rfl|assumption):
  PS X (.Assign [.Name x aU] e pos) (FG te (r0 i)):=by
 intro aa s U H D I h;refine wpAny_Assign_Name (jE (he aa s U H _ I h) λv s1 y H1 I1 r1 q1=>?_) hs;exact JV I1 hN hi hx r1 (λs2 I2=>⟨_,H1,I2,q1⟩) hf
def Θ(i:Nat)(te:TE)(ti:NG):TS:=λD U H=>∃x,U[i]?=some (some x)/\te U H λy H1=>ti x y H1 λz H2=>D.nx (U.set i (some z)) H2
def Ş{i:Nat}{x:Bf}(hN:X.N.Nodup)(hi:X.N[i]?=some x)(hx:mT X.env.scope x)(he:PE X e te)(ho:UJ X op ti)(hf:X.fn x=true\/X.env.scope.names.lookup x=some .local:=by first|exact .inl rfl|exact .inr rfl|assumption):
  PS X (.AugAssign (.Name x aU) op e pos) (Θ i te ti):=by
 intro aa s U H D I h;obtain⟨v,e1,h⟩:=h;obtain⟨m,hn,hl⟩:=I.loc
 have vis:mS X.env.scope x:=by rcases hx with k|k;exact .inl k;exact .inr (.inl k)
 obtain⟨u,r,l⟩:=hl i x v hi e1 vis;refine wpAny_AugAssign_Name ?_
 have go:Ap (B0 X.prog X.w) X.A (Ce e X.env) (λw s₂=>Ap (B0 X.prog X.w) X.A (inplaceOp op u w) (λr s₃=>Ap (B0 X.prog X.w) X.A (storeName X.env x r) (λ_=>SP X aa D .next) X.xe s₃) X.xe s₂) X.xe s:=by refine jE (he aa s U H _ I h) λw s1 y H1 I1 r1 q1=>?_;refine jE (ho aa s1 U H1 v y u w _ I1 r r1 q1) λz s2 zv H2 I2 r2 q2=>?_;exact JV I2 hN hi hx r2 (λs3 I3=>⟨_,H2,I3,q2⟩) hf
 rcases l with⟨hk,hm⟩|⟨hk,c,hc,au⟩
 .exact wpAny_loadName_local I.ok.kind hk hn hm go
 .rcases hk with hk|hk
  .exact wpAny_loadName_cell I.ok.kind hk hc au go
  .rcases hx with k|k
   .have:X.env.scope.names.lookup x=some .free:=hk
    rw[k]at this;cases this
   .have:X.env.scope.names.lookup x=some .free:=hk
    rw[k]at this;cases this
def ipI(f:Int->Int->Int):NG:=λx y H Q=>∃i j,x = .int i/\y = .int j/\Q (.int (f i j)) H
def ĺ:UJ X .Add (ipI λi j=>i+j):=by intro aa s U H x y v u Q I r1 r2 h;obtain⟨i,j,e1,e2,q⟩:=h;subst e1;subst e2;obtain⟨t,rfl⟩:=r1;obtain⟨t',rfl⟩:=r2;exact iadd_int ⟨.int _,H,I.tok _,⟨_,rfl⟩,q⟩
def ŵ(c:TT)(tb:TS):TS:=λD U H=>∃W:Nat->St->Hp->Prop,(∃m,W m U H)/\∀m U H,W m U H ->
 c U H λb H1=>if b=true then ∃N:St->Hp->Prop,(∀U' H',N U' H'->∃m',m'<m/\W m' U' H')/\tb { D with nx:=N,ct:=N,bk:=D.nx } U H1 else D.nx U H1
theorem Xk(hp:Mm (B0 X.prog X.w) X.A X.env X.xe)(hc:PT X c tc)(hb:m7 X body tb):PS X (.While c body [] pos) (ŵ tc tb):=by
 intro aa s U H D I h;obtain⟨W,⟨m0,w0⟩,turn⟩:=h;refine wpAny_While (codeAny_whileLoop (λn s'=>∃U' H',a9 X aa U' H' s'/\W n U' H') ?_ m0 ⟨U,H,I,w0⟩);rintro n s1 ⟨U1,H1,I1,w1⟩;refine Fg hp (kQ (hc aa s1 U1 H1 _ I1 (turn n U1 H1 w1)) λb s2 ⟨H2,I2,q2⟩=>?_)
 cases b with
 |true=>
  obtain⟨N,hN,q2⟩:=q2;rw[z7 rfl];refine Fg hp (kQ (hb aa s2 U1 H2 _ I2 q2) λf s3 q3=>?_)
  cases f with
  |next=>obtain⟨U3,H3,I3,n3⟩:=q3;obtain⟨m',hm,w3⟩:=hN U3 H3 n3;exact⟨m',hm,U3,H3,I3,w3⟩
  |cont=>obtain⟨U3,H3,I3,n3⟩:=q3;obtain⟨m',hm,w3⟩:=hN U3 H3 n3;exact⟨m',hm,U3,H3,I3,w3⟩
  |brk=>exact q3
  |ret v=>exact q3
 |false=>rw[y3 B3];exact Jz ⟨U1,H2,I2,q2⟩
end
structure It where
 go:Nat->Hp->Prop
 yld:Nat->Hp->V->Hp->Prop
 stop:Nat->Hp->Prop
def pR(X:Cx)(aa:f8)(H:Hp)(b:Av):Prop:=H b=none/\b≠X.env.locals/\b∉X.fs/\(b∈X.ex\/X.s₀.heap.objs.size<=b)/\(∀x c,X.env.cells.lookup x=some c->c≠b)/\∀p∈X.pn++aa,p.1≠b
def a9.fpOk{H H':Hp}{b:Av}(I:a9 X aa U H s)(hb:s.heap.objs.size<=b)(hn:H' b=none):pR X aa H' b:=by
 refine⟨hn,D8 (B8 I.lt hb),I.nofs hb,.inr (Bn I.sz hb),λx c e z=>?_,λp hp z=>?_⟩
 .obtain⟨v,q⟩:=I.cell x c e;exact w9 (B8 q.lt (by rw[z];exact hb)) (Dc _)
 .exact w9 (B8 (Ao (I.pin p hp).1) (by rw[z];exact hb)) (Dc _)
structure p6(P:Bw)(w:Cg)(K:A5)(tg:Expr)(J:It)(fp:List Av)(it:Av)(tn:Nat->Cf->Prop):Prop where
 mem:it∈fp
 obj:∀i h,tn i h->∀b∈fp,∃o,h.get? b=some o/\∀v,o.data≠.cell v
 keep:∀i h h',tn i h->(∀b∈fp,∀o,h.get? b=some o->h'.get? b=some o)->tn i h'
 item:∀(X:Cx),X.prog=P->X.w=w->X.K=K->X.calm=true->∀(i:Nat) (aa:f8) (s:Ai) (U:St) (H:Hp) (E:VP),a9 X aa U H s->(∀b∈fp,pR X aa H b)->tn i s.heap->J.go i H ->
  Ap (B0 P w) X.A (Ir (.ref it)) (λr s1=>∃u,r=some u /\
   Ap (B0 P w) X.A (Ka tg (.ref it) u) (λ_ s2=>∃x H',a9 X aa U H' s2/\e9 x u/\J.yld i H x H'/\tn (i+1) s2.heap/\∀b∈fp,H' b=none) E s1) E s
 done:∀(X:Cx),X.prog=P->X.w=w->X.K=K->X.calm=true->∀(i:Nat) (aa:f8) (s:Ai) (U:St) (H:Hp) (E:VP),a9 X aa U H s->(∀b∈fp,pR X aa H b)->tn i s.heap->J.stop i H ->
  Ap (B0 P w) X.A (Ir (.ref it)) (λr s1=>r=none/\a9 X aa U H s1) E s
 self:∀(A:C1) (i:Nat) (s:Ai) (Q:VP) (E:VP),tn i s.heap->Q (.ref it) s->Ap (B0 P w) A (N3 (.ref it)) Q E s
abbrev TI:=St->Hp->(It->Hp->Prop)->Prop
def UK(X:Cx)(aa:f8)(U:St)(tg:Expr)(R:It->Hp->Prop)(itv:Aa)(s2:Ai):Prop:=∃(it:Av) (fp:List Av) (tn:Nat->Cf->Prop) (J:It) (H':Hp),itv = .ref it/\a9 X aa U H' s2/\p6 X.prog X.w X.K tg J fp it tn/\tn 0 s2.heap/\(∀b∈fp,pR X aa H' b)/\R J H'
def PI(X:Cx)(tg ag:Expr)(wi:TI):Prop:=
 ∀(aa:f8) (s:Ai) (U:St) (H:Hp) (R:It->Hp->Prop),a9 X aa U H s->wi U H R ->
  Ap (B0 X.prog X.w) X.A (Ce ag X.env) (λv s1=>Ap (B0 X.prog X.w) X.A (N3 v) (UK X aa U tg R) X.xe s1) X.xe s
def MD{s:Ai}{it:Av}{o:Jy}{Q:Unit->Ai->Prop}(ho:s.heap.get? it=some o)(hc:o.cls = .type n)(hd:o.data = .fields vs)(hn:["enumerate","zip","dict_itemiterator","dict_reverseitemiterator","odict_iterator","itertools.zip_longest","itertools.pairwise"].contains n=false)(hQ:Q () s):Ap M A (Ka tg (.ref it) u) Q E s:=by
  unfold Ka
  cases tg<;>first
    |exact w6 hQ
    | (cases u<;>first
        |exact w6 hQ
        | (refine A3 (N4 ho ?_)
           rw[hc,hd]
           show Ap M A (if (["enumerate","zip","dict_itemiterator","dict_reverseitemiterator","odict_iterator","itertools.zip_longest","itertools.pairwise"].contains n&&vs[0]?==some (rawInt _))=true then _ else _) Q E s
           rw[y3 (by intro h;rw[hn,Bool.false_and]at h;cases h)]
           exact w6 hQ))
def NK(K:A5)(a:Av):It:=
 ⟨λi H=>∃xs x,i5 K H a xs/\xs[i]?=some x,λi H x H'=>H'=H/\∀xs,i5 K H a xs->xs[i]?=some x,λi H=>∃xs,i5 K H a xs/\xs.length<=i⟩
def NJ(K:A5)(a:Av):It:=
 ⟨λi H=>∃xs x,i8 K H a xs/\xs[i]?=some x,λi H x H'=>H'=H/\∀xs,i8 K H a xs->xs[i]?=some x,λi H=>∃xs,i8 K H a xs/\xs.length<=i⟩
def BA(lo:Int)(n:Nat):It:=⟨λi _=>i<n,λi H x H'=>H'=H/\x = .int (lo+i),λi _=>n<=i⟩
def Za{P:Bw}{w:Cg}{K:A5}{tg:Expr}(a it:Av):p6 P w K tg (NK K a) [it] it (λi h=>h.IsListIter it a i) where
 mem:=by simp
 obj:=λi h st b hb=>by
  have e:b=it:=by simpa using hb
  subst e;obtain⟨o,e,c,d⟩:=st;exact⟨o,e,λv z=>by rw[d]at z;cases z⟩
 keep:=λi h h' st k=>st.at λo e=>k it (by simp) o e
 item:=by
  intro X hP hw hK hc i aa s U H E I hf st hg;subst hP hw hK;obtain⟨xs,x,hq,hx⟩:=hg;obtain⟨its,rv,p,hz⟩:=I.list hq;obtain⟨u,hu,ru⟩:=rv.get hx;obtain⟨f0,f1,f2,f3,f4,f5⟩:=hf it (by simp);refine wpAny_pyNext_list_item st p.isList (x:=u) (by simpa using hu) λh' aS sb=>?_;have I1:a9 X aa U H { s with heap:=h' }:=I.turned (t':=s.toks) (λb o hb e=>(sb.2 b hb).trans e) f0 f1 f3 f4 f5;obtain⟨o,e,c,d⟩:=id aS
  exact⟨u,rfl,MD (s:={ s with heap:=h' }) e c d (by decide) ⟨x,H,I1,ru,⟨rfl,λys hy=>by rw[I.list_inj hy hq];exact hx⟩,aS,λb hb=>(hf b hb).1⟩⟩
 done:=by intro X hP hw hK hc i aa s U H E I hf st hg;subst hP hw hK;obtain⟨xs,hq,hx⟩:=hg;obtain⟨its,rv,p,hz⟩:=I.list hq;obtain⟨f0,f1,f2,f3,f4,f5⟩:=hf it (by simp);have hl:=rv.length;exact wpAny_pyNext_list_end (I.ok.hd hc) st p.isList (by simp;omega) λh' eb=>⟨rfl,I.turned (t':=s.toks) (λb o hb e=>eb b o hb e) f0 f1 f3 f4 f5⟩
 self:=λ_ _ _ _ _ st h=>wpAny_pyIter_listiter st h
def Ė{P:Bw}{w:Cg}{K:A5}{tg:Expr}(a it:Av):p6 P w K tg (NJ K a) [it] it (λi h=>h.IsTupleIter it a i) where
 mem:=by simp
 obj:=λi h st b hb=>by
  have e:b=it:=by simpa using hb
  subst e;obtain⟨o,e,c,d⟩:=st;exact⟨o,e,λv z=>by rw[d]at z;cases z⟩
 keep:=λi h h' st k=>st.at λo e=>k it (by simp) o e
 item:=by
  intro X hP hw hK hc i aa s U H E I hf st hg;subst hP hw hK;obtain⟨xs,x,hq,hx⟩:=hg;obtain⟨its,rv,p,hz⟩:=I.tuple hq;obtain⟨u,hu,ru⟩:=rv.get hx;obtain⟨f0,f1,f2,f3,f4,f5⟩:=hf it (by simp);refine G6 st (show s.heap.IsTuple a its.toArray from p) (x:=u) (by simpa using hu) λh' aS sb=>?_;have I1:a9 X aa U H { s with heap:=h' }:=I.turned (t':=s.toks) (λb o hb e=>(sb.2 b hb).trans e) f0 f1 f3 f4 f5
  obtain⟨o,e,c,d⟩:=id aS;exact⟨u,rfl,MD (s:={ s with heap:=h' }) e c d (by decide) ⟨x,H,I1,ru,⟨rfl,λys hy=>by rw[I.tuple_inj hy hq];exact hx⟩,aS,λb hb=>(hf b hb).1⟩⟩
 done:=by intro X hP hw hK hc i aa s U H E I hf st hg;subst hP hw hK;obtain⟨xs,hq,hx⟩:=hg;obtain⟨its,rv,p,hz⟩:=I.tuple hq;obtain⟨f0,f1,f2,f3,f4,f5⟩:=hf it (by simp);have hl:=rv.length;exact Is (I.ok.hd hc) st (show s.heap.IsTuple a its.toArray from p) (by simp;omega) λh' eb=>⟨rfl,I.turned (t':=s.toks) (λb o hb e=>eb b o hb e) f0 f1 f3 f4 f5⟩
 self:=λ_ _ _ _ _ st h=>wpAny_pyIter_tupleiter st h
def ĕ{P:Bw}{w:Cg}{K:A5}{tg:Expr}(it:Av)(lo:Int)(n:Nat):p6 P w K tg (BA lo n) [it] it (λi h=>IsRangeIter h it (lo+(i:Nat)*1) ((n:Int)-(i:Nat)) 1) where
 mem:=by simp
 obj:=λi h st b hb=>by
  have e:b=it:=by simpa using hb
  subst e
  exact⟨_,st,λv z=>by
   have z':Data.fields _=Data.cell v:=z
   cases z'⟩
 keep:=λi h h' st k=>k it (by simp) _ st
 item:=by
  intro X hP hw hK hc i aa s U H E I hf st hg;subst hP hw hK;obtain⟨f0,f1,f2,f3,f4,f5⟩:=hf it (by simp);have W:=Nb.range (prog:=X.prog) (w:=X.w) (I.ok.hd hc) it lo 1 n;refine W.item i s _ _ hg st λv h' tk hv aS kk=>?_;obtain⟨t,rfl⟩:=hv;have I1:a9 X aa U H { s with heap:=h',toks:=tk }:=I.turned (λb o hb e=>kk b o (by simpa using hb) e) f0 f1 f3 f4 f5;refine⟨_,rfl,MD (s:={ s with heap:=h',toks:=tk }) (n:="range_iterator") aS rfl rfl (by decide) ⟨.int (lo+i),H,I1,⟨t,?_⟩,⟨rfl,rfl⟩,aS,λb hb=>(hf b hb).1⟩⟩
  rw[Int.mul_one]
 done:=by intro X hP hw hK hc i aa s U H E I hf st hg;subst hP hw hK;obtain⟨f0,f1,f2,f3,f4,f5⟩:=hf it (by simp);exact wpAny_pyNext_range_end (I.ok.hd hc) st (by have:n<=i:=hg;omega) λh' eb=>⟨rfl,I.turned (t':=s.toks) (λb o hb e=>eb b o hb e) f0 f1 f3 f4 f5⟩
 self:=λ_ _ _ _ _ st h=>wpAny_pyIter_rangeiter st h
section
variable{X:Cx}{tg:Expr}
def v0M(K:A5)(tl:TE):TI:=λU H R=>tl U H λx H1=>∃a,x = .ref a/\(∃xs,i5 K H1 a xs)/\R (NK K a) H1
def Ϲ(K:A5)(tl:TE):TI:=λU H R=>tl U H λx H1=>∃a,x = .ref a/\(∃xs,i8 K H1 a xs)/\R (NJ K a) H1
def Rm(hl:PE X l tl):PI X tg l (v0M X.K tl):=by
 intro aa s U H R I h;refine jE (hl aa s U H _ I h) λv s1 x H1 I1 r1 q1=>?_;obtain⟨a,e,⟨xs,hq⟩,q⟩:=q1;subst e;cases r1;obtain⟨its,rv,p,hz⟩:=I1.list hq;refine Gq p.isList ?_;refine⟨s1.heap.objs.size,[s1.heap.objs.size],_,_,H1,rfl,I1.kept (t':=s1.toks) λb o e=>A8 _ e,Za a _,⟨_,Ar _ rfl,rfl,rfl⟩,λb hb=>?_,q⟩
 have e:b=s1.heap.objs.size:=by simpa using hb
 subst e;exact I1.fpOk (Aj _) (I1.hok.fresh (Aj _))
def ŝ(hl:PE X l tl):PI X tg l (Ϲ X.K tl):=by
 intro aa s U H R I h;refine jE (hl aa s U H _ I h) λv s1 x H1 I1 r1 q1=>?_;obtain⟨a,e,⟨xs,hq⟩,q⟩:=q1;subst e;cases r1;obtain⟨its,rv,p,hz⟩:=I1.tuple hq;refine Ep (show s1.heap.IsTuple a its.toArray from p) ?_;refine⟨s1.heap.objs.size,[s1.heap.objs.size],_,_,H1,rfl,I1.kept (t':=s1.toks) λb o e=>A8 _ e,Ė a _,⟨_,Ar _ rfl,rfl,rfl⟩,λb hb=>?_,q⟩
 have e:b=s1.heap.objs.size:=by simpa using hb
 subst e;exact I1.fpOk (Aj _) (I1.hok.fresh (Aj _))
def Si{R:It->Hp->Prop}{lo hi:Int}{tk:Nat}(I:a9 X aa U H s)(h1 : -(2 ^ 62)<=lo)(h2:lo<2 ^ 62)(h3 : -(2 ^ 62)<=hi)(h4:hi<2 ^ 62)(q:R (BA lo (hi-lo).toNat) H):Ap (B0 X.prog X.w) X.A (N3 (.ref s.heap.objs.size)) (UK X aa U tg R) E { s with heap:=s.heap.push { cls:=.type "range",data:=.fields #[.int lo t,.int hi u,.int 1 v] },toks:=tk }:=by
 refine wpAny_pyIter_range (IsRange.new ..) (small_one h1 h2 h3 h4) ?_;have I1:a9 X aa U H { s with heap:=s.heap.push { cls:=.type "range",data:=.fields #[.int lo t,.int hi u,.int 1 v] },toks:=tk }:=I.kept λb o e=>A8 _ e
 refine⟨(s.heap.push { cls:=.type "range",data:=.fields #[.int lo t,.int hi u,.int 1 v] }).objs.size,[(s.heap.push { cls:=.type "range",data:=.fields #[.int lo t,.int hi u,.int 1 v] }).objs.size],_,_,H,rfl,
  I1.kept (t':=tk) λb o e=>A8 _ e,ĕ _ lo (hi-lo).toNat,?_,λb hb=>?_,q⟩
 .have e1:lo+((0:Nat):Int)*1=lo:=by simp
  have e2:(((hi-lo).toNat:Nat):Int)-((0:Nat):Int)=Ig lo hi 1:=by rw[Mu];split<;>omega
  show IsRangeIter _ _ (lo+((0:Nat):Int)*1) ((((hi-lo).toNat:Nat):Int)-((0:Nat):Int)) 1;rw[e1,e2];exact Ar _ rfl
 .have e:b=(s.heap.push { cls:=.type "range",data:=.fields #[.int lo t,.int hi u,.int 1 v] }).objs.size:=by simpa using hb
  subst e;exact I1.fpOk (Aj _) (I1.hok.fresh (Aj _))
def v0L(ta:TA):TI:=λU H R=>ta U H λvs H1=>∃j:Int,vs=[.int j]/\-(2 ^ 62)<=j/\j<2 ^ 62/\R (BA 0 j.toNat) H1
def v0K(ta:TA):TI:=λU H R=>ta U H λvs H1=>∃i j:Int,vs=[.int i,.int j]/\(-(2 ^ 62)<=i/\i<2 ^ 62/\-(2 ^ 62)<=j/\j<2 ^ 62)/\R (BA i (j-i).toNat) H1
theorem YG{a:Expr}{p pos:Hq}(hg:Gl X "range")(hm:X.mg "range" = none)(ha:PA X [a] ta)(hs:Ab [a] X.env=[(false,Ce a X.env)]:=by rfl):PI X tg (.Call (.Name "range" p) [a] [] pos) (v0L ta):=by
 intro aa s U H R I h;refine Call_ (oE I hg hm boot_range (Ee (jE (ha pos aa s U H _ I h) λus s1 vs H1 I1 r1 q1=>?_) hs rfl));obtain⟨j,e,q1,q2,q⟩:=q1;subst e
 cases r1 with
 |cons r rr=>cases rr;obtain⟨t,rfl⟩:=r;exact call_range_1 (Si I1 (by omega) (by omega) q1 q2 (by simpa using q))
theorem YH{a b:Expr}{p pos:Hq}(hg:Gl X "range")(hm:X.mg "range" = none)(ha:PA X [a,b] ta)(hs:Ab [a,b] X.env=[(false,Ce a X.env),(false,Ce b X.env)]:=by rfl)(bH:Ab [b] X.env=[(false,Ce b X.env)]:=by rfl):
  PI X tg (.Call (.Name "range" p) [a,b] [] pos) (v0K ta):=by
 intro aa s U H R I h;refine Call_ (oE I hg hm boot_range (Ee (jE (ha pos aa s U H _ I h) λus s1 vs H1 I1 r1 q1=>?_) (by rw[hs,bH]) (by rw[bH];rfl)))
 obtain⟨i,j,e,⟨q1,q2,q3,q4⟩,q⟩:=q1;subst e
 cases r1 with
 |cons r rr=>
  cases rr with
  |cons r' rr=>cases rr;obtain⟨t,rfl⟩:=r;obtain⟨t',rfl⟩:=r';exact call_range_2 (Si I1 q1 q2 q3 q4 q)
def UA(wi:TI)(g:TG)(tb:TS):TS:=λD U H=>wi U H λJ H1=>∃W:Nat->Nat->St->Hp->Prop,(∃m,W 0 m U H1)/\∀i m U H,W i m U H ->
 (J.stop i H/\D.nx U H)\/(J.go i H/\∃N:St->Hp->Prop,(∀U' H',N U' H'->∃m',m'<m/\W (i+1) m' U' H')/\∀x H',J.yld i H x H'->g x U H' λU2 H2=>tb { D with nx:=N,ct:=N,bk:=D.nx } U2 H2)
def zR(fp:List Av)(h:Cf):f8:=fp.filterMap λb=>(h.get? b).map λo=>(b,o)
def CL{fp:List Av}{h:Cf}{b:Av}{o:Jy}(hb:b∈fp)(e:h.get? b=some o):(b,o)∈zR fp h:=Er.mpr ⟨b,hb,by rw[e];rfl⟩
theorem YB{p:Av×Jy}(hp:p∈zR fp h):p.1∈fp/\h.get? p.1=some p.2:=by
 obtain⟨b,hb,e⟩:=Er.mp hp
 cases q:h.get? b with
 |none=>rw[q]at e;cases e
 |some o=>rw[q]at e;have e':(b,o)=p:=Ba e;subst e';exact⟨hb,q⟩
def a9.pinned{fp:List Av}(I:a9 X aa U H s)(hf:∀b∈fp,pR X aa H b)(ho:∀b∈fp,∃o,s.heap.get? b=some o/\∀v,o.data≠.cell v):a9 X (aa++zR fp s.heap) U H s:=I.pins_of λp hp=>(Aw.mp hp).elim (λz=>I.pin p (Ac _ z)) λz=>by obtain⟨hb,e⟩:=YB z;obtain⟨f0,f1,f2,_⟩:=hf p.1 hb;obtain⟨o,e',d⟩:=ho p.1 hb;rw[e]at e';cases e';exact⟨e,f0,f1,f2,d⟩
def a9.unpinned{aa pl:f8}(I:a9 X (aa++pl) U H s):a9 X aa U H s:=I.pins_of λp hp=>I.pin p (Ac _ (B7 _ hp))
def TN(hp:Mm (B0 X.prog X.w) X.A X.env X.xe)(hc:X.calm=true)(hi:PI X tg ag wi)(hg:PG X tg g)(hb:m7 X body tb)(hs:∀x,Cz ag X.env x=Cr x:=by intro _;rfl):PS X (.For tg ag body [] pos) (UA wi g tb):=by
 intro aa s U H D I h;refine wpAny_For (kQ (hi aa s U H _ I h) λv s1 h1=>kQ h1 λitv s2 h2=>?_) hs;obtain⟨it,fp,tn,J,H2,e,I2,T,fD,f2,W,⟨m0,w0⟩,turn⟩:=h2;subst e;have cJ:∀{H':Hp},(∀b∈fp,H' b=none)->∀b∈fp,pR X aa H' b:=λhn b hb=>⟨hn b hb,(f2 b hb).2⟩;refine codeAny_forLoop_any (λn s'=>∃i U' H',a9 X aa U' H' s'/\tn i s'.heap/\(∀b∈fp,H' b=none)/\W i n U' H') ?_ m0 ⟨0,U,H2,I2,fD,λb hb=>(f2 b hb).1,w0⟩
 rintro n s3 ⟨i,U3,H3,I3,iQ,fr3,w3⟩;rcases turn i n U3 H3 w3 with⟨stop,qn⟩|⟨go,N,hN,step⟩
 .refine Fg hp (kQ (T.done X rfl rfl rfl hc i aa s3 U3 H3 X.xe I3 (cJ fr3) iQ stop) λr s4 ⟨hr,I4⟩=>?_);subst hr;exact Jz ⟨U3,H3,I4,qn⟩
 .refine Fg hp (kQ (T.item X rfl rfl rfl hc i aa s3 U3 H3 X.xe I3 (cJ fr3) iQ go) λr s4 ⟨u,hr,h4⟩=>?_);subst hr;refine Fg hp (kQ h4 λ_ s5 ⟨x,H5,I5,r5,y5,gN,fr5⟩=>?_);have I5':=I5.pinned (cJ fr5) (T.obj _ _ gN);refine Fg hp (kQ (hg _ s5 U3 H5 x u _ I5' r5 (step x H5 y5)) λ_ s6 ⟨U6,H6,I6,q6⟩=>?_);refine Fg hp (kQ (hb _ s6 U6 H6 _ I6 q6) λf s7 q7=>?_)
  have Nc:∀{U7:St} {H7:Hp},a9 X (aa++zR fp s5.heap) U7 H7 s7->N U7 H7->∃m,m<n/\∃i U' H',a9 X aa U' H' s7/\tn i s7.heap/\(∀b∈fp,H' b=none)/\W i m U' H':=λ{U7 H7} I7 n7=>by obtain⟨m',hm,w7⟩:=hN U7 H7 n7;refine⟨m',hm,i+1,U7,H7,I7.unpinned,T.keep _ _ _ gN λb hb o e=>(I7.pin (b,o) (Ac _ (Ac _ (CL hb e)))).1,λb hb=>?_,w7⟩;obtain⟨o,e,d⟩:=T.obj _ _ gN b hb;exact(I7.pin (b,o) (Ac _ (Ac _ (CL hb e)))).2.1
  cases f with
  |next=>obtain⟨U7,H7,I7,n7⟩:=q7;exact Nc I7 n7
  |cont=>obtain⟨U7,H7,I7,n7⟩:=q7;exact Nc I7 n7
  |brk=>obtain⟨U7,H7,I7,q7⟩:=q7;exact⟨U7,H7,I7.unpinned,q7⟩
  |ret v=>obtain⟨x7,U7,H7,I7,r7,q7⟩:=q7;exact⟨x7,U7,H7,I7.unpinned,r7,q7⟩
end
abbrev R2:=V->V->Hp->VK->Prop
def kH(X:Cx)(f:Aa->Aa->Sem Aa)(r:R2):Prop:=
 ∀(aa:f8) (s:Ai) (U:St) (H:Hp) (x y:V) (v u:Aa) (Q:VK),a9 X aa U H s->e9 x v->e9 y u->r x y H Q ->
  Ap (B0 X.prog X.w) X.A (f v u) (EP X aa U Q) X.xe s
def NF(X:Cx)(f:Aa->Sem Aa)(r:V->Hp->VK->Prop):Prop:=
 ∀(aa:f8) (s:Ai) (U:St) (H:Hp) (x:V) (v:Aa) (Q:VK),a9 X aa U H s->e9 x v->r x H Q ->
  Ap (B0 X.prog X.w) X.A (f v) (EP X aa U Q) X.xe s
def kT(X:Cx)(f:Aa)(r:List V->Hp->VK->Prop):Prop:=
 ∀(aa:f8) (s:Ai) (U:St) (H:Hp) (xs:List V) (us:List Aa) (Q:VK),a9 X aa U H s->Y7 xs us->r xs H Q ->
  Ap (B0 X.prog X.w) X.A (call f us) (EP X aa U Q) X.xe s
def ϴ(X:Cx)(r:V->Hp->(Bool->Hp->Prop)->Prop):Prop:=
 ∀(aa:f8) (s:Ai) (U:St) (H:Hp) (x:V) (v:Aa) (Q:Bool->Hp->Prop),a9 X aa U H s->e9 x v->r x H Q ->
  Ap (B0 X.prog X.w) X.A (Ny v) (TP X aa U Q) X.xe s
def xX(r:R2)(ta tb:TE):TE:=λU H Q=>ta U H λx H1=>tb U H1 λy H2=>r x y H2 Q
def tUn(r:V->Hp->VK->Prop)(ta:TE):TE:=λU H Q=>ta U H λx H1=>r x H1 Q
def rI(C:Int->Int->Prop)(g:Int->Int->V):R2:=λx y H Q=>∃i j,x = .int i/\y = .int j/\C i j/\Q (g i j) H
def sK(g:Int->Int->V):R2:=λx y H Q=>∃i j,x = .int i/\y = .int j/\Q (g i j) H
def rU(g:Int->V):V->Hp->VK->Prop:=λx H Q=>∃i,x = .int i/\Q (g i) H
section
variable{X:Cx}{a b c:Expr}{ta tb tc:TE}{pos:Hq}
def MN(ha:PE X a ta)(hb:PE X b tb){R:V->V->Hp->Prop}(I:a9 X aa U H s)(h:ta U H λx H1=>tb U H1 λy H2=>R x y H2){f:Aa->Aa->Sem Aa}(hf:∀v u s2 x y H2,a9 X aa U H2 s2->e9 x v->e9 y u->R x y H2->Ap (B0 X.prog X.w) X.A (f v u) Q X.xe s2):
  Ap (B0 X.prog X.w) X.A (Ce a X.env) (λv s₁=>Ap (B0 X.prog X.w) X.A (Ce b X.env) (λu s₂=>Ap (B0 X.prog X.w) X.A (f v u) Q X.xe s₂) X.xe s₁) X.xe s:=by
 refine jE (ha aa s U H _ I h) λv s1 x H1 I1 r1 q1=>?_;refine jE (hb aa s1 U H1 _ I1 q1) λu s2 y H2 I2 r2 q2=>?_;exact hf v u s2 x y H2 I2 r1 r2 q2
def SH(ho:kH X (Hs op) r)(ha:PE X a ta)(hb:PE X b tb):PE X (.BinOp a op b pos) (xX r ta tb):=by intro aa s U H Q I h;exact wpAny_BinOp (MN ha hb I h λv u s2 x y H2 I2 rx ry q=>ho aa s2 U H2 x y v u Q I2 rx ry q)
def v08(ho:NF X (unaryOp op) r)(ha:PE X a ta):PE X (.UnaryOp op a pos) (tUn r ta):=by intro aa s U H Q I h;exact UnaryOp_ (jE (ha aa s U H _ I h) λv s1 x H1 I1 r1 q1=>ho aa s1 U H1 x v Q I1 r1 q1)
def UF{f:Aa->Aa->Sem Aa}{C:Int->Int->Prop}{g:Int->Int->Int}(rule:∀(i j:Int) (t u:Tok) (s:Ai) (Q:VP) (E:VP),C i j->Q (.int (g i j) s.toks) { s with toks:=s.toks+1 }->Ap (B0 X.prog X.w) X.A (f (.int i t) (.int j u)) Q E s):
  kH X f (rI C λi j=>.int (g i j)):=by
 intro aa s U H x y v u Q I rx ry h;obtain⟨i,j,rfl,rfl,hc,q⟩:=h;obtain⟨t,rfl⟩:=rx;obtain⟨t',rfl⟩:=ry;exact rule i j t t' s _ _ hc ⟨.int (g i j),H,I.tok _,⟨_,rfl⟩,q⟩
def Us{f:Aa->Aa->Sem Aa}{g:Int->Int->Int}(rule:∀(i j:Int) (t u:Tok) (s:Ai) (Q:VP) (E:VP),Q (.int (g i j) s.toks) { s with toks:=s.toks+1 }->Ap (B0 X.prog X.w) X.A (f (.int i t) (.int j u)) Q E s):
  kH X f (sK λi j=>.int (g i j)):=by
 intro aa s U H x y v u Q I rx ry h;obtain⟨i,j,rfl,rfl,q⟩:=h;obtain⟨t,rfl⟩:=rx;obtain⟨t',rfl⟩:=ry;exact rule i j t t' s _ _ ⟨.int (g i j),H,I.tok _,⟨_,rfl⟩,q⟩
def MU{f:Aa->Aa->Sem Aa}{g:Int->Int->Bool}(rule:∀(i j:Int) (t u:Tok) (s:Ai) (Q:VP) (E:VP),Q (.bool (g i j)) s->Ap (B0 X.prog X.w) X.A (f (.int i t) (.int j u)) Q E s):
  kH X f (sK λi j=>.bl (g i j)):=by
 intro aa s U H x y v u Q I rx ry h;obtain⟨i,j,rfl,rfl,q⟩:=h;obtain⟨t,rfl⟩:=rx;obtain⟨t',rfl⟩:=ry;exact rule i j t t' s _ _ ⟨.bl (g i j),H,I,rfl,q⟩
def AO(i j:Int):Prop:=(-(2 ^ 64)<i/\i<2 ^ 64)\/(-(2 ^ 64)<j/\j<2 ^ 64)
def AO.ok(h:AO i j):IntMulOk i j:=by
 rcases h with⟨h1,h2⟩|⟨h1,h2⟩
 .exact .of_left (intBits_le_64 h1 h2)
 .exact .of_right (intBits_le_64 h1 h2)
def Ŋ:kH X (Hs .Add) (sK λi j=>.int (i+j)):=Us λ_ _ _ _ _ _ _ q=>add_int q
def Ő:kH X (Hs .Sub) (sK λi j=>.int (i-j)):=Us λ_ _ _ _ _ _ _ q=>sub_int q
def Ŏ:kH X (Hs .Mult) (rI AO λi j=>.int (i*j)):=UF λ_ _ _ _ _ _ _ hc q=>mul_int q hc.ok
def ō:kH X (Hs .Mod) (rI (λ_ j=>0<j) λi j=>.int (i % j)):=UF λi j _ _ _ _ _ hc q=>by have h1:(0:Int)<j:=hc;exact mod_int' (by omega) (by rw[Int.fmod_eq_emod_of_nonneg i (by omega)];exact q)
def unI{f:Aa->Sem Aa}{g:Int->Int}(rule:∀(i:Int) (t:Tok) (s:Ai) (Q:VP) (E:VP),Q (.int (g i) s.toks) { s with toks:=s.toks+1 }->Ap (B0 X.prog X.w) X.A (f (.int i t)) Q E s):
  NF X f (rU λi=>.int (g i)):=by
 intro aa s U H x v Q I rx h;obtain⟨i,rfl,q⟩:=h;obtain⟨t,rfl⟩:=rx;exact rule i t s _ _ ⟨.int (g i),H,I.tok _,⟨_,rfl⟩,q⟩
def ŷ:NF X (unaryOp .USub) (rU λi=>.int (-i)):=unI λ_ _ _ _ _ q=>neg_int q
def Sy:kH X (Da .Lt) (sK λi j=>.bl (decide (i<j))):=MU λ_ _ _ _ _ _ _ q=>lt_int q
def Sw:kH X (Da .LtE) (sK λi j=>.bl (decide (i<=j))):=MU λ_ _ _ _ _ _ _ q=>le_int q
def v0A:kH X (Da .Gt) (sK λi j=>.bl (decide (j<i))):=MU λ_ _ _ _ _ _ _ q=>gt_int q
def kH.or(h:kH X f r)(h':kH X f r'):kH X f (λx y H Q=>r x y H Q\/r' x y H Q):=by
 intro aa s U H x y v u Q I rx ry q;rcases q with q|q
 .exact h aa s U H x y v u Q I rx ry q
 .exact h' aa s U H x y v u Q I rx ry q
def sT(b:Expr){op:Nx}(h:op≠.In:=by decide)(h2:op≠.NotIn:=by decide):Dd op b=false:=by
 have e1:(op==Nx.In)=false:=by cases op<;>first|rfl|exact w9 rfl h
 have e2:(op==Nx.NotIn)=false:=by cases op<;>first|rfl|exact w9 rfl h2
 cases b<;>simp[Dd,e1,e2]
def Ri(ho:kH X (Da op) r)(ha:PE X a ta)(hb:PE X b tb)(hm:Dd op b=false):PE X (.Compare a [op] [b] pos) (xX r ta tb):=by intro aa s U H Q I h;exact wpAny_Compare1 (MN ha hb I h λv u s2 x y H2 I2 rx ry q=>ho aa s2 U H2 x y v u Q I2 rx ry q) hm
def S4(t:TE):TT:=λU H Q=>t U H λx H'=>∃k,x = .bl k/\Q k H'
def IS(ho:kH X (Da op) r)(ha:PE X a ta)(hb:PE X b tb)(hm:Dd op b=false):PT X (.Compare a [op] [b] pos) (S4 (xX r ta tb)):=by
 intro aa s U H Q I h
 refine wpAny_isTrue_Compare1 (jE (ha aa s U H _ I h) λv s1 x H1 I1 r1 q1=>jE (hb aa s1 U H1 _ I1 q1) λu s2 y H2 I2 r2 q2=>
  jE (ho aa s2 U H2 x y v u _ I2 r1 r2 q2) λc s3 z H3 I3 r3 ⟨k,e,q3⟩=>?_) hm
 subst e;cases r3;exact De ⟨H3,I3,q3⟩
def T6(r r':R2)(ta tb tc:TE):TE:=λU H Q=>ta U H λx H1=>tb U H1 λy H2=>r x y H2 λz H3=>∃k,z = .bl k /\
 (if k=true then tc U H3 λw' H4=>r' y w' H4 Q else Q (.bl false) H3)
theorem Xl(ho:kH X (Da op) r)(bJ:kH X (Da op') r')(ha:PE X a ta)(hb:PE X b tb)(hc:PE X c tc)(hm:lastMarks [op,op'] [b,c]=false:=by with_unfolding_all rfl):PT X (.Compare a [op,op'] [b,c] pos) (S4 (T6 r r' ta tb tc)):=by
 intro aa s U H Q I h
 refine isTrue_chain (jE (ha aa s U H _ I h) λv s1 x H1 I1 r1 q1=>test_link (jE (hb aa s1 U H1 _ I1 q1) λu s2 y H2 I2 r2 q2=>
  jE (ho aa s2 U H2 x y v u _ I2 r1 r2 q2) λd s3 z H3 I3 r3 ⟨k,e,q3⟩=>?_)) hm
 subst e;cases r3;refine De ?_
 cases k with
 |false=>obtain⟨k',e',q'⟩:=q3;cases e';exact ite_ff ⟨H3,I3,q'⟩
 |true=>refine ite_tt (test_last (jE (hc aa s3 U H3 _ I3 q3) λw' s4 z' H4 I4 r4 q4=>jE (bJ aa s4 U H4 y z' u w' _ I4 r2 r4 q4) λd' s5 z2 H5 I5 r5 ⟨k2,e2,q5⟩=>?_));subst e2;cases r5;exact De ⟨H5,I5,q5⟩
def Ui(K:A5)(x:V)(H:Hp)(k:Bool):Prop:=
 match x with
 | .non=>k=false
 | .bl b=>k=b
 | .int i=>k=(i != 0)
 | .str y=>y.length<=sizeLine/\k=((y.length:Int) != 0)
 | .byt y=>y.size<=sizeLine/\k=((y.size:Int) != 0)
 | .ref p=>(∃xs,i5 K H p xs/\k = !xs.isEmpty)\/(∃xs,i8 K H p xs/\k = !xs.isEmpty)\/∃kvs,H p=some (.dK kvs)/\k = !kvs.isEmpty
 |_=>False
def ZZ{κ:Type}{kvs:List (κ×V)}{vs:List (κ×Aa)}(r:KV kvs vs):(!vs.isEmpty) = !kvs.isEmpty:=by cases r<;>rfl
def P0(r:Y7 xs its):(!its.toArray.isEmpty) = !xs.isEmpty:=by cases r<;>simp
def xC:(sizeLine:Nat)<2 ^ 63:=by rw[Bs];decide
theorem Ŷ:ϴ X (λx H Q=>∃k,Ui X.K x H k/\Q k H):=by
 intro aa s U H x v Q I rx h;obtain⟨k,e,q⟩:=h;have hl:=xC;have hs:sizeLine=16777216:=Bs
 cases x with
 |non=>cases rx;have e':k=false:=e;subst e';exact truthy_none ⟨H,I,q⟩
 |bl b=>cases rx;have e':k=b:=e;subst e';exact De ⟨H,I,q⟩
 |int i=>obtain⟨t,rfl⟩:=rx;have e':k=(i != 0):=e;subst e';exact PySem.P.truthy_int ⟨H,I,q⟩
 |str y=>obtain⟨t,rfl⟩:=rx;obtain⟨hy,e'⟩:y.length<=sizeLine/\k=((y.length:Int) != 0):=e;subst e';exact PySem.P.truthy_str (by omega) ⟨H,I.tok _,q⟩
 |byt y=>obtain⟨t,rfl⟩:=rx;obtain⟨hy,e'⟩:y.size<=sizeLine/\k=((y.size:Int) != 0):=e;subst e';exact PySem.W.truthy_bytes (by omega) ⟨H,I.tok _,q⟩
 |ref p=>
  cases rx;have e':(∃xs,i5 X.K H p xs/\k = !xs.isEmpty)\/(∃xs,i8 X.K H p xs/\k = !xs.isEmpty)\/∃kvs,H p=some (.dK kvs)/\k = !kvs.isEmpty:=e;rcases e' with⟨xs,hx,e'⟩|⟨xs,hx,e'⟩|⟨kvs,hx,e'⟩
  .subst e';obtain⟨its,r,pl,hz⟩:=I.list hx;have ab:=r.length;exact wpAny_truthy_list pl.isList (by simp only[An];omega) ⟨H,I.tok _,by rw[P0 r];exact q⟩
  .subst e';obtain⟨its,r,pl,hz⟩:=I.tuple hx;have ab:=r.length;exact truthy_tuple pl (by simp only[An];omega) ⟨H,I.tok _,by rw[P0 r];exact q⟩
  .subst e';obtain⟨hz,hS,vs,r,m⟩:kvs.length<=sizeLine/\(p==Fv)=false/\∃vs,KV kvs vs/\s.heap.DictOf (mM X.prog X.w) p vs:=I.hok p _ hx;have ab:kvs.length=vs.length:=Le r;exact wpAny_truthy_dict hS m (by omega) ⟨H,I.tok _,by rw[ZZ r];exact q⟩
 |_=>exact(show False from e).elim
def Xm(ha:PE X a ta)(he:∀whole,isTrue a X.env whole=(do let v <-whole;L0 a.pos;Hd [v] (Ny v))):
  PT X a (λU H Q=>ta U H λx H'=>∃k,Ui X.K x H' k/\Q k H'):=by
 intro aa s U H Q I h;exact isTrue_plain (jE (ha aa s U H _ I h) λv s1 x H1 I1 r1 q1=>Ŷ aa s1 U H1 x v Q I1 r1 q1) (he _)
theorem l9{x:V}(r:Y7 [x] us):∃u,us=[u]/\e9 x u:=by
 cases r with
 |cons r1 r2=>cases r2;exact⟨_,rfl,r1⟩
theorem AM{x y:V}(r:Y7 [x,y] us):∃u w',us=[u,w']/\e9 x u/\e9 y w':=by
 cases r with
 |cons r1 r2=>
  cases r2 with
  |cons r3 r4=>cases r4;exact⟨_,_,rfl,r1,r3⟩
def OW(hc:X.calm=true):kT X (.builtin "max") (λxs H Q=>∃i j,xs=[.int i,.int j]/\Q (.int (if j>i then j else i)) H):=by
 intro aa s U H xs us Q I r h;obtain⟨i,j,rfl,q⟩:=h;obtain⟨u,w',rfl,⟨t,rfl⟩,⟨t',rfl⟩⟩:=AM r;refine max_two_ints (I.ok.hd hc) λh' tk k=>⟨_,H,I.kept k,?_,q⟩;by_cases hj:j>i
 .rw[z7 hj,z7 hj];exact⟨_,rfl⟩
 .rw[y3 hj,y3 hj];exact⟨_,rfl⟩
def OY(hc:X.calm=true):kT X (.builtin "min") (λxs H Q=>∃i j,xs=[.int i,.int j]/\Q (.int (if j<i then j else i)) H):=by
 intro aa s U H xs us Q I r h;obtain⟨i,j,rfl,q⟩:=h;obtain⟨u,w',rfl,⟨t,rfl⟩,⟨t',rfl⟩⟩:=AM r;refine min_two_ints (I.ok.hd hc) λh' tk k=>⟨_,H,I.kept k,?_,q⟩;by_cases hj:j<i
 .rw[z7 hj,z7 hj];exact⟨_,rfl⟩
 .rw[y3 hj,y3 hj];exact⟨_,rfl⟩
def XZ:kT X (.type "int") (λxs H Q=>(∃i,xs=[.int i]/\Q (.int i) H)\/∃k,xs=[.bl k]/\Q (.int (if k then 1 else 0)) H):=by
 intro aa s U H xs us Q I r h;rcases h with⟨i,rfl,q⟩|⟨k,rfl,q⟩
 .obtain⟨u,rfl,t,rfl⟩:=l9 r;exact call_int_int ⟨.int i,H,I,⟨_,rfl⟩,q⟩
 .obtain⟨u,rfl,r1⟩:=l9 r;cases r1;exact call_int_bool ⟨.int (if k then 1 else 0),H,I.tok _,⟨_,rfl⟩,q⟩
end
theorem o9.some_of{v:V}(r:o9 (some v) o):∃u,o=some u/\e9 v u:=by
 cases o with
 |none=>exact(show False from r).elim
 |some u=>exact⟨u,rfl,r⟩
structure d4(k:Nat)(A:C1):Prop where
 hd:A.handled=none
 dp:A.depth+3*k+5<recursionLimit
 un:A.units+16*k+200<D4
 gd:A.guards=some []
def d4.mono{j k:Nat}(r:d4 k A)(h:j<=k):d4 j A:=⟨r.hd,by have:=r.dp;omega,by have:=r.un;omega,r.gd⟩
def d4.deeper{k:Nat}(r:d4 (k+1) A)(env:Nq):d4 k (A.deeper env):=
 ⟨r.hd,by have:=r.dp;show A.depth+1+3*k+5<_;omega,by have:=r.un;show A.units+3+16*k+200<_;omega,r.gd⟩
def d4.in1{k:Nat}(r:d4 (k+1) A):d4 k A.in1:=
 ⟨r.hd,by have:=r.dp;show A.depth+3*k+5<_;omega,by have:=r.un;show A.units+1+16*k+200<_;omega,r.gd⟩
def d4.depth(r:d4 k A):A.depth<recursionLimit:=by have:=r.dp;omega
def d4.units(r:d4 k A):A.units+64<D4:=by have:=r.un;omega
def d4.units0(r:d4 k A):A.units<D4:=by have:=r.un;omega
def LQ:TA:=λ_ H Q=>Q [] H
def S0(ta:TE)(tr:TA):TA:=λU H Q=>ta U H λx H1=>tr U H1 λxs H2=>Q (x::xs) H2
section
variable{X:Cx}{e:Expr}{es:List Expr}{te:TE}{t:TA}{pos:Hq}
def Y8:PA X [] LQ:=λ_ _ _ _ H Q I h=>Calls.spliced_nil ⟨[],H,I,.nil,h⟩
def J4(ha:PE X e te)(hr:PA X es t)(hs:Ab (e::es) X.env=(false,Ce e X.env)::Ab es X.env:=by rfl):PA X (e::es) (S0 te t):=by intro pos aa s U H Q I h;rw[hs];show Ap _ _ (spliced ((false,Ce e X.env)::C8 pos (Ab es X.env))) _ _ s;refine Calls.spliced_cons (jE (ha aa s U H _ I h) λu s1 x H1 I1 r1 q1=>?_);exact jE (hr pos aa s1 U H1 _ I1 q1) λus s2 xs H2 I2 r2 q2=>⟨x::xs,H2,I2,.cons r1 r2,q2⟩
def Ν(t:TA):TE:=λU H Q=>t U H λxs H1=>xs.length<=sizeLine/\∀p,H1 p=none->Q (.ref p) (upd H1 p (.tup xs))
def UB(t:TA):TE:=λU H Q=>t U H λxs H1=>xs.length<=sizeLine/\∀p,H1 p=none->Q (.ref p) (upd H1 p (.lst xs))
def ř{x1}(h:PA X es t):PE X (.Tuple es x1 pos) (Ν t):=by
 intro aa s U H Q I hq;refine wpAny_Tuple_spliced (jE (h pos aa s U H _ I hq) λus s1 xs H1 I1 r ⟨z,q⟩=>⟨by rw[<-r.length];exact z,?_⟩)
 have hf:H1 s1.heap.objs.size=none:=I1.hok.fresh (Aj _);refine⟨.ref s1.heap.objs.size,upd H1 s1.heap.objs.size (.tup xs),I1.laid (t':=s1.toks) (λb u e=>A8 _ e) (Aj _) ?_,rfl,q _ hf⟩;exact⟨z,us,r,⟨_,Ar _ rfl,rfl,⟨_,rfl⟩,rfl⟩⟩
def TK(h:PA X es t):PE X (.List es pos) (UB t):=by
 intro aa s U H Q I hq;refine wpAny_List_spliced (jE (h pos aa s U H _ I hq) λus s1 xs H1 I1 r ⟨z,q⟩=>⟨by rw[<-r.length];exact z,?_⟩)
 have hf:H1 s1.heap.objs.size=none:=I1.hok.fresh (Aj _);refine⟨.ref s1.heap.objs.size,upd H1 s1.heap.objs.size (.lst xs),I1.laid (t':=s1.toks) (λb u e=>A8 _ e) (Aj _) ?_,rfl,q _ hf⟩;exact⟨z,us,0,r,Ar _ rfl⟩
end
abbrev Sp:=List V->Hp->VK->XK->Prop
abbrev uE:=List Nq->Hp->Ai->XK->VP
structure sO(P:Bw)(w:Cg)(K:A5)(mg:Bf->Option Aa)(base:Cf)(A:C1)(outer:List Nq)(s:Ai)(H:Hp):Prop where
 frames:A.frames=some outer
 mod:Mod K mg base
 bs:∀b o,base.get? b=some o->s.heap.get? b=some o/\H b=none
 bsz:base.objs.size<=s.heap.objs.size
 funs:s.heap.FunFrames base outer
 frf:∀b∈nU outer,H b=none
 hok:kR P w H s.heap
 bare:Kf s.gens
def CE(outer:List Nq)(P:Bw)(w:Cg)(H:Hp)(s:Ai)(Q:VK)(u:Aa)(s':Ai):Prop:=∃v H',s'.os=s.os/\Kf s'.gens/\Un (nU outer) [] H H' s.heap s'.heap/\kR P w H' s'.heap/\e9 v u/\Q v H'
def CR(CX:uE)(outer:List Nq)(P:Bw)(w:Cg)(H:Hp)(s:Ai)(Q:VK)(E:XK)(r:Lf)(s':Ai):Prop:=
 match r with
 | .ok (.ret u)=>CE outer P w H s Q u s'
 | .ok _=>False
 | .error e=>CX outer H s E e s'
structure kJ(P:Bw)(w:Cg)(K:A5)(mg:Bf->Option Aa)(base:Cf)(CX:uE)(k:Nat)(f:Av)(fd:Gu)(ps:List Bf)(sp:Sp):Prop where
 len:∀vs H Q E,sp vs H Q E->vs.length=ps.length
 run:∀(A:C1) (outer:List Nq) (s:Ai) (H:Hp) (args:Args) (us:List Aa) (vs:List V) (Q:VK) (E:XK),d4 k A->sO P w K mg base A outer s H->Nd s fd args (ps.zip us)->Y7 vs us->sp vs H Q E ->
  Ew (B0 P w) A (.call (.ref f) args) (CR CX outer P w H s Q E) s
def kJ.mono{P:Bw}{w:Cg}{K:A5}{mg:Bf->Option Aa}{base:Cf}{CX:uE}{j k:Nat}{f:Av}{fd:Gu}{ps:List Bf}{sp:Sp}(F:kJ P w K mg base CX j f fd ps sp)(h:j<=k):
  kJ P w K mg base CX k f fd ps sp:=⟨F.len,λA outer s H args us vs Q E hr=>F.run A outer s H args us vs Q E (hr.mono h)⟩
section
variable{X:Cx}{aa:f8}{U:St}{H:Hp}{s s':Ai}
def a9.env0(I:a9 X aa U H s):sO X.prog X.w X.K X.mg X.base X.A X.stack s H:=
 ⟨I.ok.frames,I.ok.mod,I.bs,Bn I.ok.bsz I.sz,I.stack,I.stkFree,I.hok,I.bare⟩
def a9.after(I:a9 X aa U H s)(h:CE X.stack X.prog X.w H s Q u s'):EP X aa U Q u s':=by
 obtain⟨v,H',os,bare,un,hok,r,q⟩:=h;obtain⟨hh,g,d,t,os'⟩:=s'
 obtain rfl:os'=s.os:=os
 exact⟨v,H',I.call (h':=hh) (g':=g) (d':=d) (t':=t) (ch:=[]) un hok bare (λb z=>w9 z (by simp)),r,q⟩
end
def Ĥ(sp:Sp)(fH:List V)(E:XK)(t:TA):TE:=λU H Q=>t U H λvs H1=>sp (vs++fH) H1 Q E
def tM(K:A5)(fd:Gu)(ps:List Bf)(ds:List Aa):Prop:=∀(s:Ai) (us:List Aa),K.In s.heap->(us++ds).length=ps.length->Nd s fd ⟨us,[]⟩ (ps.zip (us++ds))
def tM.all{K:A5}{fd:Gu}{ps:List Bf}(h:∀us:List Aa,us.length=ps.length->Gk fd ⟨us,[]⟩=Cr (ps.zip us)):tM K fd ps []:=λs us _ hl=>by rw[Bx]at hl ⊢;exact .of_eq (h us hl)
def KH(CX:uE)(X:Cx)(E:XK):Prop:=∀(aa:f8) (U:St) (H:Hp) (s:Ai) (e:Aa) (s':Ai),a9 X aa U H s->CX X.stack H s E e s'->X.xe e s'
section
variable{X:Cx}{CX:uE}{k:Nat}{f C:Av}{fd:Gu}{ps:List Bf}{sp:Sp}{fH:List V}{ds:List Aa}{E:XK}{x m:Bf}{p pos df:Hq}{e o:Expr}{es:List Expr}{ta:TE}{t:TA}
theorem Ů(F:kJ X.prog X.w X.K X.mg X.base CX k f fd ps sp)(hr:d4 k X.A)(hb:tM X.K fd ps ds)(hd:Y7 fH ds)(hx:KH CX X E)(I:a9 X aa U H s)(r:Y7 vs us)(h:sp (vs++fH) H Q E):Ap (B0 X.prog X.w) X.A (call (.ref f) us) (EP X aa U Q) X.xe s:=by
 have r2:Y7 (vs++fH) (us++ds):=r.append hd
 have hl:(us++ds).length=ps.length:=by rw[<-r2.length];exact F.len _ _ _ _ h
 refine Nz (Kg (F.run X.A X.stack s H ⟨us,[]⟩ (us++ds) (vs++fH) Q E hr I.env0 (hb s us I.kIn hl) r2 h) λr s' hq=>?_)
 cases r with
 |error e=>exact hx aa U H s e s' I hq
 |ok fl=>
  cases fl with
  |ret u=>exact I.after hq
  |next=>exact Fw hq
  |brk=>exact Fw hq
  |cont=>exact Fw hq
def Rh(F:kJ X.prog X.w X.K X.mg X.base CX k f fd ps sp)(hr:d4 k X.A)(hg:Gl X x)(hm:X.mg x=some (.ref f))(hk:F8 X.K (.ref f)=true)(hb:tM X.K fd ps ds)(hd:Y7 fH ds)(hx:KH CX X E)(ha:PA X (e::es) t)(br:(x==("__debug__":Bf))=false:=by decide)(he:Ab (e::es) X.env=(false,Ce e X.env)::Ab es X.env:=by rfl)(af:(C8 pos (Ab es X.env)).any (·.1)=false:=by rfl):
  PE X (.Call (.Name x p) (e::es) [] pos) (Ĥ sp fH E t):=by
 intro aa s U H Q I h;refine Es (QU I hg hm ?_ br);refine PySem.W.callWith_K (h₀:=X.base) I.ok.mod.kin hk (jE (ha pos aa s U H _ I h) λus s1 vs H1 I1 r q=>⟨I1.kIn,?_⟩) he af;exact Ů F hr hb hd hx I1 r q
end
structure i7(N P:List Bf)(sc:Scope):Prop where
 kind:sc.kind = .function
 co:sc.isCoroutine=false
 gen:sc.isGenerator=false
 nd:N.Nodup
 pre:N.take P.length=P
 par:∀x∈P,sc.names.lookup x=some .local\/sc.names.lookup x=some .cell
 nofree:∀y∈sc.names,y.2≠.free
theorem OU{kindOf:Bf->Option Gv}{x:Bf}:∀{binds:List (Bf×Aa)} {m:Bf->Option Aa},(∀v,(x,v)∉binds)->O0 kindOf binds m x=m x
 | [],_,_=>rfl
 | (n,v)::r,m,h=>by
  unfold O0;rw[OU λw hw=>h w (A7 _ hw)];split
  .have:x≠n:=by rintro rfl;exact h v A6
   simp[this]
  .rfl
theorem OS{kindOf:Bf->Option Gv}{x:Bf}:∀{binds:List (Bf×Aa)} {m:Bf->Option Aa},(∀v,(x,v)∉binds)->O1 kindOf binds m x=m x
 | [],_,_=>rfl
 | (n,v)::r,m,h=>by
  unfold O1;rw[OS λw hw=>h w (A7 _ hw)];split
  .rfl
  .have:x≠n:=by rintro rfl;exact h v A6
   simp[this]
theorem OT{kindOf:Bf->Option Gv}{x:Bf}{v:Aa}:∀{P:List Bf} {vs:List Aa} {i:Nat} {m:Bf->Option Aa},P.Nodup->P[i]?=some x->vs[i]?=some v->kindOf x=some .local ->
  O0 kindOf (P.zip vs) m x=some v
 | [],_,_,_,_,h,_,_=>by simp at h
 |_::_,[],_,_,_,_,h,_=>by simp at h
 |p::P,w::vs,0,m,nd,h1,h2,hk=>by simp at h1 h2;subst h1;subst h2;show O0 kindOf ((p,w)::P.zip vs) m p=_;unfold O0;rw[OU λv hv=>(Bq.mp nd).1 (Hy hv).1,z7 hk];simp
 |p::P,w::vs,i+1,m,nd,h1,h2,hk=>by show O0 kindOf ((p,w)::P.zip vs) m x=_;unfold O0;exact OT (i:=i) (Bq.mp nd).2 (by simpa using h1) (by simpa using h2) hk
theorem OR{kindOf:Bf->Option Gv}{x:Bf}{v:Aa}:∀{P:List Bf} {vs:List Aa} {i:Nat} {m:Bf->Option Aa},P.Nodup->P[i]?=some x->vs[i]?=some v->kindOf x≠some .local ->
  O1 kindOf (P.zip vs) m x=some v
 | [],_,_,_,_,h,_,_=>by simp at h
 |_::_,[],_,_,_,_,h,_=>by simp at h
 |p::P,w::vs,0,m,nd,h1,h2,hk=>by simp at h1 h2;subst h1;subst h2;show O1 kindOf ((p,w)::P.zip vs) m p=_;unfold O1;rw[OS λv hv=>(Bq.mp nd).1 (Hy hv).1,y3 hk];simp
 |p::P,w::vs,i+1,m,nd,h1,h2,hk=>by show O1 kindOf ((p,w)::P.zip vs) m x=_;unfold O1;exact OR (i:=i) (Bq.mp nd).2 (by simpa using h1) (by simpa using h2) hk
def start(N:List Bf)(vs:List V):St:=vs.map some++Bh (N.length-vs.length) none
def nS(CX:uE)(P:Bw)(w:Cg)(K:A5)(mg:Bf->Option Aa)(base:Cf)(N:List Bf)(qual:Bf)(scope:Scope)(f:Av)(cd:Aa)(A:C1)(outer:List Nq)(s:Ai)(H:Hp)(E:XK):Cx where
 prog:=P
 w:=w
 K:=K
 mg:=mg
 base:=base
 A:=A.deeper (Jl qual scope s.heap.objs.size f cd)
 N:=N
 s₀:=s
 H₀:=H
 env:=Jl qual scope s.heap.objs.size f cd
 outer:=outer
 stack:=Jl qual scope s.heap.objs.size f cd::outer
 ex:=[]
 calm:=true
 fn:=λ_=>true
 pn:=[]
 xe:=λe s'=>Ap (B0 P w) (A.deeper (Jl qual scope s.heap.objs.size f cd)) (leaving (Jl qual scope s.heap.objs.size f cd) e) (λ_ bz=>CX outer H s E e bz) (λe' bz=>CX outer H s E e' bz) s'
def RJ{sc:Scope}(h:sc.names.lookup x=some .cell):∃c,(He n sc.names []).lookup x=some c:=by have q:=PySem.W.cellsFrom_some sc.names n [] (.inl h);exact Dj.mp q
def Yk{CX:uE}{P:Bw}{w:Cg}{K:A5}{mg:Bf->Option Aa}{base:Cf}{N ps:List Bf}{qual:Bf}{scope:Scope}{f:Av}{cd:Aa}{A:C1}{outer:List Nq}{s s1:Ai}{H:Hp}{E:XK}{us:List Aa}{vs:List V}(S:i7 N ps scope)(hd:A.handled=none)(e0:sO P w K mg base A outer s H)(hl:vs.length=ps.length)(r:Y7 vs us)(x:InCallC s s.heap.objs.size (O0 (Jl qual scope s.heap.objs.size f cd).kindOf (ps.zip us) λ_=>none) (He (s.heap.objs.size+1) scope.names []) (O1 (Jl qual scope s.heap.objs.size f cd).kindOf (ps.zip us) λ_=>none) s1):
  a9 (nS CX P w K mg base N qual scope f cd A outer s H E) [] (start N vs) H s1:=by
 have af:ps.length<=N.length:=by have:=lD Ih S.pre;rw[E9]at this;omega
 obtain⟨h1,tk,rfl,hk⟩:=x.done;have eX:∀b:Av,b∉(nS CX P w K mg base N qual scope f cd A outer s H E).ex:=λb z=>w9 (show b∈([]:List Av) from z) (by simp)
 refine⟨⟨e0.mod,S.kind,rfl,rfl,Aj _,λy z c h1 h2=>?_,λy hy=>?_,λy c _ h=>?_,λ_=>hd,C1.frames_deeper e0.frames,.inr ⟨rfl,rfl⟩,λb z=>w9 z (eX b),e0.bs,e0.bsz,λb _ _=>eX b,λb z=>w9 z (eX b),e0.funs,e0.frf⟩,
  rfl,e0.bare,Un.kept hk,⟨_,x.toInCall.ns,λi y v h1 h2 h3=>?_⟩,λy c h=>⟨_,x.cell y c h⟩,e0.hok.fresh (Aj _),λy c h=>?_,λp hp=>w9 (show p∈([]:f8) from hp) (by simp),e0.hok.kept hk,?_⟩
 .exact name_of_addr x.apart (Cc h1) (Cc h2)
 .have hy:scope.names.lookup y=some .cell\/scope.names.lookup y=some .free:=hy;rcases hy with hy|hy
  .exact RJ hy
  .exact w9 rfl (S.nofree _ (Cc hy))
 .exact D7 (x.above y c (Cc h))
 .have hi:i<vs.length:=by
   unfold start at h2;by_cases hi:i<vs.length
   .exact hi
   .rw[F9 (by simpa using hi)]at h2;rw[List.getElem?_replicate]at h2;split at h2<;>cases h2
  have ha:vs[i]?=some v:=by
   unfold start at h2;rw[Dg (by simpa using hi),Am]at h2
   cases e:vs[i]? with
   |none=>rw[e]at h2;cases h2
   |some a=>rw[e]at h2;cases h2;rfl
  obtain⟨u,hu,rv⟩:=r.get ha
  have hp:ps[i]?=some y:=by rw[<-S.pre,List.getElem?_take_of_lt (by omega)];exact h1
  have ndP:ps.Nodup:=by rw[<-S.pre];exact S.nd.sublist (L1 _ _)
  refine⟨u,rv,?_⟩;rcases S.par y (C5 hp) with k|k
  .exact .inl ⟨k,OT ndP hp hu k⟩
  .obtain⟨c,e⟩:=RJ (n:=s.heap.objs.size+1) k;refine .inr ⟨.inl k,c,e,?_⟩;have q:=x.cell y c e;rw[OR ndP hp hu (by show scope.names.lookup y≠_;rw[k];decide)]at q
   exact q
 .exact e0.hok.fresh (D7 (x.above y c (Cc h)))
 .unfold start;show _=N.length;rw[Ah,A0,Jj];omega
theorem Sm{K:A5}{dV kV ay pm ak ct oc:Aa}{an od:Option Av}{dN:Array (Option Aa)}{sp:Sp}(lk:K.lookup f=some ⟨oc,od,.func (Dx name qual params body scope dV kV ay pm an ak ct),dN⟩)(aT:Iu K ak qual=true)(S:i7 N ps scope)(len:∀vs H Q E,sp vs H Q E->vs.length=ps.length)
  (ap:∀(A:C1) (outer:List Nq) (s:Ai) (H:Hp) (vs:List V) (Q:VK) (E:XK),d4 k (A.deeper (Jl qual scope s.heap.objs.size f ak))->sp vs H Q E ->
   ∃t,m7 (nS CX P w K mg base N qual scope f ak A outer s H E) body t/\t { nx:=λ_ H'=>Q .non H',rt:=Q } (start N vs) H):
  kJ P w K mg base CX (k+1) f (Dx name qual params body scope dV kV ay pm an ak ct) ps sp:=by
 refine⟨len,λA outer s H args us vs Q E hr e0 hb r eE=>?_⟩;have hl:=len _ _ _ _ eE;have KX:K.In s.heap:=e0.mod.kin.keeps λb o e=>(e0.bs b o e).1;have lim:s.heap.NoLimit:=e0.mod.nolimit.keeps λb o e=>(e0.bs b o e).1
 have dB:∀y∈ps.zip us,scope.names.lookup y.1=some .local\/(scope.names.lookup y.1=some .cell/\((He (s.heap.objs.size+1) scope.names []).lookup y.1).isSome=true):=λ⟨n,v⟩ hy=>by
  rcases S.par n (Hy hy).1 with q|q
  .exact .inl q
  .exact .inr ⟨q,PySem.W.cellsFrom_some _ _ _ (.inl q)⟩
 refine codeAny_call_function hr.depth (KX _ _ lk) rfl S.co S.gen rfl (PySem.W.codeRec_of KX aT) (hb _ _ _ _ ?_);refine wpAny_newFunctionEnv_cells S.kind dB λenv he s1 x=>?_;subst he;refine⟨lim.keeps x.toInCall.keep,codeAny_func ?_⟩;obtain⟨t,ht,hq⟩:=ap A outer s H vs Q E (hr.deeper _) eE;have I:a9 (nS CX P w K mg base N qual scope f ak A outer s H E) [] (start N vs) H s1:=Yk S hr.hd e0 hl r x
 refine Cn (ht [] s1 (start N vs) H _ I hq) (λfl s' hs=>?_) λe s' hs=>hs
 have fin:∀{U':St} {H':Hp} {v:V} {u:Aa},a9 (nS CX P w K mg base N qual scope f ak A outer s H E) [] U' H' s'->e9 v u->Q v H'->CE outer P w H s Q u s':=λ{U' H' v u} J rv q=>⟨v,H',J.os,J.bare,J.base,J.hok,rv,q⟩
 cases fl with
 |ret u=>obtain⟨v,U',H',J,rv,q⟩:=hs;exact fin J rv q
 |next=>obtain⟨U',H',J,q⟩:=hs;exact fin (v:=V.non) (u:=Ca) J rfl q
 |brk=>obtain⟨_,_,_,q⟩:=hs;exact Fw q
 |cont=>obtain⟨_,_,_,q⟩:=hs;exact Fw q
section
variable{X:Cx}{x:Bf}{p pos:Hq}{e:Expr}{es:List Expr}{t:TA}{id T:String}{r:List V->Hp->VK->Prop}
def FR(r:List V->Hp->VK->Prop)(t:TA):TE:=λU H Q=>t U H λvs H1=>r vs H1 Q
def rO(hc:kT X (.builtin id) r)(hg:Gl X x)(hm:X.mg x=none)(hv:B5 x=some (.builtin id))(ha:PA X (e::es) t)(hn:x≠"__name__":=by decide)(br:(x==("__debug__":Bf))=false:=by decide)(he:Ab (e::es) X.env=(false,Ce e X.env)::Ab es X.env:=by rfl)(af:(C8 pos (Ab es X.env)).any (·.1)=false:=by rfl):PE X (.Call (.Name x p) (e::es) [] pos) (FR r t):=by intro aa s U H Q I h;refine Es (oE I hg hm hv ?_ hn br);exact PyProof.Rows.callWith_builtin1 (jE (ha pos aa s U H _ I h) λus s1 vs H1 I1 r1 q1=>hc aa s1 U H1 vs us Q I1 r1 q1) he af
def pK(hc:kT X (.type T) r)(hg:Gl X x)(hm:X.mg x=none)(hv:B5 x=some (.type T))(ha:PA X (e::es) t)(hn:x≠"__name__":=by decide)(br:(x==("__debug__":Bf))=false:=by decide)(he:Ab (e::es) X.env=(false,Ce e X.env)::Ab es X.env:=by rfl)(af:(C8 pos (Ab es X.env)).any (·.1)=false:=by rfl):PE X (.Call (.Name x p) (e::es) [] pos) (FR r t):=by intro aa s U H Q I h;refine Es (oE I hg hm hv ?_ hn br);exact Ee (jE (ha pos aa s U H _ I h) λus s1 vs H1 I1 r1 q1=>hc aa s1 U H1 vs us Q I1 r1 q1) he af
end
end L2
namespace HT
open PySem PyProof.Rows
def lexLt:List Int->List Int->Bool
 | [],[]=>false
 | [],_::_=>true
 |_::_,[]=>false
 |x::xs,y::ys=>if x=y then lexLt xs ys else decide (x<y)
def lexLt_cons(x y:Int)(xs ys:List Int):lexLt (x::xs) (y::ys)=if x=y then lexLt xs ys else decide (x<y):=rfl
def lexLt_nil_nil:lexLt [] []=false:=rfl
def Oi(y:Int)(ys:List Int):lexLt [] (y::ys)=true:=rfl
def Oh(x:Int)(xs:List Int):lexLt (x::xs) []=false:=rfl
def RM(A:C1)(s:Ai)(a:Int)(t:Tok)(c:Int)(u:Tok):∃e,N1 A s (.int a t) (.int c u) e/\(e=true↔a=c):=
 ⟨(a==c),N1.int_int a t c u,by simp⟩
def Xp(A:C1)(s:Ai)(a:Int)(t:Tok)(c:Int)(u:Tok)(prog:Bw)(w:Cg)(E:VP)(Q:VP)(h:Q (.bool (decide (a<c))) s):
  Ap (B0 prog w) A (Gd .Lt (.int a t) (.int c u)) Q E s:=
 (PyProof.Rows.lt_int h:Ap (B0 prog w) A (Da .Lt (.int a t) (.int c u)) Q E s)
section
open PySem.SeqAt
open PySem.AutoSeq1 (wpAny_loadPart')
open PySem.MeetsSeq PySem.MeetsSeq2 PySem.MeetsSeq3
def Wy(l b:Av)(items ao:Array Aa)(n n2:Nat)(dd cK:Option Av)(sl cO:Array (Option Aa))(ns ms:List Int)(hi:Ci items.toList ns)(hj:Ci ao.toList ms):
  O2 (Cl.«tuple.__lt__» ⟨[.ref l,.ref b],[]⟩)
   (λ_ R s=>s.heap.get? l=some { cls:=.type "tuple",dict:=dd,data:=.seq items n,slots:=sl }/\s.heap.get? b=some { cls:=.type "tuple",dict:=cK,data:=.seq ao n2,slots:=cO } /\
    R (.ok (.ret (.bool (lexLt ns ms)))) s):=
 .of_wp λprog w A R s h=>by
  obtain⟨hp,g,d,tk,os⟩:=s;obtain⟨hl,hb,h⟩:=h;have f2:=AutoSeq1.sub_tuple_tuple
  have z1:items.size=ns.length:=by rw[<-hi.length];simp
  have z2:ao.size=ms.length:=by rw[<-hj.length];simp
  wp_walk using Gm hl,Gm hb,G7 _ (λrest b s'=>b.1=none/\s'=⟨hp,g,d,tk,os⟩/\∃(vs ws:List Aa) (bK aQ:List Int),rest=vs.zip ws /\
   Ci vs bK/\Ci ws aQ/\bK.length+ao.size=aQ.length+items.size/\R (.ok (.ret (.bool (lexLt bK aQ)))) ⟨hp,g,d,tk,os⟩) _
  case turn=>
   rintro ⟨y,x⟩ rest b s' ⟨aI,rfl,vs,ws,bK,aQ,hz,gq,eS,ab,hR⟩
   cases gq with
   |nil=>rw[List.zip_nil_left]at hz;cases hz
   |cons a t hvi'=>
    cases eS with
    |nil=>rw[Kn]at hz;cases hz
    |cons c u hwi'=>
     rw[Et]at hz;injection hz with hyx bO;injection hyx with hy hx;subst hy hx;rw[lexLt_cons]at hR;simp only[As]at ab;obtain⟨e,he,dF⟩:=RM A.in1 ⟨hp,g,d,tk,os⟩ a t c u;refine A3 (he prog w _ _ ?_)
     cases e with
     |true=>
      rw[z7 (dF.mp rfl)]at hR
      wp_walk
      exact⟨rfl,rfl,_,_,_,_,bO,hvi',hwi',by omega,hR⟩
     |false=>
      rw[y3 (λq=>w9 (dF.mpr q) B3)]at hR;have hri:=Xp A.in1 ⟨hp,g,d,tk,os⟩ a t c u prog w
      wp_walk using hri
      exact⟨_,rfl,by simpa using hR⟩
  case fin=>
   rintro ⟨b1,b2⟩ s' ⟨aI,rfl,vs,ws,bK,aQ,hz,gq,eS,ab,hR⟩;simp only at aI;subst aI
   have hv:lexLt bK aQ=decide (items.size<ao.size):=by
    cases gq with
    |nil=>
     cases eS with
     |nil=>simp only[Dt]at ab;rw[lexLt_nil_nil];exact(Y1 (by omega)).symm
     |cons c u hw=>simp only[Dt,As]at ab;rw[Oi];exact(K9 (by omega)).symm
    |cons a t hv=>
     cases eS with
     |nil=>simp only[Dt,As]at ab;rw[Oh];exact(Y1 (by omega)).symm
     |cons c u hw=>rw[Et]at hz;cases hz
   rw[hv]at hR
   wp_walk
   exact⟨_,rfl,by simpa [Cl.Tuple.tupleCompareSizes] using hR⟩
  case h=>exact⟨rfl,rfl,items.toList,ao.toList,ns,ms,rfl,hi,hj,by omega,h⟩
end
section
variable{prog:Bw}{w:Cg}{A:C1}{E:VP}{s:Ai}
def lt_tupInts{Q:VP}(hl:Na s.heap l items)(hb:Na s.heap b ao)(hi:Ci items.toList ns)(hj:Ci ao.toList ms)(hu:A.units<D4)(h:Q (.bool (lexLt ns ms)) s):Ap (B0 prog w) A (Da .Lt (.ref l) (.ref b)) Q E s:=by
 obtain⟨⟨cls,dd,data,sl⟩,ho,hc,n,hd⟩:=id hl;obtain⟨⟨fm,cK,data2,cO⟩,cp,aX,n2,bB⟩:=id hb;simp only at hc hd aX bB;subst hc hd aX bB
 exact richCompare_meets_room (op:=.Lt) ⟨_,ho,rfl⟩ ⟨_,cp,rfl⟩ PySem.F.slot_tuple_lt PySem.F.entry_tuple_lt (PySem.F.args_tuple_lt_2 _ _) (Wy l b items ao n n2 dd cK sl cO ns ms hi hj)
  ⟨ho,cp,show N2 (lexLt ns ms)≠Js/\Q (.bool (lexLt ns ms)) s from ⟨(λx=>nomatch x),h⟩⟩ hu
def cat_tup{vs ws:List Aa}{Q:VP}(ht:Na s.heap t vs.toArray)(hb:Na s.heap b ws.toArray)(hv:vs≠[])(h1:ws=[]->Q (.ref t) s)(h2:ws≠[]->Q (.ref s.heap.objs.size) { s with heap:=s.heap.push { cls:=.type "tuple",data:=.seq (vs++ws).toArray } })(hsz:vs.length+ws.length<=sizeLine):Ap (B0 prog w) A (Hs .Add (.ref t) (.ref b)) Q E s:=by
 obtain⟨⟨cls,dd,data,sl⟩,ho,hc,n,hd⟩:=id ht;obtain⟨⟨fm,cK,data2,cO⟩,cp,aX,n2,bB⟩:=id hb;simp only at hc hd aX bB;subst hc hd aX bB
 have e:vs.toArray++ws.toArray=(vs++ws).toArray:=by simp
 by_cases hw:ws=[]
 .exact Lz ⟨_,ho,rfl⟩ ⟨_,cp,rfl⟩ Lo Mv Iv Ii (Ht _ _)
   (tuple_addW1 t b vs.toArray ws.toArray n n2 dd cK sl cO (by simpa using hv) (by simp[hw])) ⟨ho,cp,h1 hw⟩
 .refine Lz ⟨_,ho,rfl⟩ ⟨_,cp,rfl⟩ Lo Mv Iv Ii (Ht _ _)
   (tuple_addW2 t b vs.toArray ws.toArray n n2 dd cK sl cO (by simpa using hv) (by simpa using hw) (by rw[An,An];exact hsz)) ⟨ho,cp,?_⟩
  rw[e];exact h2 hw
def sIx(n d:Nat):Option Int->Nat
 |none=>d
 |some v=>if v<0 then (v+(n:Int)).toNat else Jq v.toNat n
def sIx_nat(n d k:Nat):sIx n d (some (k:Int))=Jq k n:=by show (if (k:Int)<0 then ((k:Int)+(n:Int)).toNat else Jq (k:Int).toNat n)=Jq k n;rw[y3 (by omega),Ay]
theorem ů(n d:Nat)(hd:d<=n)(o:Option Int):sIx n d o<=n:=by
 cases o with
 |none=>exact hd
 |some v=>
  show (if v<0 then (v+(n:Int)).toNat else Jq v.toNat n)<=n;by_cases hv:v<0
  .rw[z7 hv];omega
  .rw[y3 hv];exact Hf _ _
def QD(v:Int)(n d:Nat):(if v<0 then max (v+(n:Int)) 0 else Jq v (n:Int))=((sIx n d (some v):Nat):Int):=by
 show (if v<0 then max (v+(n:Int)) 0 else Jq v (n:Int))=(((if v<0 then (v+(n:Int)).toNat else Jq v.toNat n):Nat):Int);by_cases hv:v<0
 .simp only[if_pos hv];omega
 .simp only[if_neg hv];omega
def Zt(lo hi:Option Int)(n:Nat):Hk lo hi 1 (n:Int)=(((sIx n 0 lo:Nat):Int),((sIx n n hi:Nat):Int)):=by
 have h1:¬((1:Int)<0):=by omega
 unfold Hk;simp only[h1,if_false];refine O3 ?_ ?_
 .cases lo with
  |none=>rfl
  |some v=>exact QD v n 0
 .cases hi with
  |none=>rfl
  |some v=>exact QD v n n
def ą(i j:Nat):Fe (i:Int) (j:Int) 1=j-i:=by
 unfold Fe
 have h1:(1:Int)>0:=by omega
 simp only[h1,if_true,Int.ediv_one]
 split<;>omega
theorem Qc{Q:Option Int->Ai->Prop}(p:N5 v o)(h:Q o s):Ap (B0 prog w) A (Cl.Slice.slicePartIndex v) Q E s:=by
 cases p with
 |none=>exact slicePart_none h
 |int i t=>exact slicePart_int h
def UV{sl:Av}{vl vu:Aa}{lo hi:Option Int}{n:Nat}{Q:Int×Int×Nat->Ai->Prop}(hs:s.heap.IsSliceOf sl vl vu .none)(pl:N5 vl lo)(pu:N5 vu hi)(h:Q (((sIx n 0 lo:Nat):Int),1,sIx n n hi-sIx n 0 lo) s):Ap (B0 prog w) A (Cl.Slice.sliceApplied (.ref sl) (Cr (n:Int))) Q E s:=by
 obtain⟨os,iX,gp,fN⟩:=id hs;unfold Cl.Slice.sliceApplied Cl.Slice.sliceFields;refine A3 (A3 (Ij iX fN (x:=vl) rfl (A3 (Ij iX fN (x:=vu) rfl (A3 (Ij iX fN (x:=.none) rfl (w6 ?_)))))));refine A3 (slicePart_none ?_);show Ap _ _ (if ((1:Int)==0)=true then _ else _) _ _ s;rw[y3 (by decide)];refine A3 (Qc pl (A3 (Qc pu (A3 (w6 ?_)))))
 show Ap _ _ (match Hk lo hi 1 (n:Int) with|(lo,hi)=>Cr (lo,(1:Int),Fe lo hi 1)) _ _ s;rw[Zt lo hi n];show Ap _ _ (Cr (((sIx n 0 lo:Nat):Int),(1:Int),Fe ((sIx n 0 lo:Nat):Int) ((sIx n n hi:Nat):Int) 1)) _ _ s;rw[ą];exact w6 h
def Xh(xs:Array Aa)(i k:Nat):((A9 k).filterMap λ(m:Nat)=>xs[((i:Int)+(m:Int)*1).toNat]?).toArray=((xs.toList.drop i).take k).toArray:=by
 have e:(λ(m:Nat)=>xs[((i:Int)+(m:Int)*1).toNat]?)=λm=>xs[i+m]?:=by
  funext m
  have:((i:Int)+(m:Int)*1).toNat=i+m:=by omega
  rw[this]
 rw[e]
 have:=pick_run xs i k
 rw[List.filterMap_map]at this;have e2:((λx=>xs[x]?)∘λx=>i+x)=λm=>xs[i+m]?:=rfl;rw[e2]at this;rw[this]
def getItem_tuple_cut{t sl:Av}{items:Array Aa}{vl vu:Aa}{lo hi:Option Int}{Q:VP}(ht:Na s.heap t items)(hs:s.heap.IsSliceOf sl vl vu .none)(pl:N5 vl lo)(pu:N5 vu hi)(hw:¬(sIx items.size 0 lo=0/\sIx items.size items.size hi=items.size))(h:Q (.ref s.heap.objs.size) { s with heap:=s.heap.push { cls:=.type "tuple",data:=.seq ((items.toList.drop (sIx items.size 0 lo)).take (sIx items.size items.size hi-sIx items.size 0 lo)).toArray } })(hsz:items.size<=sizeLine):Ap (B0 prog w) A (M0 (.ref t) (.ref sl)) Q E s:=by
 have bA:sizeOk (.seq ((items.toList.drop (sIx items.size 0 lo)).take (sIx items.size items.size hi-sIx items.size 0 lo)).toArray):=by show ((items.toList.drop (sIx items.size 0 lo)).take (sIx items.size items.size hi-sIx items.size 0 lo)).toArray.size<=sizeLine;rw[An,E9,G8,Au];omega
 have hj:sIx items.size items.size hi<=items.size:=ů _ _ (Aj _) hi;obtain⟨os,iX,gp,fN⟩:=id hs;have hTs:s.TypeIs (.ref sl) "slice":=⟨os,iX,gp⟩;unfold M0
 try with_reducible refine Cp ?_
 first|refine A3 (w6 ?_)|skip
 refine A3 (wpAny_sequenceKey ht.typeIs (by decide) ?_)
 refine A3 (F0 (name:=Bt "__getitem__") ht.typeIs G5
  (Eu G5 ht.typeIs entry_tuple_getitem ?_ (args_tuple_getitem _ _)))
 show Ap _ _ (Cl.Tuple.tupleItemsOf (.ref t) >>= _) _ _ s;refine A3 (tupleItemsOf_ ht ?_);refine A3 (Iw hTs ?_);rw[z7 (by decide)];refine A3 (UV hs pl pu ?_)
 have bG:¬((((sIx items.size 0 lo:Nat):Int)==0&&(1:Int)==1&&(sIx items.size items.size hi-sIx items.size 0 lo)==items.size)=true):=by intro q;rw[Bi,Bi]at q;have q1:((sIx items.size 0 lo:Nat):Int)=0:=eq_of_beq q.1.1;have q2:sIx items.size items.size hi-sIx items.size 0 lo=items.size:=eq_of_beq q.2;exact hw ⟨by omega,by omega⟩
 show Ap _ _ (if (((sIx items.size 0 lo:Nat):Int)==0&&(1:Int)==1&&(sIx items.size items.size hi-sIx items.size 0 lo)==items.size)=true then _ else _) _ _ s;rw[y3 bG,Xh]
 first
  |exact A3 (m:=E4 _) (Cb (w6 ⟨_,rfl,w6 h⟩) bA)
  |exact A3 (m:=E4 _) (Cb (A3 (w6 (w6 ⟨_,rfl,w6 h⟩))) bA)
  |exact A3 (A3 (m:=E4 _) (Cb (w6 (w6 ⟨_,rfl,w6 h⟩)) bA))
  |exact A3 (A3 (m:=E4 _) (Cb (w6 ⟨_,rfl,w6 h⟩) bA))
end
end HT
namespace L2
open PySem PySem.Spec PyProof.Rows
abbrev TO:=St->Hp->(Option Int->Hp->Prop)->Prop
def PO(X:Cx)(e:Option Expr)(t:TO):Prop:=
 ∀(aa:f8) (s:Ai) (U:St) (H:Hp) (Q:Option Int->Hp->Prop),a9 X aa U H s->t U H Q ->
  Ap (B0 X.prog X.w) X.A (evalPart e X.env) (λu s'=>∃o H',a9 X aa U H' s'/\N5 u o/\Q o H') X.xe s
def ü:TO:=λ_ H Q=>Q none H
def ĩ(t:TE):TO:=λU H Q=>t U H λx H1=>∃i,x = .int i/\Q (some i) H1
theorem W4{ns:List Int}:∀{us:List Aa},Y7 (ns.map V.int) us->Ci us ns:=by
 induction ns with
 |nil=>intro us r;rw[Gg]at r;cases r;exact .nil
 |cons n ns ih=>
  intro us r;rw[Af]at r
  cases r with
  |cons r1 r2=>obtain⟨t,e⟩:=r1;subst e;exact .cons n t (ih r2)
section
variable{X:Cx}{e:Expr}{te:TE}{lo hi:Option Expr}{tl th:TO}{pos p2:Hq}
def ß:PO X none ü:=by intro aa s U H Q I h;rw[evalPart_none];exact w6 ⟨none,H,I,.none,h⟩
def à(h:PE X e te):PO X (some e) (ĩ te):=by intro aa s U H Q I hw;rw[evalPart_some];refine jE (h aa s U H _ I hw) λu s1 x H1 I1 r1 q1=>?_;obtain⟨i,rfl,q⟩:=q1;obtain⟨t,rfl⟩:=r1;exact⟨some i,H1,I1,.int i t,q⟩
def vV(X:Cx)(r:V->Option Int->Option Int->Hp->VK->Prop):Prop:=
 ∀(aa:f8) (s:Ai) (U:St) (H:Hp) (x:V) (v vl vu:Aa) (lo hi:Option Int) (sl:Av) (Q:VK),a9 X aa U H s->e9 x v->s.heap.IsSliceOf sl vl vu .none->N5 vl lo->N5 vu hi->r x lo hi H Q ->
  ∃T id,N6 (.type T) "__getitem__" = Cr (some (.builtin id))/\s.TypeIs v T/\Ap (B0 X.prog X.w) X.A (M0 v (.ref sl)) (EP X aa U Q) X.xe s
def vV.or(h:vV X r)(h':vV X r'):vV X (λx lo hi H Q=>r x lo hi H Q\/r' x lo hi H Q):=by
 intro aa s U H x v vl vu lo hi sl Q I rx hs pl pu q;rcases q with q|q
 .exact h aa s U H x v vl vu lo hi sl Q I rx hs pl pu q
 .exact h' aa s U H x v vl vu lo hi sl Q I rx hs pl pu q
def tSl(r:V->Option Int->Option Int->Hp->VK->Prop)(te:TE)(tl th:TO):TE:=λU H Q=>te U H λx H1=>tl U H1 λl H2=>th U H2 λu H3=>r x l u H3 Q
def Xg(hr:vV X r)(he:PE X e te)(hl:PO X lo tl)(hu:PO X hi th):PE X (.Subscript e (.Slice lo hi none p2) pos) (tSl r te tl th):=by
 intro aa s U H Q I h;refine O4 (jE (he aa s U H _ I h) λv s1 x H1 I1 r1 q1=>?_);refine wpAny_Slice (jE (hl aa s1 U H1 _ I1 q1) λvl s2 l H2 I2 pl q2=>jE (hu aa s2 U H2 _ I2 q2) λvu s3 u H3 I3 pu q3=>?_);rw[evalPart_none];refine w6 ?_;have I4:a9 X aa U H3 { s3 with heap:=s3.heap.push { cls:=.type "slice",data:=.fields #[vl,vu,.none] } }:=I3.kept (t':=s3.toks) λb ob q=>A8 _ q
 obtain⟨T,id,hT,ht,hg⟩:=hr aa { s3 with heap:=s3.heap.push { cls:=.type "slice",data:=.fields #[vl,vu,.none] } } U H3 x v vl vu l u s3.heap.objs.size Q I4 r1 (Cf.IsSliceOf.new ..) pl pu q3;show Ap (B0 X.prog X.w) X.A (Mw e (.Slice lo hi none p2) v (.ref s3.heap.objs.size)) (EP X aa U Q) X.xe { s3 with heap:=s3.heap.push { cls:=.type "slice",data:=.fields #[vl,vu,.none] } };exact tail_any (ops:=[.ref s3.heap.objs.size,v]) ht hT hg (by with_unfolding_all rfl)
def qU(xs:List V)(lo hi:Option Int):List V:=(xs.drop (HT.sIx xs.length 0 lo)).take (HT.sIx xs.length xs.length hi-HT.sIx xs.length 0 lo)
def Qm(xs:List V)(lo hi:Option Int):(qU xs lo hi).length<=xs.length:=by unfold qU;rw[E9,G8];omega
def Ε(K:A5):V->Option Int->Option Int->Hp->VK->Prop:=λx lo hi H Q=>∃a xs,x = .ref a/\i8 K H a xs /\
 ¬(HT.sIx xs.length 0 lo=0/\HT.sIx xs.length xs.length hi=xs.length)/\∀p,H p=none->Q (.ref p) (upd H p (.tup (qU xs lo hi)))
def Ų:vV X (Ε X.K):=by
 intro aa s U H x v vl vu lo hi sl Q I rx hs pl pu h;obtain⟨a,xs,rfl,hx,hw,q⟩:=h;cases rx;obtain⟨its,r,ht,hz⟩:=I.tuple hx
 have ab:its.toArray.size=xs.length:=by rw[An];exact r.length.symm
 refine⟨"tuple",_,G5.lookup,ht.typeIs,?_⟩;refine HT.getItem_tuple_cut ht hs pl pu (by rw[ab];exact hw) ?_ (by rw[ab];exact hz)
 rw[ab];refine⟨.ref s.heap.objs.size,_,I.laid (t':=s.toks) (o:=.tup (qU xs lo hi)) (λb ob q=>A8 _ q) (Aj _) ?_,rfl,q _ (I.hok.fresh (Aj _))⟩;exact⟨Bn (Qm xs lo hi) hz,_,(r.drop (HT.sIx xs.length 0 lo)).take (HT.sIx xs.length xs.length hi-HT.sIx xs.length 0 lo),pT.new _ _⟩
def Ux(K:A5):R2:=λx y H Q=>∃a b ns ms,x = .ref a/\y = .ref b/\i8 K H a (ns.map V.int)/\i8 K H b (ms.map V.int)/\Q (.bl (HT.lexLt ns ms)) H
def Ō(hu:X.A.units<D4):kH X (Da .Lt) (Ux X.K):=by intro aa s U H x y v u Q I rx ry h;obtain⟨a,b,ns,ms,rfl,rfl,ha,hb,q⟩:=h;cases rx;cases ry;obtain⟨its,r1,p1,_⟩:=I.tuple ha;obtain⟨aq,r2,p2,_⟩:=I.tuple hb;have i1:Ci its.toArray.toList ns:=W4 r1;have i2:Ci aq.toArray.toList ms:=W4 r2;exact HT.lt_tupInts p1 p2 i1 i2 hu ⟨.bl (HT.lexLt ns ms),H,I,rfl,q⟩
def v03(K:A5):R2:=λx y H Q=>∃a b xs ys,x = .ref a/\y = .ref b/\i8 K H a xs/\i8 K H b ys/\xs≠[]/\xs.length+ys.length<=sizeLine /\
 (ys=[]->Q (.ref a) H)/\(ys≠[]->∀p,H p=none->Q (.ref p) (upd H p (.tup (xs++ys))))
theorem Y7.nil_iff(r:Y7 xs us):us=[]↔xs=[]:=by
 cases r with
 |nil=>simp
 |cons _ _=>simp
def Ö:kH X (Hs .Add) (v03 X.K):=by
 intro aa s U H x y v u Q I rx ry h;obtain⟨a,b,xs,ys,rfl,rfl,ha,hb,hx,hz,q1,q2⟩:=h;cases rx;cases ry;obtain⟨its,r1,p1,_⟩:=I.tuple ha;obtain⟨aq,r2,p2,_⟩:=I.tuple hb;refine HT.cat_tup p1 p2 (λz=>hx (r1.nil_iff.mp z)) (λz=>⟨.ref a,H,I,rfl,q1 (r2.nil_iff.mp z)⟩) (λz=>?_) (by rw[<-r1.length,<-r2.length];exact hz)
 refine⟨.ref s.heap.objs.size,_,I.laid (t':=s.toks) (o:=.tup (xs++ys)) (λb ob q=>A8 _ q) (Aj _) ?_,rfl,q2 (λw=>z (r2.nil_iff.mpr w)) _ (I.hok.fresh (Aj _))⟩;exact⟨by rw[Ah];exact hz,_,r1.append r2,pT.new _ _⟩
end
def rC(n:Nat)(i:Int):Option Nat:=if 0<=i then (if i<n then some i.toNat else none) else if -(n:Int)<=i then some (i+n).toNat else none
def l6{α:Type}(xs:List α)(i:Int):Option α:=(rC xs.length i).bind λj=>xs[j]?
def É{j:Nat}(h:rC n i=some j):seqIndex? i n=some j/\j<n/\-(n:Int)<=i/\i<n:=by
 unfold rC at h;by_cases h0:0<=i
 .rw[z7 h0]at h;by_cases h1:i<n
  .rw[z7 h1]at h;have e:i.toNat=j:=Ba h;exact⟨by rw[seqIndex_of h0 h1,e],by omega,by omega,h1⟩
  .rw[y3 h1]at h;cases h
 .rw[y3 h0]at h;by_cases h1 : -(n:Int)<=i
  .rw[z7 h1]at h;have e:(i+n).toNat=j:=Ba h;exact⟨by rw[seqIndex_neg (by omega) h1,e],by omega,h1,by omega⟩
  .rw[y3 h1]at h;cases h
theorem IF{α:Type}{xs:List α}{i:Int}{v:α}(h:l6 xs i=some v):∃j,seqIndex? i xs.length=some j/\xs[j]?=some v/\j<xs.length/\-(xs.length:Int)<=i/\i<xs.length:=by
 unfold l6 at h
 cases e:rC xs.length i with
 |none=>rw[e]at h;cases h
 |some j=>rw[e]at h;obtain⟨h1,h2,h3,h4⟩:=É e;exact⟨j,h1,h,h2,h3,h4⟩
def DK(b:Expr):Prop:=∀o i,Me b false o i=operate [o,i] (M0 o i)
def sM(X:Cx)(r:R2):Prop:=
 ∀(value aL:Expr) (aa:f8) (s:Ai) (U:St) (H:Hp) (x y:V) (v u:Aa) (Q:VK),a9 X aa U H s->e9 x v->e9 y u->r x y H Q ->
  Me aL false v u=operate [v,u] (M0 v u)->Ap (B0 X.prog X.w) X.A (Mw value aL v u) (EP X aa U Q) X.xe s
def AZ(X:Cx)(id:String)(r:V->List V->Hp->VK->Prop):Prop:=
 ∀(aa:f8) (s:Ai) (U:St) (H:Hp) (x:V) (xs:List V) (v:Aa) (us:List Aa) (Q:VK),a9 X aa U H s->e9 x v->Y7 xs us->r x xs H Q ->
  Ap (B0 X.prog X.w) X.A (call (.builtin id) (v::us)) (EP X aa U Q) X.xe s
section
variable{X:Cx}{a b:Expr}{ta tb:TE}{pos:Hq}
def sM.or(h:sM X r)(h':sM X r'):sM X (λx y H Q=>r x y H Q\/r' x y H Q):=by
 intro value aL aa s U H x y v u Q I rx ry q hs;rcases q with q|q
 .exact h value aL aa s U H x y v u Q I rx ry q hs
 .exact h' value aL aa s U H x y v u Q I rx ry q hs
def SD(hr:sM X r)(ha:PE X a ta)(hb:PE X b tb)(hs:DK b):PE X (.Subscript a b pos) (xX r ta tb):=by intro aa s U H Q I h;exact O4 (MN ha hb I h λv u s2 x y H2 I2 rx ry q=>hr a b aa s2 U H2 x y v u Q I2 rx ry q (hs _ _))
def Uu(K:A5):R2:=λx y H Q=>∃p xs i v,x = .ref p/\y = .int i/\i5 K H p xs/\l6 xs i=some v/\Q v H
def Uw(K:A5):R2:=λx y H Q=>∃p xs i v,x = .ref p/\y = .int i/\i8 K H p xs/\l6 xs i=some v/\Q v H
def Uv:R2:=λx y H Q=>∃z i c,x = .str z/\y = .int i/\z.length<=sizeLine/\l6 z.cps.toList i=some c/\Q (.str ⟨#[c]⟩) H
def QQ:sM X (Uu X.K):=by
 intro value aL aa s U H x y v u Q I rx ry h hs;obtain⟨p,xs,i,z,rfl,rfl,hq,he,q⟩:=h;cases rx;obtain⟨t,rfl⟩:=ry;obtain⟨its,r,pl,hz⟩:=I.list hq;obtain⟨j,h1,h2,h3,h4,h5⟩:=IF he;obtain⟨w,ew,rw'⟩:=r.get h2;have hl:=r.length;have hn:=xC;have fin:EP X aa U Q w s:=⟨z,H,I,rw',q⟩;by_cases h0:0<=i
 .have hj:i.toNat=j:=by rw[seqIndex_of h0 h5]at h1;exact Ba h1
  exact item_listR pl.isList h0 (by omega) (by rw[hj];simpa using ew) fin hs
 .have hj:(i+(its.toArray.size:Int)).toNat=j:=by rw[seqIndex_neg (by omega) h4]at h1;rw[An,<-hl];exact Ba h1
  exact subscriptTail_builtinR (x:=w) pl.isList.typeIs slot_list_getitem.lookup
   (wpAny_getItem_list_neg (Q:=λr s'=>r=w/\EP X aa U Q r s') pl.isList (by omega) (by rw[An]<;>omega) (by omega) (by rw[hj];simpa using ew) ⟨rfl,fin⟩) hs
def Ľ:sM X (Uw X.K):=by
 intro value aL aa s U H x y v u Q I rx ry h hs;obtain⟨p,xs,i,z,rfl,rfl,hq,he,q⟩:=h;cases rx;obtain⟨t,rfl⟩:=ry;obtain⟨its,r,pl,hz⟩:=I.tuple hq;obtain⟨j,h1,h2,h3,h4,h5⟩:=IF he;obtain⟨w,ew,rw'⟩:=r.get h2;have hl:=r.length;have hn:=xC;have fin:EP X aa U Q w s:=⟨z,H,I,rw',q⟩
 exact subscriptTail_builtinR (x:=w) pl.typeIs slot_tuple_getitem.lookup
  (getItem_tuple (j:=j) (Q:=λr s'=>r=w/\EP X aa U Q r s') pl (by omega) (by omega) (by rw[An,<-hl];exact h1) (by simpa using ew) ⟨rfl,fin⟩) hs
def ļ:sM X Uv:=by
 intro value aL aa s U H x y v u Q I rx ry h hs;obtain⟨z,i,c,rfl,rfl,hz,he,q⟩:=h;obtain⟨t,rfl⟩:=rx;obtain⟨t',rfl⟩:=ry;obtain⟨j,h1,h2,h3,h4,h5⟩:=IF he
 have hl:z.cps.toList.length=z.length:=by simp[Bf.length]
 rw[hl]at h1 h4 h5;have hn:=xC
 exact tail_any (typeIs_str s z t) slot_str_getitem.lookup (getItem_str (c:=c) (by
  have e1:decide (i < -(2 ^ 63:Int))=false:=Y1 (by omega);have e2:decide (i>=2 ^ 63)=false:=Y1 (by omega)
  rw[e1,e2,Lg]) (by rw[h1];simpa using h2) ⟨.str ⟨#[c]⟩,H,I.tok _,⟨_,rfl⟩,q⟩) hs
def rIx(K:A5):R2:=λx y H Q=>Uu K x y H Q\/Uw K x y H Q\/Uv x y H Q
def Ļ:sM X (rIx X.K):=QQ.or (Ľ.or ļ)
def a9.lst(I:a9 X aa U H s)(h:H p=some (.lst xs)):
  ∃(its:List Aa) (n:Nat),Y7 xs its/\s.heap.get? p=some { cls:=.type "list",data:=.seq its.toArray n }/\xs.length<=sizeLine:=by
 obtain⟨z,its,n,r,e⟩:=I.hok p _ h;exact⟨its,n,r,e,z⟩
def V7(lo hi:Option Int)(n:Nat):(Ik lo hi none n).1=((HT.sIx n 0 lo:Nat):Int)/\(Ik lo hi none n).2.1=((HT.sIx n n hi:Nat):Int)/\(Ik lo hi none n).2.2=1:=by
 refine⟨?_,?_,rfl⟩
 .cases lo with
  |none=>simp[Ik,HT.sIx]
  |some i=>
   simp only[Ik,HT.sIx,Option.getD_none,show (1:Int)>0 by decide,if_true];by_cases h:i<0
   .simp only[h,if_true]<;>omega
   .simp only[h,if_false]<;>omega
 .cases hi with
  |none=>simp[Ik,HT.sIx]
  |some i=>
   simp only[Ik,HT.sIx,Option.getD_none,show (1:Int)>0 by decide,if_true];by_cases h:i<0
   .simp only[h,if_true]<;>omega
   .simp only[h,if_false]<;>omega
def Wv(its:List Aa)(lo hi:Option Int):slicePick its.toArray lo hi none=((its.drop (HT.sIx its.length 0 lo)).take (HT.sIx its.length its.length hi-HT.sIx its.length 0 lo)).toArray:=by obtain⟨h1,h2,h3⟩:=V7 lo hi its.toArray.size;unfold slicePick;rw[h1,h2,h3];simp only[sliceRange_one,pick_run,An]<;>rfl
def Δ(K:A5):V->Option Int->Option Int->Hp->VK->Prop:=λx lo hi H Q=>∃a xs,x = .ref a/\i5 K H a xs/\∀p,H p=none->Q (.ref p) (upd H p (.lst (qU xs lo hi)))
def ø:vV X (Δ X.K):=by
 intro aa s U H x v vl vu lo hi sl Q I rx hs pl pu h;obtain⟨a,xs,rfl,hx,q⟩:=h;cases rx;obtain⟨its,r,ht,hz⟩:=I.list hx;have ab:=r.length;refine⟨"list",_,slot_list_getitem.lookup,ht.isList.typeIs,?_⟩;refine wpAny_getItem_list_slice ht.isList hs pl pu .none (by simp) ?_ (by rw[An]<;>omega)
 rw[Wv,<-ab];refine⟨.ref s.heap.objs.size,_,I.laid (t':=s.toks) (o:=.lst (qU xs lo hi)) (λb ob q=>A8 _ q) (Aj _) ?_,rfl,q _ (I.hok.fresh (Aj _))⟩;exact⟨Bn (Qm xs lo hi) hz,_,0,(r.drop (HT.sIx xs.length 0 lo)).take (HT.sIx xs.length xs.length hi-HT.sIx xs.length 0 lo),Ar _ rfl⟩
def VJ:kT X (.builtin "len") (λxs H Q=>∃p ys,xs=[.ref p]/\(i5 X.K H p ys\/i8 X.K H p ys)/\Q (.int ys.length) H):=by
 intro aa s U H xs us Q I r h;obtain⟨p,ys,rfl,hq,q⟩:=h;obtain⟨u,rfl,rx⟩:=l9 r;cases rx;have hn:=xC;rcases hq with hq|hq
 .obtain⟨its,r',pl,hz⟩:=I.list hq;have ab:=r'.length;exact Calls.call_len_list pl.isList (by simp only[An]<;>omega) ⟨.int ys.length,H,I.tok _,⟨s.toks+1,by rw[An,ab]⟩,q⟩
 .obtain⟨its,r',pl,hz⟩:=I.tuple hq;have ab:=r'.length;exact len_tuple pl (by simp only[An]<;>omega) ⟨.int ys.length,H,I.tok _,⟨s.toks+1,by rw[An,ab]⟩,q⟩
def kT.or(h:kT X f r)(h':kT X f r'):kT X f (λxs H Q=>r xs H Q\/r' xs H Q):=by
 intro aa s U H xs us Q I rs q;rcases q with q|q
 .exact h aa s U H xs us Q I rs q
 .exact h' aa s U H xs us Q I rs q
def Wk:kT X (.type "tuple") (λxs H Q=>∃p ys,xs=[.ref p]/\((i5 X.K H p ys/\∀l,H l=none->Q (.ref l) (upd H l (.tup ys)))\/(i8 X.K H p ys/\Q (.ref p) H))):=by
 intro aa s U H xs us Q I r h;obtain⟨p,ys,rfl,h⟩:=h;obtain⟨u,rfl,rx⟩:=l9 r;cases rx;rcases h with⟨hq,q⟩|⟨hq,q⟩
 .obtain⟨its,r',pl,hz⟩:=I.list hq;have ab:=r'.length;refine call_tuple_list pl.isList (λh' kp=>?_) (by simp only[An]<;>omega)
  have I1:a9 X aa U H { s with heap:=h' }:=I.kept (t':=s.toks) kp
  have I2:a9 X aa U (upd H h'.objs.size (.tup ys)) { s with heap:=h'.push { cls:=.type "tuple",data:=.seq its.toArray } }:=I1.laid (t':=s.toks) (λb o e=>A8 _ e) (Aj _) (show kU X.prog X.w _ _ _ (.tup ys) from ⟨hz,its,r',pT.new _ _⟩)
  exact⟨.ref h'.objs.size,_,I2,rfl,q _ (I1.hok.fresh (Aj _))⟩
 .obtain⟨its,r',pl,hz⟩:=I.tuple hq;exact call_tuple_same pl ⟨.ref p,H,I,rfl,q⟩
def MX(K:A5)(T:String)(x:V)(H:Hp):Prop:=match x with
 | .str _=>T = "str"
 | .int _=>T = "int"
 | .ref p=>(T = "list"/\∃xs,i5 K H p xs)\/(T = "tuple"/\∃xs,i8 K H p xs) \/
   (T = "dict"/\((∃kvs,H p=some (.dK kvs))\/∃kvs,H p=some (.dT kvs)))\/(T = "set"/\∃S n,H p=some (.set S n))
 |_=>False
theorem T8(I:a9 X aa U H s)(r:e9 x v)(ty:MX X.K T x H):
  s.TypeIs v T/\∀a,v = .ref a->∃ob,s.heap.get? a=some ob/\ob.dict=none:=by
 cases x with
 |str z=>obtain⟨t,rfl⟩:=r;cases (show T = "str" from ty);exact⟨typeIs_str s z t,λ_ e=>nomatch e⟩
 |int i=>obtain⟨t,rfl⟩:=r;cases (show T = "int" from ty);exact⟨typeIs_int s i t,λ_ e=>nomatch e⟩
 |ref p=>
  cases r;rcases ty with⟨rfl,xs,hq⟩|⟨rfl,xs,hq⟩|⟨rfl,hk⟩|⟨rfl,S,n,hk⟩
  .obtain⟨its,_,pl,_⟩:=I.list hq;refine⟨pl.isList.typeIs,λa e=>?_⟩;cases e;obtain⟨o,n,e,c,hd,_⟩:=pl;exact⟨o,e,hd⟩
  .obtain⟨o,e0,hc,hd⟩:=I.tupleP hq;refine⟨⟨o,e0,hc⟩,λa e=>?_⟩;cases e;exact⟨o,e0,hd⟩
  .have z:∃o,s.heap.get? p=some o/\o.ExactDict:=by
    rcases hk with⟨kvs,hk⟩|⟨kvs,hk⟩
    .obtain⟨_,_,_,_,o,_,_,e,ex,_⟩:=I.hok p _ hk;exact⟨o,e,ex⟩
    .obtain⟨_,_,_,_,o,_,_,e,ex,_⟩:=I.hok p _ hk;exact⟨o,e,ex⟩
   obtain⟨o,e,ex⟩:=z;refine⟨⟨o,e,ex.1⟩,λa e2=>?_⟩;cases e2;exact⟨o,e,ex.2.1⟩
  .obtain⟨o,_,_,_,e,ex,_⟩:=I.hok p _ hk;refine⟨⟨o,e,ex.1⟩,λa e2=>?_⟩;cases e2;exact⟨o,e,ex.2.1⟩
 |_=>exact Fw ty
def Ι(K:A5)(T:String)(r:V->List V->Hp->VK->Prop)(to:TE):TE:=λU H Q=>to U H λx H1=>MX K T x H1/\r x [] H1 Q
def tBM(K:A5)(T:String)(r:V->List V->Hp->VK->Prop)(to:TE)(t:TA):TE:=λU H Q=>to U H λx H1=>MX K T x H1/\t U H1 λxs H2=>r x xs H2 Q
variable{o e:Expr}{es:List Expr}{to:TE}{t:TA}{name:Bf}{df bU:Hq}{T id:String}{r:V->List V->Hp->VK->Prop}
def œ(pa:PlainAttrs T)(slot:Slot T name id)(hty:typeOf (.builtin id)=Cr (.type "method_descriptor"))(hm:AZ X id r)(ho:PE X o to)(aG:Fx o name X.env (Ce o X.env)=Ce o X.env:=by rfl)(aE:(df.endLine==bU.line)=true:=by rfl):PE X (.Call (.Attribute o name df) [] [] bU) (Ι X.K T r to):=by intro aa s U H Q I h;refine wpAny_Call_method0_late aG aE (jE (ho aa s U H _ I h) λv s1 x H1 I1 r1 ⟨ty,q1⟩=>?_);obtain⟨h1,h2⟩:=T8 I1 r1 ty;exact⟨T,id,pa,slot,hty,h1,h2,Calls.callWith_builtin rfl (PySem.evalArgs_none (hm aa s1 U H1 x [] v [] Q I1 r1 .nil q1))⟩
def AI(pa:PlainAttrs T)(slot:Slot T name id)(hty:typeOf (.builtin id)=Cr (.type "method_descriptor"))(hm:AZ X id r)(ho:PE X o to)(ha:PA X (e::es) t)(aG:Fx o name X.env (Ce o X.env)=Ce o X.env:=by rfl)
  (bC:((C8 bU (Ab (e::es) X.env)).all (λx=>!x.1)&&(Mf bU (Jt [] X.env)).all (λx=>x.1.isSome)
   && decide ((e::es).length+([]:List Ix).length+(if ([]:List Ix).isEmpty then 0 else 1)<30))=true:=by rfl)
  (aE:(df.endLine==bU.line)=true:=by rfl) (hs:Ab (e::es) X.env=(false,Ce e X.env)::Ab es X.env:=by rfl) (aF:(C8 bU (Ab es X.env)).any (·.1)=false:=by rfl):
  PE X (.Call (.Attribute o name df) (e::es) [] bU) (tBM X.K T r to t):=by
 intro aa s U H Q I h;refine wpAny_Call_method_late aG bC aE rfl (jE (ho aa s U H _ I h) λv s1 x H1 I1 r1 ⟨ty,q1⟩=>?_);obtain⟨h1,h2⟩:=T8 I1 r1 ty;refine⟨T,id,pa,slot,hty,h1,h2,?_⟩;have hA:=ha bU aa s1 U H1 _ I1 q1;rw[hs]at hA ⊢;refine Calls.callWith_builtin (by show (false||(C8 bU (Ab es X.env)).any (·.1))=false;rw[aF]<;>rfl) (Calls.evalArgs_plain ?_)
 exact kQ hA λus s2 ⟨vs,H2,I2,r2,q2⟩=>hm aa s2 U H2 x vs v us Q I2 r1 r2 q2
end
def UL(X:Cx)(id:String)(r:V->List V->Hp->VK->Prop):Prop:=
 ∀(aa:f8) (s:Ai) (U:St) (H:Hp) (x:V) (xs:List V) (v:Aa) (us:List Aa) (Q:VK),a9 X aa U H s->e9 x v->Y7 xs us->r x xs H Q ->
  Ap (B0 X.prog X.w) X.A (call (.builtin id) (v::us)) (EP X aa U Q) X.xe s
theorem Y7.one:∀{x:V} {us:List Aa},Y7 [x] us->∃u,us=[u]/\e9 x u
 |_,_,.cons r .nil=>⟨_,rfl,r⟩
theorem Y7.two:∀{x y:V} {us:List Aa},Y7 [x,y] us->∃u v,us=[u,v]/\e9 x u/\e9 y v
 |_,_,_,.cons r (.cons q .nil)=>⟨_,_,rfl,r,q⟩
theorem Y7.zero:∀{us:List Aa},Y7 [] us->us=[]
 |_,.nil=>rfl
theorem Y7.rep(h:Y7 xs us):∀k:Nat,Y7 (Bh k xs).flatten (Bh k us).flatten
 | 0=>.nil
 |k+1=>by rw[Ek,Ek,Fn,Fn];exact Y7.append h (Y7.rep h k)
theorem Pd(its:List Aa):∀(k:Nat) (acc:List Aa),
  N7 (λx1 x2=>x1++x2) acc.toArray (Bh k its.toArray)=(acc++(Bh k its).flatten).toArray
 | 0,acc=>by simp
 |k+1,acc=>by
  have e:acc.toArray++its.toArray=(acc++its).toArray:=by simp
  have e2:(acc++its)++(Bh k its).flatten=acc++(Bh (k+1) its).flatten:=by rw[Ek,Fn,Co]
  rw[<-e2,<-Pd its k (acc++its),<-e,Ek,Fh]
section
variable{X:Cx}{aa:f8}{U:St}{H:Hp}{s:Ai}{l b:Av}{xs ys zs:List V}
def a9.lset{its its':List Aa}{f:Array Aa->Array Aa}{t':Nat}(I:a9 X aa U H s)(hH:H l=some (.lst xs))(e:s.heap.get? l=some { cls:=.type "list",data:=.seq its.toArray n })(hf:f its.toArray=its'.toArray)(hv:Y7 ys its')(hz:ys.length<=sizeLine):
  a9 X aa U (upd H l (.lst ys)) { s with heap:=s.heap.update l (Ct f),toks:=t' }:=by
 have q:=PySem.IsL.update e f;rw[hf]at q;refine I.write (x:=l) (e:=l) (by rw[hH];exact trivial) (.inl rfl) (λb' u hb hu=>(Bo s.heap (Ct f) (Ch hb)).trans hu) ⟨_,q⟩ ?_
 exact⟨hz,its',_,hv,q⟩
def a9.lnew{t':Nat}(I:a9 X aa U H s)(hv:Y7 ys its)(hz:ys.length<=sizeLine):
  a9 X aa U (upd H s.heap.objs.size (.lst ys)) { s with heap:=s.heap.push { cls:=.type "list",data:=.seq its.toArray },toks:=t' }:=
 I.laid (λ_ _ q=>A8 _ q) (Aj _) ⟨hz,its,0,hv,Ar _ rfl⟩
def a9.fresh(I:a9 X aa U H s):H s.heap.objs.size=none:=I.hok.fresh (Aj _)
def a9.lstM(I:a9 X aa U H s)(hH:H l=some (.lst xs)):xs.length<=sizeLine/\∃(its:List Aa) (n:Nat),Y7 xs its/\xs.length=its.length/\s.heap.get? l=some { cls:=.type "list",data:=.seq its.toArray n }:=by obtain⟨z,its,n,r,e⟩:=I.hok l _ hH;exact⟨z,its,n,r,r.length,e⟩
def ϰ{n:Nat}(h:n<=sizeLine):Hu n=false:=by unfold Hu;exact Y1 (by omega)
end
section
variable{X:Cx}
def å:V->List V->Hp->VK->Prop:=λx vs H Q=>∃l xs y,x = .ref l/\vs=[y]/\H l=some (.lst xs)/\xs.length<sizeLine/\Q .non (upd H l (.lst (xs++[y])))
def KF:UL X "list.append" å:=by
 intro aa s U H x vs v us Q I rx rv h;obtain⟨l,xs,y,rfl,rfl,hH,hz,q⟩:=h;cases rx;obtain⟨u,rfl,ru⟩:=rv.one;obtain⟨z,its,n,r,hl,e⟩:=I.lstM hH;refine Ko F.slot_list_append ⟨_,e,rfl⟩ F.entry_list_append (F.args_list_append_2 _ _) (PySem.list_append l its.toArray n u (by rw[An];omega)) ⟨e,?_⟩
 refine⟨.non,_,I.lset (its':=its++[u]) hH e (by simp) (r.append (.cons ru .nil)) ?_,rfl,q⟩;rw[Ah,Bb];omega
def æ:V->List V->Hp->VK->Prop:=λx vs H Q=>∃l b xs zs,x = .ref l/\vs=[.ref b]/\H l=some (.lst xs)/\H b=some (.lst zs)/\xs.length+zs.length<=sizeLine/\Q .non (upd H l (.lst (xs++zs)))
def Yv:UL X "list.extend" æ:=by
 intro aa s U H x vs v us Q I rx rv h;obtain⟨l,b,xs,zs,rfl,rfl,hH,hB,hz,q⟩:=h;cases rx;obtain⟨u,rfl,ru⟩:=rv.one;cases ru;obtain⟨z,its,n,r,hl,e⟩:=I.lstM hH;obtain⟨z2,aq,n2,r2,fO,e2⟩:=I.lstM hB
 have hsz:its.toArray.size+aq.toArray.size<=sizeLine:=by rw[An,An];omega
 have iZ:¬(!its.toArray.isEmpty&&Hu (its.toArray.size+aq.toArray.size))=true:=by rw[ϰ hsz,Bool.and_false];exact B3
 refine Ko F.slot_list_extend ⟨_,e,rfl⟩ F.entry_list_extend (F.args_list_extend_2 _ _)
  (AutoSeq1.list_extend_list_list_0 l its.toArray n b aq.toArray n2 iZ (by rw[An];omega) (by omega)) ⟨e,e2,?_⟩
 refine⟨.non,_,I.lset (its':=its++aq) hH e (by simp) (r.append r2) ?_,rfl,q⟩;rw[Ah];omega
theorem Ë{α:Type}(xs:List α)(k:Nat):(Bh k xs).flatten.length=k*xs.length:=by
 induction k with
 |zero=>simp
 |succ k ih=>rw[Ek,Fn,Ah,ih,Nat.succ_mul,Nat.add_comm]
end
end L2
namespace Att
open PySem PySem.W PySem.Calls PyProof.Rows
theorem WS:∀(ns:List Int) (vs:List Aa),WellAll P h vs (ns.map WData.int)->Ci vs ns:=by
 intro ns
 induction ns with
 |nil=>intro vs w;rw[Gg]at w;cases w;exact .nil
 |cons n ns ih=>
  intro vs w;rw[Af]at w
  cases w with
  |cons a b=>cases a;exact .cons _ _ (ih _ b)
theorem YT{l:OpenLaw}{n:Nat}(hn:l.most=some n)(eN:l.row.toRowW.claim.pre args=true)(hwl:WellAll P h iT args):
  ∃a vs ns,iT=[D3 a]/\args=[WData.list (ns.map WData.int)]/\h.get? a=some { cls:=.type "list",data:=.seq vs.toArray }/\Ci vs ns/\ns.length<=n:=by
 have hsh:WShape.hasAll [] args [.list .int]=true:=(pre_splitW eN).1;have hc:l.pre.holds [] { args:=args }=true:=(pre_splitW eN).2;obtain⟨d,r,rfl,h1,h2⟩:=hasAllW_cons hsh
 obtain rfl:=hasAllW_nil h2
 obtain⟨xs,rfl,h3⟩:=hasW_list h1;obtain⟨ns,rfl⟩:=items_int h3
 have ab:ns.length<=n:=by
  unfold OpenLaw.pre at hc
  have h4:(WTm.not (.lt (.lit (.int (n:Int))) (.len (.arg 0)))).holds [] { args:=[.list (ns.map .int)] }=true:=by have h4:=(holds_andW hc).1;rw[hn]at h4;exact h4
  have h5:=condW_of h4 (w_not (w_lt w_lit (w_len_list (w_arg rfl))));rw[A0]at h5;refine Nat.le_of_not_lt λq=>?_
  have q':(n:Int)<((ns.length:Nat):Int):=by omega
  first
   | (rw[K9 q']at h5;exact w9 h5 (by decide))
   | (simp at h5;omega)
 cases hwl with
 |cons w1 w2=>
  cases w2
  cases w1 with
  |list ho bv=>exact⟨_,_,ns,rfl,rfl,ho,WS ns _ bv,ab⟩
def YJ(l:OpenLaw)(args:List WData):l.row.toRowW.claim.post args (.bool true) args=true:=
 postW_of (r:=l.row.toRowW) (X:=(true==true))
  (show WShape.has [] (.bool true) .bool=true by first|rfl|decide|simp[WShape.has,WShape.arms,WShape.armsAll])
  (show (WTm.eq .res (.lit (.bool true))).value [] { args:=args,res:=some (.bool true),after:=args }=some (.bool (true==true)) from w_eq_bool (w_res rfl) w_lit) rfl
def attach_call{l:OpenLaw}{n:Nat}{YP:Cg->Cf->Prop}{d:DefRec}(hn:l.most=some n)(iU:d.params.defaults=[])
  (call:∀(w:Cg) (s₀ s₁:Ai) (mg mb:Bf->Option Aa) (fa:Av) (o:Jy) (pm cd ay:Aa) (a:Av) (vs:List Aa) (ns:List Int),
   Ground q loose [] XP w s₀ mg mb s₁.heap->YP w s₁.heap ->
   s₁.heap.get? fa=some o->o.data = .func (docDef d.name d.params d.body d.scope pm cd ay)->s₁.heap.CodeRec cd d.name->mg d.name=some (.ref fa) ->
   s₁.heap.get? a=some { cls:=.type "list",data:=.seq vs.toArray }->Ci vs ns->ns.length<=n->s₁.gens = #[] ->
   Ew (B0 l.prog w) Mn (.call (.ref fa) ⟨[.ref a],[]⟩) (λr s'=>r = .ok (.ret (.bool true))/\OldK s₁.heap s'.heap/\s'.os=s₁.os/\Kf s'.gens) s₁):
  WalkO q loose XP YP l.row.toRowW d [] (λf vs=>O5 f vs):=by
 intro w s₀ s₁ mg mb G ya fa o pm cd ay dV kV ho hd aT hD iO hg args iT as eN hlay hrd hwl hlo
 obtain rfl:dV = .none:=Dflts.none hD iU
 obtain rfl:kV = .none:=Dflts.noKw hD
 obtain⟨a,vs,ns,rfl,rfl,gf,dO,ab⟩:=YT hn eN hwl;refine enter_call (Kg (call w s₀ s₁ mg mb fa o pm cd ay a vs ns G ya ho (fd_plain hd) aT iO gf dO ab hg) λr s' hq=>?_);obtain⟨rfl,h2,h3,h4⟩:=hq;exact⟨.inl ⟨.bool true,.bool true,[],rfl,λ_=>rfl,.bool true,YJ l _,λ_=>⟨Eg,λ_ hm=>(nomatch hm)⟩⟩,h2,h3,h4⟩
end Att
namespace L2
open PySem PySem.Spec PyProof.Rows
theorem PF:∀{vs:List Aa} {ns:List Int},Ci vs ns->Y7 (ns.map V.int) vs
 |_,_,.nil=>.nil
 |_,_,.cons n t h=>.cons ⟨t,rfl⟩ (PF h)
def o5(s:Do):Mo:=match s with
 | .FunctionDef _ a _ _ _ _ _ _ _ _=>a
 |_=>{ posonlyargs:=[],args:=[],vararg:=none,kwonlyargs:=[],kw_defaults:=[],kwarg:=none,defaults:=[] }
def lX(s:Do):List Do:=match s with
 | .FunctionDef _ _ b _ _ _ _ _ _ _=>b
 |_=>[]
def v7(s:Do):Scope:=match s with
 | .FunctionDef _ _ _ _ _ _ sc _ _ _=>sc
 |_=>{ kind:=.function,names:=[],isGenerator:=false,isCoroutine:=false }
abbrev lY:uE:=λ_ _ _ _ _ _=>False
abbrev E0:XK:=λ_ _ _=>False
def SC:KH lY X E0:=λ_ _ _ _ _ _ _ h=>h.elim
structure rE(K:A5)(x qual:Bf)(st:Do)(f:Av)(fd:Gu):Prop where
 ex:∃(oc:Aa) (od:Option Av) (kV ay pm:Aa) (an:Option Av) (ak ct:Aa) (dN:Array (Option Aa)),
  fd=Dx x qual (o5 st) (lX st) (v7 st) .none kV ay pm an ak ct/\K.lookup f=some ⟨oc,od,.func fd,dN⟩/\Iu K ak qual=true
 kp:F8 K (.ref f)=true
section
variable{P:Bw}{w:Cg}{K:A5}{mg:Bf->Option Aa}{base:Cf}
def rE.ok{x qual:Bf}{st:Do}{f:Av}{fd:Gu}{N ps:List Bf}{k:Nat}{sp:Sp}(F:rE K x qual st f fd)(S:i7 N ps (v7 st))(len:∀vs H Q E,sp vs H Q E->vs.length=ps.length)
  (ap:∀(ak:Aa) (A:C1) (outer:List Nq) (s:Ai) (H:Hp) (vs:List V) (Q:VK) (E:XK),d4 k (A.deeper (Jl qual (v7 st) s.heap.objs.size f ak))->sp vs H Q E ->
   ∃t,m7 (nS lY P w K mg base N qual (v7 st) f ak A outer s H E).nox (lX st) t/\t { nx:=λ_ H'=>Q .non H',rt:=Q } (start N vs) H):kJ P w K mg base lY (k+1) f fd ps sp:=by
 obtain⟨oc,od,kV,ay,pm,an,ak,ct,dN,rfl,lk,aT⟩:=F.ex;refine Sm lk aT S len λA outer s H vs Q E hr eE=>?_;obtain⟨t,h,q⟩:=ap ak A outer s H vs Q E hr eE;exact⟨t,h.nox,q⟩
def rE.binds{x qual:Bf}{st:Do}{f:Av}{fd:Gu}{ps:List Bf}(F:rE K x qual st f fd)(h:∀(kV ay pm:Aa) (an:Option Av) (ak ct:Aa) (us:List Aa),us.length=ps.length->Gk (Dx x qual (o5 st) (lX st) (v7 st) .none kV ay pm an ak ct) ⟨us,[]⟩=Cr (ps.zip us)):tM K fd ps []:=by obtain⟨oc,od,kV,ay,pm,an,ak,ct,dN,rfl,lk,aT⟩:=F.ex;exact .all (h kV ay pm an ak ct)
def Tg{x qual:Bf}{st:Do}{f:Av}{oc:Aa}{od an:Option Av}{dN:Array (Option Aa)}{kV ay pm ak ct:Aa}(l:K.lookup f=some ⟨oc,od,.func (Dx x qual (o5 st) (lX st) (v7 st) .none kV ay pm an ak ct),dN⟩)(c:Iu K ak qual=true)(k:F8 K (.ref f)=true):rE K x qual st f (Dx x qual (o5 st) (lX st) (v7 st) .none kV ay pm an ak ct):=⟨⟨oc,od,kV,ay,pm,an,ak,ct,dN,rfl,l,c⟩,k⟩
end
section
variable{X:Cx}
def pv(i:Nat){x:Bf}(hN:X.N[i]?=some x:=by rfl)(hv:mS X.env.scope x:=by first|exact E8 rfl|exact Db (E8 rfl)|exact Db (Db rfl))(hd:(x==("__debug__":Bf))=false:=by decide)(aT:(x==("__classdict__":Bf))=false:=by decide):PE X (.Name x pos) (FH i):=nN hN hv hd aT
end
def t9{A B:Prop}(h:B):if false=true then A else B:=by rw[y3 B3];exact h
def uA{A B:Prop}(h:A):if true=true then A else B:=by rw[z7 rfl];exact h
def j8(H H':Hp):Prop:=∀b o,H b=some o->H' b=some o
def j8.refl(H:Hp):j8 H H:=λ_ _ h=>h
def j8.trans(a:j8 H H1)(b:j8 H1 H2):j8 H H2:=λc o h=>b c o (a c o h)
theorem j8.free(e:j8 H H')(h:H' l=Option.none):H l=Option.none:=by
 cases q:H l with
 |none=>rfl
 |some o=>rw[e l o q]at h;cases h
def j8.seq{K:A5}{H H':Hp}{a:Av}{xs:List V}(e:j8 H H')(h:i5 K H a xs):i5 K H' a xs:=by
 rcases h with (h|⟨o,h⟩)|h
 .exact .inl (.inl (e _ _ h))
 .exact .inl (.inr ⟨o,e _ _ h⟩)
 .exact .inr h
end L2
namespace L3
open PySem PySem.Spec PyProof.Rows L2
abbrev St:=L2.St
section
variable{env:Nq}
theorem KO:∀(names:List (Bf×Gv)) (cs:List (Bf×Av)),(∀x∈names,x.2 = .free->∃c,env.cells.lookup x.1=some c) ->
  ∃cl:List (Bf×Av),(forIn names cs (λ(x:Bf×Gv) (r:List (Bf×Av))=>(if (x.2==C0)=true then do
    let a <-cellOf env x.1
    Cr (F1 ((x.1,a)::r))
   else Cr (F1 r):Sem (ForInStep (List (Bf×Av))))):Sem (List (Bf×Av)))=Cr cl /\
   (∀x c,cl.lookup x=some c->cs.lookup x=some c\/(env.cells.lookup x=some c/\(x,C0)∈names)) /\
   (∀x,((x,C0)∈names\/∃c,cs.lookup x=some c)->∃c,cl.lookup x=some c)
 | [],cs,_=>⟨cs,rfl,λx c h=>.inl h,λx h=>by
   rcases h with h|h
   .simp at h
   .exact h⟩
 | (n,k)::r,cs,hf=>by
  by_cases hk:k = .free
  .subst hk;obtain⟨c,hc⟩:=hf (n,.free) A6 rfl;obtain⟨cl,e,h1,h2⟩:=KO r ((n,c)::cs) (λx hx=>hf x (A7 _ hx));refine⟨cl,?_,λx d hd=>?_,λx hx=>?_⟩
   .rw[List.forIn_cons]
    have e1:cellOf env n=Cr c:=by unfold cellOf;rw[hc]
    simp only[beq_self_eq_true,if_true,e1];exact e
   .rcases h1 x d hd with q|⟨q1,q2⟩
    .rw[Bm]at q
     cases hx:x==n with
     |true=>
      rw[hx]at q
      have ex:x=n:=by simpa using hx
      subst ex;cases q;exact .inr ⟨hc,A6⟩
     |false=>rw[hx]at q;exact .inl q
    .exact .inr ⟨q1,A7 _ q2⟩
   .refine h2 x ?_;rcases hx with hx|⟨d,hd⟩
    .rcases Ad.mp hx with z|z
     .cases z;exact .inr ⟨c,by simp[Bm]⟩
     .exact .inl z
    .refine .inr ?_;rw[Bm]
     cases hx:x==n with
     |true=>exact⟨c,rfl⟩
     |false=>exact⟨d,hd⟩
  .obtain⟨cl,e,h1,h2⟩:=KO r cs (λx hx=>hf x (A7 _ hx));refine⟨cl,?_,λx d hd=>?_,λx hx=>?_⟩
   .rw[List.forIn_cons]
    have hb:(k==C0)=false:=by simpa using hk
    simp only[hb,Bj,if_false];exact e
   .rcases h1 x d hd with q|⟨q1,q2⟩
    .exact .inl q
    .exact .inr ⟨q1,A7 _ q2⟩
   .refine h2 x ?_;rcases hx with hx|hx
    .rcases Ad.mp hx with z|z
     .cases z;exact w9 rfl hk
     .exact .inl z
    .exact .inr hx
def KP{scope:Scope}(hf:∀x∈scope.names,x.2 = .free->∃c,env.cells.lookup x.1=some c):
  ∃cl,O6 scope env=Cr cl/\(∀x c,cl.lookup x=some c->env.cells.lookup x=some c/\(x,C0)∈scope.names)/\(∀x,(x,C0)∈scope.names->∃c,cl.lookup x=some c):=by
 obtain⟨cl,e,h1,h2⟩:=KO (env:=env) scope.names [] hf;refine⟨cl,?_,λx c h=>?_,λx h=>h2 x (.inl h)⟩
 .unfold O6;have e':=e
  first
   |exact(lD (λm=>m >>= λcs=>Cr cs) e')
   | (simp only[bind_pure];exact e')
   | (show (forIn scope.names [] _ >>= λcs=>Cr cs)=Cr cl;rw[e'];rfl)
 .rcases h1 x c h with q|q
  .simp at q
  .exact q
end
section
variable{prog:Bw}{w:Cg}{A:C1}{R:Lf->Ai->Prop}{s:Ai}
theorem VM{bh ae ag:Expr}{it acc:Aa}(I:Nat->Ai->Prop)
  (turn:∀n s,I n s->Ap (B0 prog w) A (Ir it) (λr s1=>match r with
   |none=>R (.ok .next) s1
   |some v=>Ap (B0 prog w) A (Ka ae it v) (λ_ s1'=>Ap (B0 prog w) A (Md ae env v) (λ_ s2=>
     Ap (B0 prog w) A (forIn ba true λc r=>if r=true then do let ok <-isTrue c env (Ce c env);Cr (F1 ok) else Cr (F1 r)) (λok s3=>
      if ok=true then Ap (B0 prog w) A (Ce bh env) (λx s4=>
       Ap (B0 prog w) A (call (.builtin "list.append") [acc,x]) (λ_ s5=>∃m,m<n/\I m s5) (λ_ _=>False) s4) (λ_ _=>False) s3
      else ∃m,m<n/\I m s3) (λ_ _=>False) s2) (λ_ _=>False) s1') (λ_ _=>False) s1) (λ_ _=>False) s)
  (n:Nat) (h:I n s):
  Ew (B0 prog w) A (.compLoop (.ListComp bh [⟨ae,ag,ba,0⟩] scope pos) 0 it acc env) R s:=by
 refine codeAny_loop rfl I (λn s hI=>?_) n h;show Ap _ A ((compTurn (.ListComp bh [⟨ae,ag,ba,0⟩] scope pos) 0 it acc env).onRaise (λx=>do noteFrame x env;theTreesLotGoes x)) _ _ s
 refine wpAny_noted ?_;rw[compTurn_list];refine A3 (Go (A3 (Cn (turn n s hI) (λr s1 h1=>?_) λ_ _ h'=>h'.elim)))
 cases r with
 |none=>exact w6 h1
 |some v=>
  refine A3 (Cn h1 (λ_ s1' eu=>?_) λ_ _ h'=>h'.elim);refine A3 (Cn eu (λ_ s2 h2=>A3 (Cn h2 (λok s3 h3=>?_) λ_ _ h'=>h'.elim)) λ_ _ h'=>h'.elim)
  cases ok with
  |false=>exact w6 ⟨rfl,h3⟩
  |true=>exact A3 (A3 (Cn h3 (λx s4 h4=>A3 (Cn h4 (λ_ s5 h5=>w6 (w6 ⟨rfl,h5⟩)) λ_ _ h'=>h'.elim)) λ_ _ h'=>h'.elim))
end
abbrev Y5(X:Cx)(N:List Bf)(scope:Scope)(cl:List (Bf×Av))(C:Av)(fp:List Av)(s:Ai)(H:Hp):Cx where
 prog:=X.prog
 w:=X.w
 K:=X.K
 mg:=X.mg
 base:=X.base
 A:=X.A
 N:=N
 s₀:=s
 H₀:=H
 env:=compEnvC scope cl C X.env
 outer:=X.stack
 stack:=X.stack
 ex:=fp
 fn:=λx=>match scope.names.lookup x with|some .local=>true|some .cell=>true|_=>false
 calm:=X.calm
 pn:=[]
 xe:=λ_ _=>False
structure nK(X:Cx)(scope:Scope)(s:Ai)(h1:Cf)(cs:List (Bf×Av)):Prop where
 old:∀x c,cs.lookup x=some c->(X.env.cells.lookup x=some c/\(x,C0)∈scope.names)\/(s.heap.objs.size<c/\h1.IsCell c none/\(x,Du)∈scope.names)
 has:∀x,((x,C0)∈scope.names\/(x,Du)∈scope.names)->∃c,cs.lookup x=some c
 inj:∀x y c,cs.lookup x=some c->cs.lookup y=some c->s.heap.objs.size<c->x=y
theorem HL:∀(names:List (Bf×Gv)) (n:Nat) (acc:List (Bf×Av)) (x:Bf),((x,Du)∈names\/∃c,acc.lookup x=some c)->∃c,(He n names acc).lookup x=some c
 | [],_,_,_,h=>by
  rcases h with h|h
  .simp at h
  .exact h
 | (m,k)::r,n,acc,x,h=>by
  unfold He;by_cases hk:(k==Du)=true
  .rw[z7 hk];refine HL r _ _ x ?_;rcases h with h|⟨c,h⟩
   .rcases Ad.mp h with z|z
    .cases z;exact .inr ⟨n,by simp[Bm]⟩
    .exact .inl z
   .refine .inr ?_;rw[Bm]
    cases hx:x==m with
    |true=>exact⟨n,rfl⟩
    |false=>exact⟨c,h⟩
  .rw[y3 hk];refine HL r _ _ x ?_;rcases h with h|h
   .rcases Ad.mp h with z|z
    .cases z;exact w9 rfl hk
    .exact .inl z
   .exact .inr h
theorem HN:∀(names:List (Bf×Gv)) (h:Cf) (acc:List (Bf×Av)) (x:Bf) (c:Av),(He h.objs.size names acc).lookup x=some c ->
  acc.lookup x=some c\/(h.objs.size<=c/\(pushCells h names).IsCell c none/\(x,Du)∈names)
 | [],_,_,_,_,e=>.inl e
 | (m,k)::r,h,acc,x,c,e=>by
  unfold He at e;unfold pushCells;by_cases hk:(k==Du)=true
  .rw[z7 hk]at e ⊢
   have bN:k=Du:=by simpa using hk
   have ih:=HN r (h.push { cls:=.type "cell",data:=.cell none }) ((m,h.objs.size)::acc) x c (by rw[Dr];exact e)
   rcases ih with z|⟨z1,z2,z3⟩
   .rw[Bm]at z
    cases hx:x==m with
    |true=>
     rw[hx]at z;cases z
     have:x=m:=by simpa using hx
     subst this;subst bN;exact .inr ⟨Aj _,⟨_,pushCells_keeps _ _ _ _ (Ar _ rfl),rfl⟩,A6⟩
    |false=>
     rw[hx]at z;exact .inl z
   .rw[Dr]at z1;exact .inr ⟨by omega,z2,A7 _ z3⟩
  .rw[y3 hk]at e ⊢;rcases HN r h acc x c e with z|⟨z1,z2,z3⟩
   .exact .inl z
   .exact .inr ⟨z1,z2,A7 _ z3⟩
theorem HM:∀(names:List (Bf×Gv)) (n:Nat) (acc:List (Bf×Av)),(∀x c,acc.lookup x=some c->c<n)->∀lo,(∀x y c,acc.lookup x=some c->acc.lookup y=some c->lo<c->x=y) ->
  ∀x y c,(He n names acc).lookup x=some c->(He n names acc).lookup y=some c->lo<c->x=y
 | [],_,_,_,_,hi,x,y,c,e1,e2,hc=>hi x y c e1 e2 hc
 | (m,k)::r,n,acc,am,lo,hi,x,y,c,e1,e2,hc=>by
  unfold He at e1 e2;by_cases hk:(k==Du)=true
  .rw[z7 hk]at e1 e2
   have cz:∀z d,((m,n)::acc).lookup z=some d->(z=m/\d=n)\/(acc.lookup z=some d):=λz d e=>by
    rw[Bm]at e
    cases hx:z==m with
    |true=>rw[hx]at e;cases e;exact .inl ⟨by simpa using hx,rfl⟩
    |false=>rw[hx]at e;exact .inr e
   refine HM r (n+1) _ (λz d e=>?_) lo (λz1 z2 d f1 f2 hd=>?_) x y c e1 e2 hc
   .rcases cz z d e with⟨_,q⟩|q
    .rw[q];exact Dy n
    .exact C2 (am z d q)
   .rcases cz z1 d f1 with⟨q1,q2⟩|q
    .rcases cz z2 d f2 with⟨p1,_⟩|p
     .rw[q1,p1]
     .exact w9 (am z2 d p) (by rw[q2];exact Dc _)
    .rcases cz z2 d f2 with⟨p1,p2⟩|p
     .exact w9 (am z1 d q) (by rw[p2];exact Dc _)
     .exact hi z1 z2 d q p hd
  .rw[y3 hk]at e1 e2;exact HM r n acc am lo hi x y c e1 e2 hc
section
variable{M:Model}{A:C1}{E:VP}
def Wz{X:Cx}{scope:Scope}{cl:List (Bf×Av)}{Q:Nq->Ai->Prop}{s:Ai}(ar:∀x c,cl.lookup x=some c->X.env.cells.lookup x=some c/\(x,C0)∈scope.names)(fL:∀x,(x,C0)∈scope.names->∃c,cl.lookup x=some c)(am:∀x c,X.env.cells.lookup x=some c->c<s.heap.objs.size)
  (hQ:∀cs h' m,h'.Ns s.heap.objs.size m->(∀b o,s.heap.get? b=some o->h'.get? b=some o)->nK X scope s h' cs ->
   Q (newEnv scope s.heap.objs.size globals cs qual none .none (some X.env) Ia) { s with heap:=h',toks:=s.toks+([]:List (Bf×Aa)).length }):
  Ap M A (newFunctionEnv scope globals cl [] qual none .none (some X.env)) Q E s:=by
 simp only[newFunctionEnv,Option.isSome_some,if_true];refine A3 (wpAny_alloc ?_);refine A3 (wpAny_layCells _ (λname kind cells=>by cases hkc:kind==Du<;>simp[hkc]) _ _ _ _ ?_)
 refine A3 ?_;rw[List.forIn_nil];refine w6 (w6 ?_);have hn:∀b o,s.heap.get? b=some o->(pushCells (s.heap.push { cls:=.type "dict",data:=.dict #[] }) scope.names).get? b=some o:=λb o e=>pushCells_keeps _ _ b o (A8 _ e);have sz:(s.heap.push { cls:=.type "dict",data:=.dict #[] }).objs.size=s.heap.objs.size+1:=Dr ..;refine hQ _ _ (λ_=>none) ((Cf.Ns.new s.heap (.type "dict")).keeps (pushCells_keeps _ _)) hn ⟨λx c e=>?_,λx hx=>?_,λx y c e1 e2 hc=>?_⟩
 .rcases HN scope.names _ cl x c e with z|⟨z1,z2,z3⟩
  .exact .inl (ar x c z)
  .rw[sz]at z1;exact .inr ⟨by omega,z2,z3⟩
 .refine HL _ _ _ x ?_;rcases hx with hx|hx
  .exact .inr (fL x hx)
  .exact .inl hx
 .refine HM scope.names _ cl (λx c e=>?_) s.heap.objs.size (λx y c e1 e2 hc=>?_) x y c e1 e2 hc
  .show c<(s.heap.push { cls:=.type "dict",data:=.dict #[] }).objs.size;rw[sz];exact C2 (am x c (ar x c e).1)
  .exact w9 (Dp hc (am x c (ar x c e1).1)) (Dc _)
end
theorem HV{env:Nq}{x:Bf}:∀{names:List (Bf×Gv)} {k:Gv},
  (names.map λ(n,k)=>if (k==C0&&env.scope.kind==.function&&env.kindOf n==some .cell) then (n,Du) else (n,k)).lookup x=some k ->
  (names.lookup x=some k\/(k = .cell/\names.lookup x=some .free))
 | [],_,h=>by simp at h
 | (n,k')::r,k,h=>by
  have ih:=@HV env x r k;rw[Af]at h;dsimp only at h;rw[Bm]
  cases hx:x==n with
  |true=>
   by_cases hc:(k'==C0&&env.scope.kind==.function&&env.kindOf n==some .cell)=true
   .rw[z7 hc,Bm,hx]at h;cases h
    have:k' = .free:=by simp only[Bi,beq_iff_eq]at hc;exact hc.1.1
    subst this;exact .inr ⟨rfl,rfl⟩
   .rw[y3 hc,Bm,hx]at h;exact .inl h
  |false=>
   by_cases hc:(k'==C0&&env.scope.kind==.function&&env.kindOf n==some .cell)=true
   .rw[z7 hc,Bm,hx]at h;exact ih h
   .rw[y3 hc,Bm,hx]at h;exact ih h
theorem NW{env:Nq}{x:Bf}:∀{names:List (Bf×Gv)},names.lookup x=some .free ->
    ((names.map λ(n,k)=>if (k==C0&&env.scope.kind==.function&&env.kindOf n==some .cell) then (n,Du) else (n,k)).lookup x=some .cell \/
     (names.map λ(n,k)=>if (k==C0&&env.scope.kind==.function&&env.kindOf n==some .cell) then (n,Du) else (n,k)).lookup x=some .free)
  | [],h=>by simp at h
  | (n,k')::r,h=>by
    have ih:=@NW env x r
    rw[Af]
    dsimp only
    rw[Bm]at h
    cases hx:x==n with
    |true=>
      rw[hx]at h
      cases h
      by_cases hc:((C0==C0)&&env.scope.kind==.function&&env.kindOf n==some .cell)=true
      · rw[z7 hc,Bm,hx];exact .inl rfl
      · rw[y3 hc,Bm,hx];exact .inr rfl
    |false=>
      rw[hx]at h
      by_cases hc:(k'==C0&&env.scope.kind==.function&&env.kindOf n==some .cell)=true
      · rw[z7 hc,Bm,hx];exact ih h
      · rw[y3 hc,Bm,hx];exact ih h
def r8(X:Cx)(ba:List Expr)(t:TT):Prop:=
 ∀(aa:f8) (s:Ai) (U:St) (H:Hp) (Q:Bool->Hp->Prop),a9 X aa U H s->t U H Q ->
  Ap (B0 X.prog X.w) X.A (forIn ba true λc r=>if r=true then do let ok <-isTrue c X.env (Ce c X.env);Cr (F1 ok) else Cr (F1 r)) (TP X aa U Q) X.xe s
def Sh:r8 X [] (λ_ H Q=>Q true H):=λ_ _ _ H _ I h=>wpAny_tests_nil ⟨H,I,h⟩
def Xi(h:PT X c t):r8 X [c] t:=λaa s U H Q I hw=>wpAny_tests_one (h aa s U H Q I hw)
def mG(cap:List (Option Nat))(U:St):St:=cap.map λo=>o.bind λj=>(U[j]?).bind id
def xR(cap:List (Option Nat))(wi:TI)(g:TG)(tt:TT)(te:TE):TE:=λU H Q=>wi U H λJ H1=>∀l,H1 l=none ->
 ∃W:Nat->Nat->St->Hp->List V->Prop,(∃m,W 0 m (mG cap U) (upd H1 l (.lst [])) [])/\∀i m U' H' acc,W i m U' H' acc ->
  (J.stop i H'/\Q (.ref l) H') \/
  (J.go i H'/\acc.length<sizeLine/\∀x H2,J.yld i H' x H2->g x U' H2 λU2 H3=>tt U2 H3 λok H4=>
   if ok=true then te U2 H4 λy H5=>H5 l=some (.lst acc)/\∃m',m'<m/\W (i+1) m' U2 (upd H5 l (.lst (acc++[y]))) (acc++[y])
   else ∃m',m'<m/\W (i+1) m' U2 H4 acc)
section
variable{X:Cx}
def ϩ{scope:Scope}{fp:List Av}{N:List Bf}{cap:List (Option Nat)}{tk:Nat}(I:a9 X aa U H s)(hk:scope.kind = .function)(au:∀y∈scope.names,y.2 = .cell->scope.names.lookup y.1=some .cell)(ar:nK X scope s h1 cl)(bT:∀x∈scope.names,x.2 = .free->scope.names.lookup x.1=some .free)(be:∀(i j:Nat),cap[i]?=some (some j)->∃x,N[i]?=some x/\X.N[j]?=some x/\scope.names.lookup x=some .free/\(X.env.scope.names.lookup x=some .cell\/X.env.scope.names.lookup x=some .free))(ab:cap.length=N.length)(fu:∀b∈fp,pR X aa H b)(dW:∀b∈fp,∃o,s.heap.get? b=some o)(bQ:h1.Ns s.heap.objs.size m)(keep:∀b o,s.heap.get? b=some o->h1.get? b=some o):
  a9 (Y5 X N scope cl s.heap.objs.size fp s H) [] (mG cap U) H { s with heap:=h1,toks:=tk }:=by
 have kk:∀x,(compEnvC scope cl s.heap.objs.size X.env).kindOf x=(relabel scope X.env).names.lookup x:=λx=>rfl
 have nost:∀b∈fp,b∉nU X.stack:=λb hb z=>by
  obtain⟨_,f1,f2,_⟩:=fu b hb;rcases Ad.mp (I.stkSub b z) with e|e
  .exact f1 e
  .exact f2 e
 have iP:∀b∈fp,b<s.heap.objs.size:=λb hb=>by obtain⟨o,e⟩:=dW b hb;exact Ao e
 have lts:∀x c,X.env.cells.lookup x=some c->c<s.heap.objs.size:=λx c e=>by obtain⟨v,o,ho,_⟩:=I.cell x c e;exact Ao ho
 have fro:∀x c,(x,C0)∈scope.names->cl.lookup x=some c->X.env.cells.lookup x=some c:=λx c hx e=>by
  rcases ar.old x c e with z|⟨_,_,z⟩
  .exact z.1
  .have z1:=bT _ hx rfl;have z2:=au _ z rfl;rw[z1]at z2;cases z2
 have eR:∀x,((relabel scope X.env).names.lookup x=some .cell\/(relabel scope X.env).names.lookup x=some .free)->((x,C0)∈scope.names\/(x,Du)∈scope.names):=λx hx=>by
  have nc:∀{k},scope.names.lookup x=some k->(x,k)∈scope.names:=λh=>Cc h;rcases hx with hx|hx
  .rcases HV hx with z|⟨_,z⟩
   .exact .inr (nc z)
   .exact .inl (nc z)
  .rcases HV hx with z|⟨z,_⟩
   .exact .inl (nc z)
   .cases z
 refine⟨⟨I.ok.mod,hk,I.ok.glob,I.ok.blt,Aj _,λx y c e1 e2=>?inj,λx hx=>ar.has x (eR x hx),λx c hx e=>?cab,I.ok.hd,I.ok.frames,.inl rfl,λb hb=>?exf,I.bs,Bn I.ok.bsz I.sz,λb o e hb=>?noex,nost,I.stack,I.stkFree⟩,
  rfl,I.bare,Un.kept keep,⟨m,bQ,λi x v e1 e2 e3=>?loc⟩,λx c e=>?cell,I.hok.fresh (Aj _),λx c e=>?freeC,λp hp=>w9 (show p∈([]:f8) from hp) (by simp),I.hok.kept keep,?len⟩
 case inj=>
  rcases ar.old x c e1 with⟨z,_⟩|⟨z,_⟩
  .rcases ar.old y c e2 with⟨z',_⟩|⟨z',_⟩
   .exact I.ok.inj x y c z z'
   .exact w9 (Dp z' (lts x c z)) (Dc _)
  .exact ar.inj x y c e1 e2 z
 case freeC=>
  rcases ar.old x c e with⟨z,_⟩|⟨z,_⟩
  .exact I.freeC x c z
  .exact I.hok.fresh (D7 z)
 case cab=>
  have aC:(match scope.names.lookup x with|some .local=>true|some .cell=>true|_=>false)=true:=hx;rcases ar.old x c e with⟨_,z⟩|⟨z,_⟩
  .have:=bT _ z rfl
   rw[this]at aC;cases aC
  .exact D7 z
 case exf=>
  refine⟨Aq (iP b hb),λx c e=>?_⟩;rcases ar.old x c e with⟨z,_⟩|⟨z,_⟩
  .exact(fu b hb).2.2.2.2.1 x c z
  .intro q;rw[q]at z;exact w9 (Dp z (iP b hb)) (Dc _)
 case noex=>
  obtain⟨_,_,_,f3,_⟩:=fu b hb;rcases f3 with z|z
  .exact I.ok.noex b o e z
  .exact w9 (B8 (Ao (I.ok.bs b o e).1) z) (Dc _)
 case loc=>
  have hc:∃j,cap[i]?=some (some j)/\U[j]?=some (some v):=by
   unfold mG at e2;rw[Am]at e2
   cases fQ:cap[i]? with
   |none=>rw[fQ]at e2;cases e2
   |some o=>
    rw[fQ]at e2
    cases o with
    |none=>cases e2
    |some j=>
     refine⟨j,rfl,?_⟩;have cr:(U[j]?).bind id=some v:=Ba e2
     cases hs:U[j]? with
     |none=>rw[hs]at cr;cases cr
     |some q=>
      rw[hs]at cr
      have:q=some v:=cr
      rw[this]
  obtain⟨j,hj,hv⟩:=hc;obtain⟨y,n1,n2,n3,n4⟩:=be i j hj
  have exy:y=x:=by
   have:N[i]?=some x:=e1
   rw[n1]at this;exact Ba this
  subst exy;obtain⟨mm,hm,hl⟩:=I.loc;obtain⟨u,r,cz⟩:=hl j y v n2 hv (.inr n4);refine⟨u,r,.inr ⟨NW n3,?_⟩⟩;rcases cz with⟨k,_⟩|⟨k,c,e,z⟩
  .have k':X.env.scope.names.lookup y=some .local:=k;rw[k']at n4;rcases n4 with q|q<;>cases q
  .obtain⟨c',bS⟩:=ar.has y (.inl (Cc n3))
   have:=fro y c' (Cc n3) bS
   rw[e]at this;cases this;obtain⟨o,ho,hd⟩:=z;exact⟨c,bS,o,keep _ _ ho,hd⟩
 case cell=>
  rcases ar.old x c e with⟨z,_⟩|⟨_,z,_⟩
  .obtain⟨v,o,ho,hd⟩:=I.cell x c z;exact⟨v,o,keep _ _ ho,hd⟩
  .exact⟨_,z⟩
 case len=>unfold mG;rw[A0];exact ab
def OZ{cap:List (Option Nat)}(hc:X.calm=true)(hi:PI X ae ag wi)(hg:∀cl C fp s H,PG (Y5 X N scope cl C fp s H) ae g)(ht:∀cl C fp s H,r8 (Y5 X N scope cl C fp s H) ba tt)(he:∀cl C fp s H,PE (Y5 X N scope cl C fp s H) bh te)(hk:scope.kind = .function)(au:∀y∈scope.names,y.2 = .cell->scope.names.lookup y.1=some .cell)(aW:∀x∈scope.names,x.2 = .local->scope.names.lookup x.1=some .local)(bT:∀x∈scope.names,x.2 = .free->scope.names.lookup x.1=some .free)(bq:∀x∈scope.names,x.2 = .free->X.env.scope.names.lookup x.1=some .cell\/X.env.scope.names.lookup x.1=some .free)(be:∀(i j:Nat),cap[i]?=some (some j)->∃x,N[i]?=some x/\X.N[j]?=some x/\scope.names.lookup x=some .free)(ab:cap.length=N.length)(hs:∀x,Cz ag X.env x=Cr x)(I:a9 X aa U H s)(h:xR cap wi g tt te U H Q)(post:∀{s3 s6:Ai} {H3 H5:Hp} {U5:St} {cs:List (Bf×Av)} {fp:List Av} {l:Av} {r:Flow},a9 X aa U H3 s3->a9 (Y5 X N scope cs s3.heap.objs.size fp s3 H3) [] U5 H5 s6->(∀b∈fp,pR X aa H3 b)->Q (.ref l) H5->compPost (B0 X.prog X.w) X.A X.xe use Qf (.ref l) s3.heap.objs.size (.ok r) s6):
  Ap (B0 X.prog X.w) X.A (comprehension (.ListComp bh [⟨ae,ag,ba,0⟩] scope pos) scope X.env pc (Nf []) false (Ce ag X.env) use) Qf X.xe s:=by
 obtain⟨cl,il,ar,fL⟩:=KP (env:=X.env) (scope:=scope) λx hx hf=>I.ok.has x.1 (bq x hx hf);refine wpAny_comprehension_free (use:=use) rfl hs il hk aW ?_;show Ap _ _ (Ce ag X.env) _ _ s;refine kQ (hi aa s U H _ I h) λv s1 h1=>kQ h1 λitv s2 h2=>?_;obtain⟨it,fp,tn,J,H2,rfl,I2,T,fD,f2,hW⟩:=h2;obtain⟨W,⟨m0,w0⟩,turn⟩:=hW s2.heap.objs.size I2.fresh
 refine Cb (Wz (X:=X) (E:=X.xe) ar fL (λx c e=>by
  obtain⟨v,o,ho,_⟩:=I2.cell x c e;show c<(Cf.push _ _).objs.size;rw[Dr]
  exact C2 (Ao ho)) (λcs h4 m4 bQ dE gp=>?_))
 dsimp only at bQ dE ⊢;have I3:a9 X aa U (upd H2 s2.heap.objs.size (.lst [])) { s2 with heap:=s2.heap.push { cls:=.type "list",dict:=none,data:=.seq ([]:List Aa).toArray } }:=I2.lnew (its:=[]) (t':=s2.toks) .nil (Bg _);generalize hs3:({ s2 with heap:=s2.heap.push { cls:=.type "list",dict:=none,data:=.seq ([]:List Aa).toArray } }:Ai)=s3 at I3
 have gX:s2.heap.push { cls:=.type "list",dict:=none,data:=.seq ([]:List Aa).toArray }=s3.heap:=by rw[<-hs3]
 have hsz3:s3.heap.objs.size=s2.heap.objs.size+1:=by rw[<-gX,Dr]
 rw[gX]at bQ dE;have fG:∀b o,s3.heap.get? b=some o->h4.get? b=some o:=dE;have iG:nK X scope s3 h4 cs:=⟨λx c e=>by rw[<-gX];exact gp.old x c e,gp.has,λx y c e1 e2 hc=>gp.inj x y c e1 e2 (by rw[<-gX]at hc;exact hc)⟩
 have fpn:∀b∈fp,(upd H2 s2.heap.objs.size (.lst [])) b=none/\pR X aa (upd H2 s2.heap.objs.size (.lst [])) b:=λb hb=>by
  obtain⟨o,e,_⟩:=T.obj 0 _ fD b hb;have ne:b≠s2.heap.objs.size:=Aq (Ao e)
  have z:(upd H2 s2.heap.objs.size (.lst [])) b=none:=by rw[j6 ne];exact(f2 b hb).1
  exact⟨z,z,(f2 b hb).2⟩
 have dW:∀b∈fp,∃o,s3.heap.get? b=some o:=λb hb=>by obtain⟨o,e,_⟩:=T.obj 0 _ fD b hb;exact⟨o,by rw[<-gX];exact A8 _ e⟩
 have I4:∀tk,a9 (Y5 X N scope cs s3.heap.objs.size fp s3 (upd H2 s2.heap.objs.size (.lst []))) [] (mG cap U) (upd H2 s2.heap.objs.size (.lst [])) { s3 with heap:=h4,toks:=tk }:=λtk=>
  ϩ I3 hk au iG bT (λi j e=>by
   obtain⟨x,n1,n2,n3⟩:=be i j e
   exact⟨x,n1,n2,n3,bq _ (Cc n3) rfl⟩) ab (λb hb=>(fpn b hb).2) dW bQ fG
 have st4:tn 0 h4:=T.keep _ _ _ fD λb _ o e=>fG b o (by rw[<-gX];exact A8 _ e)
 have cJ:∀{H':Hp},(∀b∈fp,H' b=none)->∀b∈fp,pR (Y5 X N scope cs s3.heap.objs.size fp s3 (upd H2 s2.heap.objs.size (.lst []))) [] H' b:=λ{H'} hn b hb=>by
  obtain⟨o,e⟩:=dW b hb;obtain⟨_,f1,f3,_,f5,_⟩:=f2 b hb;refine⟨hn b hb,Aq (Ao e),λz=>?_,.inl hb,λx c e=>(iG.old x c e).elim (λz=>f5 x c z.1) (λz q=>w9 (Ao (q▸‹s3.heap.get? b=some o›)) (Nat.not_lt.mpr (D7 z.1))),λp hp=>w9 (show p∈([]:f8) from hp) (by simp)⟩;rcases Ad.mp (I3.stkSub b z) with e'|e'
  .exact f1 e'
  .exact f3 e'
 have loop:∀s4:Ai,s4={ s3 with heap:=h4,toks:=s2.toks+([]:List (Bf×Aa)).length } ->
   Ew (B0 X.prog X.w) X.A (.compLoop (.ListComp bh [⟨ae,ag,ba,0⟩] scope pos) 0 (.ref it) (.ref s2.heap.objs.size) (compEnvC scope cs s3.heap.objs.size X.env))
    (compPost (B0 X.prog X.w) X.A X.xe use Qf (.ref s2.heap.objs.size) s3.heap.objs.size) s4:=by
  rintro s4 rfl;refine VM (λn s'=>∃i U' H' acc,a9 (Y5 X N scope cs s3.heap.objs.size fp s3 (upd H2 s2.heap.objs.size (.lst []))) [] U' H' s'/\tn i s'.heap/\(∀b∈fp,H' b=none)/\W i n U' H' acc) ?_ m0 ⟨0,_,_,[],I4 _,st4,λb hb=>(fpn b hb).1,w0⟩;rintro n s5 ⟨i,U5,H5,acc,I5,gN,fr5,w5⟩;rcases turn i n U5 H5 acc w5 with⟨stop,q⟩|⟨go,hz,step⟩
  .refine kQ (T.done (Y5 X N scope cs s3.heap.objs.size fp s3 (upd H2 s2.heap.objs.size (.lst []))) rfl rfl rfl hc i [] s5 U5 H5 _ I5 (cJ fr5) gN stop) λr s6 ⟨hr,I6⟩=>?_;subst hr;exact post I3 I6 (λb hb=>(fpn b hb).2) q
  .refine kQ (T.item (Y5 X N scope cs s3.heap.objs.size fp s3 (upd H2 s2.heap.objs.size (.lst []))) rfl rfl rfl hc i [] s5 U5 H5 _ I5 (cJ fr5) gN go) λr s6 ⟨u,hr,h6⟩=>?_;subst hr;refine kQ h6 λ_ s7 ⟨x,H7,I7,r7,y7,st7,fr7⟩=>?_;have I7':=I7.pinned (cJ fr7) (T.obj _ _ st7);refine kQ (hg _ _ _ _ _ _ s7 U5 H7 x u _ I7' r7 (step x H7 y7)) λ_ s8 ⟨U8,H8,I8,q8⟩=>?_;refine kQ (ht _ _ _ _ _ _ s8 U8 H8 _ I8 q8) λok s9 ⟨H9,I9,q9⟩=>?_
   have Nc:∀{s':Ai} {U':St} {H':Hp} {aJ:List V} {m':Nat},a9 (Y5 X N scope cs s3.heap.objs.size fp s3 (upd H2 s2.heap.objs.size (.lst []))) ([]++zR fp s7.heap) U' H' s'->m'<n->W (i+1) m' U' H' aJ ->
     ∃m,m<n/\∃i U'' iM acc,a9 (Y5 X N scope cs s3.heap.objs.size fp s3 (upd H2 s2.heap.objs.size (.lst []))) [] U'' iM s'/\tn i s'.heap/\(∀b∈fp,iM b=none)/\W i m U'' iM acc:=λ{s' U' H' aJ m'} I' hm w'=>by
    refine⟨m',hm,i+1,U',H',aJ,I'.unpinned,T.keep _ _ _ st7 λb hb o e=>(I'.pin (b,o) (Ac _ (Ac _ (CL hb e)))).1,λb hb=>?_,w'⟩;obtain⟨o,e,d⟩:=T.obj _ _ st7 b hb;exact(I'.pin (b,o) (Ac _ (Ac _ (CL hb e)))).2.1
   cases ok with
   |false=>rw[y3 B3]at q9;obtain⟨m',hm,w'⟩:=q9;exact Nc I9 hm w'
   |true=>
    rw[z7 rfl]at q9;show Ap _ _ (Ce bh _) _ _ s9;refine jE (he _ _ _ _ _ _ s9 U8 H9 _ I9 q9) λxv s10 y H10 I10 r10 ⟨hl10,m',hm,w'⟩=>?_;refine jE (KF _ s10 U8 H10 (.ref s2.heap.objs.size) [y] (.ref s2.heap.objs.size) [xv] (λ(_:V) (H':Hp)=>H'=upd H10 s2.heap.objs.size (.lst (acc++[y]))) I10 rfl (.cons r10 .nil) ⟨_,acc,y,rfl,rfl,hl10,hz,rfl⟩) λ_ s11 _ H11 I11 _ e11=>?_;have e11':H11=upd H10 s2.heap.objs.size (.lst (acc++[y])):=e11
    subst e11';exact Nc I11 hm w'
 have hx:∀s4:Ai,s4={ s3 with heap:=h4,toks:=s2.toks+([]:List (Bf×Aa)).length }->tn 0 s4.heap:=by rintro s4 rfl;exact st4
 subst hs3;exact codeAny_compStart_list (loop _ rfl) (T.self X.A 0 _ _ _ (hx _ rfl) (loop _ rfl))
def Û{cap:List (Option Nat)}(hc:X.calm=true)(hi:PI X ae ag wi)(hg:∀cl C fp s H,PG (Y5 X N scope cl C fp s H) ae g)(ht:∀cl C fp s H,r8 (Y5 X N scope cl C fp s H) ba tt)(he:∀cl C fp s H,PE (Y5 X N scope cl C fp s H) bh te)(hk:scope.kind = .function)(au:∀y∈scope.names,y.2 = .cell->scope.names.lookup y.1=some .cell)(aW:∀x∈scope.names,x.2 = .local->scope.names.lookup x.1=some .local)(bT:∀x∈scope.names,x.2 = .free->scope.names.lookup x.1=some .free)(bq:∀x∈scope.names,x.2 = .free->X.env.scope.names.lookup x.1=some .cell\/X.env.scope.names.lookup x.1=some .free)(be:∀(i j:Nat),cap[i]?=some (some j)->∃x,N[i]?=some x/\X.N[j]?=some x/\scope.names.lookup x=some .free)(ab:cap.length=N.length)(hs:∀x,Cz ag X.env x=Cr x:=by intro _;rfl):
  PE X (.ListComp bh [⟨ae,ag,ba,0⟩] scope pos) (xR cap wi g tt te):=by
 intro aa s U H Q I h;rw[eval_ListComp];refine OZ (use:=none) hc hi hg ht he hk au aW bT bq be ab hs I h λ{s3 s6 H3 H5 U5 cs fp l r} I3 I6 fu q=>?_;obtain⟨m6,hn6,_⟩:=I6.loc;refine⟨m6,hn6,λh' sb=>?_⟩
 have eI:∀b u,H5 b=some u->b≠s3.heap.objs.size:=λb u e z=>by
  subst z
  have:=I6.free
  rw[show H5 s3.heap.objs.size=none from this]at e;cases e
 refine⟨.ref l,H5,?_,rfl,q⟩;refine I3.call' (s':={ s6 with heap:=h' }) (ch:=fp) I6.os ?_ (λb u e=>?_) I6.bare (λb hb=>?_)
 .have u6:Un (nU X.stack) fp H3 H5 s3.heap s6.heap:=I6.base;have ex:∀b o,s3.heap.get? b=some o->∀o',s6.heap.get? b=some o'->h'.get? b=some o':=λb o e o' e'=>(sb.2 b (Aq (Ao e))).trans e';exact⟨λb o e n hb hx=>ex b o e _ (u6.keep b o e n hb hx),λb o e n hb hx=>let ⟨sl,z⟩:=u6.slot b o e n hb hx;⟨sl,ex b o e _ z⟩,u6.free,λb o e hx=>let ⟨o',z⟩:=u6.there b o e hx;⟨o',ex b o e _ z⟩,u6.tups,u6.frzs,u6.tbls⟩
 .refine(I6.hok b u e).stay (λc v bS q'=>(sb.2 c ?_).trans q') (λ_ q'=>q') (λ_ _ q'=>q') λ_ _ _ q'=>q';rcases bS with rfl|bS
  .exact eI _ _ e
  .exact eI _ _ bS
 .obtain⟨_,f1,_,f3,f5,f6⟩:=fu b hb;exact⟨f3,f1,f5,f6⟩
end
def f7{a1 a2 a3 a4 a5 a6:Sort _}{p q r:a1->a2->a3->a4->a5->a6->Prop}{C:Prop}(h:∃a b c d e f,p a b c d e f/\q a b c d e f/\r a b c d e f)(k:∀a b c d e f,p a b c d e f->q a b c d e f->r a b c d e f->C):C:=by obtain⟨a,b,c,d,e,f,x,y,z⟩:=h;exact k a b c d e f x y z
inductive D where
 |non
 |bl (b:Bool)
 |int (i:Int)
 |str (x:Bf)
 |tup (xs:List D)
 |lst (xs:List D)
 |dct (ks:List d3) (vs:List D)
mutual
def d8(K:A5)(H:Hp):D->V->Prop
 | .non,v=>v=V.non
 | .bl b,v=>v=V.bl b
 | .int i,v=>v=V.int i
 | .str x,v=>v=V.str x
 | .tup ds,v=>∃a xs,v=V.ref a/\i8 K H a xs/\g9 K H ds xs
 | .lst ds,v=>∃a xs,v=V.ref a/\i5 K H a xs/\g9 K H ds xs
 | .dct ks ds,v=>∃a kvs,v=V.ref a/\H a=some (HO.dK kvs)/\kvs.map (·.1)=ks/\g9 K H ds (kvs.map (·.2))
def g9(K:A5)(H:Hp):List D->List V->Prop
 | [],xs=>xs=[]
 |d::ds,xs=>∃v vs,xs=v::vs/\d8 K H d v/\g9 K H ds vs
end
section
variable{K:A5}{H H':Hp}
def j5:d8 K H (.tup ds) v↔∃a xs,v=V.ref a/\i8 K H a xs/\g9 K H ds xs:=by rw[d8]
def J6:d8 K H (.lst ds) v↔∃a xs,v=V.ref a/\i5 K H a xs/\g9 K H ds xs:=by rw[d8]
def l4:d8 K H (.dct ks ds) v↔∃a kvs,v=V.ref a/\H a=some (HO.dK kvs)/\kvs.map (·.1)=ks/\g9 K H ds (kvs.map (·.2)):=by rw[d8]
def v4:d8 K H (.int i) v↔v=V.int i:=by rw[d8]
def K4:d8 K H (.bl i) v↔v=V.bl i:=by rw[d8]
def Z4:d8 K H (.str i) v↔v=V.str i:=by rw[d8]
def Z8:d8 K H .non v↔v=V.non:=by rw[d8]
def K3:g9 K H [] xs↔xs=[]:=by rw[g9]
def j7{d:D}{ds:List D}:g9 K H (d::ds) xs↔∃v vs,xs=v::vs/\d8 K H d v/\g9 K H ds vs:=by rw[g9]
def j9(e:j8 H H')(h:i8 K H a xs):i8 K H' a xs:=by
 rcases h with (h|⟨o,h⟩)|h
 .exact .inl (.inl (e _ _ h))
 .exact .inl (.inr ⟨o,e _ _ h⟩)
 .exact .inr h
mutual
theorem d8.mono(e:j8 H H'):∀{d:D} {v:V},d8 K H d v->d8 K H' d v
 | .non,_,h=>by rw[Z8]at h ⊢;exact h
 | .bl _,_,h=>by rw[K4]at h ⊢;exact h
 | .int _,_,h=>by rw[v4]at h ⊢;exact h
 | .str _,_,h=>by rw[Z4]at h ⊢;exact h
 | .tup ds,_,h=>by rw[j5]at h ⊢;obtain⟨a,xs,h1,h2,h3⟩:=h;exact⟨a,xs,h1,j9 e h2,g9.mono e h3⟩
 | .lst ds,_,h=>by rw[J6]at h ⊢;obtain⟨a,xs,h1,h2,h3⟩:=h;exact⟨a,xs,h1,e.seq h2,g9.mono e h3⟩
 | .dct ks ds,_,h=>by rw[l4]at h ⊢;obtain⟨a,kvs,h1,h2,h3,h4⟩:=h;exact⟨a,kvs,h1,e _ _ h2,h3,g9.mono e h4⟩
theorem g9.mono(e:j8 H H'):∀{ds:List D} {xs:List V},g9 K H ds xs->g9 K H' ds xs
 | [],_,h=>by rw[K3]at h ⊢;exact h
 |d::ds,_,h=>by rw[j7]at h ⊢;obtain⟨v,vs,h1,h2,h3⟩:=h;exact⟨v,vs,h1,d8.mono e h2,g9.mono e h3⟩
end
theorem g9.length:∀{ds:List D} {xs:List V},g9 K H ds xs->ds.length=xs.length
 | [],_,h=>by rw[K3]at h;subst h;rfl
 |d::ds,_,h=>by rw[j7]at h;obtain⟨v,vs,rfl,_,h3⟩:=h;rw[As,As,g9.length h3]
theorem g9.get:∀{ds:List D} {xs:List V} {i:Nat} {d:D},g9 K H ds xs->ds[i]?=some d->∃v,xs[i]?=some v/\d8 K H d v
 | [],_,_,_,_,e=>by simp at e
 |d::ds,_,i,d',h,e=>by
  rw[j7]at h;obtain⟨v,vs,rfl,h2,h3⟩:=h
  cases i with
  |zero=>simp at e;subst e;exact⟨v,rfl,h2⟩
  |succ i=>simpa using g9.get (i:=i) h3 (by simpa using e)
theorem g9.at:∀{ds:List D} {xs:List V} {i:Nat} {v:V},g9 K H ds xs->xs[i]?=some v->∃d,ds[i]?=some d/\d8 K H d v
 | [],_,_,_,h,e=>by rw[K3]at h;subst h;simp at e
 |d::ds,_,i,v',h,e=>by
  rw[j7]at h;obtain⟨v,vs,rfl,h2,h3⟩:=h
  cases i with
  |zero=>simp at e;subst e;exact⟨d,rfl,h2⟩
  |succ i=>simpa using g9.at (i:=i) h3 (by simpa using e)
theorem g9.append:∀{ds es:List D} {xs ys:List V},g9 K H ds xs->g9 K H es ys->g9 K H (ds++es) (xs++ys)
 | [],_,_,_,h,h'=>by rw[K3]at h;subst h;exact h'
 |d::ds,_,_,_,h,h'=>by rw[j7]at h;obtain⟨v,vs,rfl,h2,h3⟩:=h;exact j7.mpr ⟨v,_,rfl,h2,g9.append h3 h'⟩
def g9.one(h:d8 K H d v):g9 K H [d] [v]:=j7.mpr ⟨v,[],rfl,h,K3.mpr rfl⟩
def g9.cons(h:d8 K H d v)(t:g9 K H ds xs):g9 K H (d::ds) (v::xs):=j7.mpr ⟨v,xs,rfl,h,t⟩
def g9.nil:g9 K H [] []:=K3.mpr rfl
theorem g9.take:∀{ds:List D} {xs:List V} (n:Nat),g9 K H ds xs->g9 K H (ds.take n) (xs.take n)
 |_,_,0,_=>K3.mpr rfl
 | [],_,n+1,h=>by rw[K3]at h;subst h;exact K3.mpr rfl
 |d::ds,_,n+1,h=>by rw[j7]at h;obtain⟨v,vs,rfl,h2,h3⟩:=h;exact g9.cons h2 (g9.take n h3)
theorem g9.drop:∀{ds:List D} {xs:List V} (n:Nat),g9 K H ds xs->g9 K H (ds.drop n) (xs.drop n)
 |_,_,0,h=>h
 | [],_,n+1,h=>by rw[K3]at h;subst h;exact K3.mpr rfl
 |d::ds,_,n+1,h=>by rw[j7]at h;obtain⟨v,vs,rfl,h2,h3⟩:=h;exact g9.drop n h3
theorem g9.rep(h:g9 K H ds xs):∀k:Nat,g9 K H (Bh k ds).flatten (Bh k xs).flatten
 | 0=>K3.mpr rfl
 |k+1=>by rw[Ek,Ek,Fn,Fn];exact g9.append h (g9.rep h k)
theorem Y2:∀{ns:List Int} {xs:List V},g9 K H (ns.map D.int) xs↔xs=ns.map V.int
 | [],xs=>by rw[Gg,K3,Gg]
 |n::ns,xs=>by
  rw[Af,j7,Af];constructor
  .rintro ⟨v,vs,rfl,h2,h3⟩;rw[v4]at h2;rw[Y2]at h3;rw[h2,h3]
  .rintro rfl;exact⟨_,_,rfl,v4.mpr rfl,Y2.mpr rfl⟩
end
def K5(Z:List Av)(H:Hp):Hp:=λb=>if b∈Z then none else H b
section
variable{Z B:List Av}{H H':Hp}{a:Av}{o:HO}
def Æ(h:a∈Z):K5 Z H a=none:=z7 h
def Q4(h:a∉Z):K5 Z H a=H a:=y3 h
def W8(h:K5 Z H a=some o):a∉Z/\H a=some o:=by
 by_cases hz:a∈Z
 .rw[Æ hz]at h;cases h
 .rw[Q4 hz]at h;exact⟨hz,h⟩
def x8:j8 (K5 Z H) H:=λb o h=>(W8 h).2
def x6(e:j8 H H'):j8 (K5 Z H) (K5 Z H'):=λb o h=>by obtain⟨h1,h2⟩:=W8 h;rw[Q4 h1];exact e b o h2
def qJ(h:∀b∈B,b∈Z):j8 (K5 Z H) (K5 B H):=λb o q=>by obtain⟨h1,h2⟩:=W8 q;rw[Q4 λz=>h1 (h b z)];exact h2
def qK(hn:H a=none)(e:j8 H H'):j8 (K5 Z H) (K5 (a::Z) H'):=λb u q=>by
 obtain⟨h1,h2⟩:=W8 q
 have ne:b≠a:=λz=>by rw[z,hn]at h2;cases h2
 rw[Q4 (by rw[Ad];exact λz=>z.elim ne h1)]
 exact e b u h2
def wJ(h:a∈Z):j8 (K5 Z H) (K5 Z (upd H a o)):=λb u q=>by
 obtain⟨h1,h2⟩:=W8 q;have ne:b≠a:=λz=>h1 (by rw[z];exact h)
 rw[Q4 h1,j6 ne];exact h2
def u9(hn:H a=none):j8 H (upd H a o):=λb u q=>by rw[j6 (W3 q hn)];exact q
def uS{H0:Hp}(hn:H0 a=none)(e:j8 H0 H):j8 H0 (upd H a o):=λb u q=>by
 have ne:b≠a:=λz=>by rw[z,hn]at q;cases q
 rw[j6 ne];exact e b u q
end
inductive OC where
 |l (ds:List D)
 |d (ks:List d3) (vs:List D)
inductive Cell where
 |sh (d:D)
 |ow (ds:List D)
 |od (ks:List d3) (vs:List D)
def Cell.oc:Cell->Option OC
 | .sh _=>none
 | .ow ds=>some (.l ds)
 | .od ks vs=>some (.d ks vs)
def OC.cell:OC->Cell
 | .l ds=>.ow ds
 | .d ks vs=>.od ks vs
def OC.dat:OC->D
 | .l ds=>.lst ds
 | .d ks vs=>.dct ks vs
def OC.cell_oc(c:OC):c.cell.oc=some c:=by cases c<;>rfl
def o8(K:A5)(H:Hp):OC->HO->Prop
 | .l ds,o=>∃xs,o=HO.lst xs/\g9 K H ds xs
 | .d ks ds,o=>∃kvs,o=HO.dK kvs/\kvs.map (·.1)=ks/\g9 K H ds (kvs.map (·.2))
theorem o8.mono{K:A5}{H H':Hp}(e:j8 H H'):∀{c:OC} {o:HO},o8 K H c o->o8 K H' c o
 | .l ds,o,⟨xs,h1,h2⟩=>⟨xs,h1,h2.mono e⟩
 | .d ks ds,o,⟨kvs,h1,h2,h3⟩=>⟨kvs,h1,h2,h3.mono e⟩
theorem o8.rep{K:A5}{H:Hp}{a:Av}:∀{c:OC} {o:HO},o8 K H c o->H a=some o->d8 K H c.dat (.ref a)
 | .l ds,o,⟨xs,h1,h2⟩,e=>J6.mpr ⟨a,xs,rfl,i5.of (by rw[e,h1]),h2⟩
 | .d ks ds,o,⟨kvs,h1,h2,h3⟩,e=>l4.mpr ⟨a,kvs,rfl,by rw[e,h1],h2,h3⟩
abbrev K6:=List (Option Cell)
abbrev EL:=K6->Option (List D)
abbrev ED:=K6->Option D
abbrev EB:=K6->Option Bool
abbrev LD:=List D->Option D
abbrev sC(d:D):Option Cell:=some (.sh d)
def RX:List Bf:=["ties_over","queue_pages","hardest_tie","as_laid_on"]
def zY(vs:Array Aa):Bool:=match (vs[1]?:Option Aa) with|some (.str q _)=>RX.contains q|_=>false
def TB(K:A5)(H:Hp):Prop:=∀c o vs P,K.lookup c=some o->o.cls = .type "code"->o.data = .fields vs->vs[11]?=some (.ref P)->K.lookup P=none->zY vs=true ->
 ∃q t,vs[1]?=some (.str q t)/\H P=some (.tbl #[.str q 0])
def TB.mono{K:A5}{H H':Hp}(h:TB K H)(e:j8 H H'):TB K H':=λc o vs P h1 h2 h3 h4 h5 h6=>let ⟨q,t,e1,e2⟩:=h c o vs P h1 h2 h3 h4 h5 h6;⟨q,t,e1,e _ _ e2⟩
def TB.upd{K:A5}{H:Hp}{a:Av}{o u:HO}(h:TB K H)(ha:H a=some u)(hu:∀ps,u≠.tbl ps):TB K (upd H a o):=λc ob vs P h1 h2 h3 h4 h5 h6=>by
 obtain⟨q,t,e1,e2⟩:=h c ob vs P h1 h2 h3 h4 h5 h6;refine⟨q,t,e1,?_⟩;rw[j6]
 .exact e2
 .rintro rfl;rw[e2]at ha;exact hu _ (Ba ha).symm
theorem o8.notbl{K:A5}{H:Hp}:∀{c:OC} {o:HO},o8 K H c o->∀ps,o≠.tbl ps
 | .l ds,o,⟨xs,h1,_⟩,ps=>by rw[h1];intro z;cases z
 | .d ks ds,o,⟨kvs,h1,_⟩,ps=>by rw[h1];intro z;cases z
structure SR(K:A5)(B:List Av)(H0 V0 H:Hp)(Z:List Av)(U:St)(Y:K6):Prop where
 same:j8 H0 H
 tb:TB K H
 vis:j8 V0 (K5 Z H)
 sub:∀b∈B,b∈Z
 zs:∀z∈Z,∃o,H z=some o
 sh:∀(i:Nat) d,Y[i]?=some (some (.sh d))->∃v,U[i]?=some (some v)/\d8 K (K5 Z H) d v
 own:∀(i:Nat) (c:OC),Y[i]?=some (some c.cell)->∃a o,U[i]?=some (some (.ref a))/\a∈Z/\a∉B/\H0 a=none/\H a=some o/\o8 K (K5 Z H) c o
 inj:∀(i j:Nat) (c e:OC) a,Y[i]?=some (some c.cell)->Y[j]?=some (some e.cell)->U[i]?=some (some (.ref a))->U[j]?=some (some (.ref a))->i=j
 len:U.length=Y.length
section
variable{K:A5}{B Z:List Av}{H0 V0 H H':Hp}{U:St}{Y:K6}
def SR.ow(r:SR K B H0 V0 H Z U Y)(i:Nat)(ds:List D)(h:Y[i]?=some (some (.ow ds))):∃a xs,U[i]?=some (some (.ref a))/\a∈Z/\a∉B/\H0 a=none/\H a=some (.lst xs)/\g9 K (K5 Z H) ds xs:=by obtain⟨a,o,h1,h2,h3,h4,h5,xs,rfl,h7⟩:=r.own i (.l ds) h;exact⟨a,xs,h1,h2,h3,h4,h5,h7⟩
def SR.od(r:SR K B H0 V0 H Z U Y)(i:Nat)(ks:List d3)(ds:List D)(h:Y[i]?=some (some (.od ks ds))):∃a kvs,U[i]?=some (some (.ref a))/\a∈Z/\a∉B/\H0 a=none/\H a=some (.dK kvs)/\kvs.map (·.1)=ks/\g9 K (K5 Z H) ds (kvs.map (·.2)):=by obtain⟨a,o,h1,h2,h3,h4,h5,kvs,rfl,h7,h8⟩:=r.own i (.d ks ds) h;exact⟨a,kvs,h1,h2,h3,h4,h5,h7,h8⟩
def SR.mono(r:SR K B H0 V0 H Z U Y)(e:j8 H H'):SR K B H0 V0 H' Z U Y:=
 ⟨r.same.trans e,r.tb.mono e,r.vis.trans (x6 e),r.sub,λz hz=>let ⟨o,h⟩:=r.zs z hz;⟨o,e _ _ h⟩,
  λi d h=>let ⟨v,h1,h2⟩:=r.sh i d h;⟨v,h1,h2.mono (x6 e)⟩,
  λi c h=>let ⟨a,o,h1,h2,hb,h3,h4,h5⟩:=r.own i c h;⟨a,o,h1,h2,hb,h3,e _ _ h4,h5.mono (x6 e)⟩,r.inj,r.len⟩
def SR.vis'(r:SR K B H0 V0 H Z U Y)(e:j8 V1 (K5 Z H)):SR K B H0 V1 H Z U Y:=
 ⟨r.same,r.tb,e,r.sub,r.zs,r.sh,r.own,r.inj,r.len⟩
def SR.newer(r:SR K B H0 V0 H Z U Y)(h:H a=none):a∉Z:=λz=>by obtain⟨o,e⟩:=r.zs a z;rw[h]at e;cases e
def SR.more(r:SR K B H0 V0 H Z U Y){o:HO}(hn:H a=none)(e:j8 H H')(ha:H' a=some o):SR K B H0 V0 H' (a::Z) U Y:=
 ⟨r.same.trans e,r.tb.mono e,r.vis.trans (qK hn e),λb hb=>A7 _ (r.sub b hb),λz hz=>(Ad.mp hz).elim (λq=>⟨o,q▸ha⟩) λq=>let ⟨u,h⟩:=r.zs z q;⟨u,e _ _ h⟩,
  λi d h=>let ⟨v,h1,h2⟩:=r.sh i d h;⟨v,h1,h2.mono (qK hn e)⟩,
  λi c h=>let ⟨b,o,h1,h2,hb,h3,h4,h5⟩:=r.own i c h;⟨b,o,h1,A7 _ h2,hb,h3,e _ _ h4,h5.mono (qK hn e)⟩,r.inj,r.len⟩
def l5{α:Type}{Y:List (Option α)}{i j:Nat}{x y:α}(q:(Y.set i (some x))[j]?=some (some y)):(i=j/\x=y/\i<Y.length)\/(i≠j/\Y[j]?=some (some y)):=by
 by_cases hj:i=j
 .subst hj
  have hl:i<Y.length:=by
   have:=(B2.mp q).1
   rw[Cy]at this;exact this
  rw[Ck hl]at q;cases q;exact .inl ⟨rfl,rfl,hl⟩
 .rw[Bc hj]at q;exact .inr ⟨hj,q⟩
def n8{c:OC}:Cell.sh d=c.cell->False:=λe=>by cases c<;>cases e
def RK{c e:OC}(h:c.cell=e.cell):c=e:=by
 have:=lD Cell.oc h
 rw[c.cell_oc,e.cell_oc]at this;exact Ba this
def SR.set(r:SR K B H0 V0 H Z U Y)(h:d8 K (K5 Z H) d v):SR K B H0 V0 H Z (U.set i (some v)) (Y.set i (some (.sh d))):=by
 refine⟨r.same,r.tb,r.vis,r.sub,r.zs,λj e q=>?_,λj c q=>?_,λj k c e a q1 q2 s1 s2=>?_,by rw[Cy,Cy];exact r.len⟩
 .rcases l5 q with⟨rfl,z,hl⟩|⟨hj,q⟩
  .cases z;exact⟨v,Ck (by rw[r.len];exact hl),h⟩
  .obtain⟨u,h1,h2⟩:=r.sh j e q;exact⟨u,by rw[Bc hj];exact h1,h2⟩
 .rcases l5 q with⟨_,z,_⟩|⟨hj,q⟩
  .exact(n8 z).elim
  .obtain⟨a,o,h1,h2⟩:=r.own j c q;exact⟨a,o,by rw[Bc hj];exact h1,h2⟩
 .rcases l5 q1 with⟨_,z,_⟩|⟨n1,q1⟩
  .exact(n8 z).elim
  rcases l5 q2 with⟨_,z,_⟩|⟨n2,q2⟩
  .exact(n8 z).elim
  rw[Bc n1]at s1;rw[Bc n2]at s2;exact r.inj j k c e a q1 q2 s1 s2
def SR.setO(r:SR K B H0 V0 H Z U Y){a:Av}{o:HO}(hz:a∈Z)(hb:a∉B)(h0:H0 a=none)(hH:H a=some o)(h:o8 K (K5 Z H) c o)(hn:∀(j:Nat) (e:OC),Y[j]?=some (some e.cell)->U[j]?≠some (some (.ref a))):SR K B H0 V0 H Z (U.set i (some (.ref a))) (Y.set i (some c.cell)):=by
 refine⟨r.same,r.tb,r.vis,r.sub,r.zs,λj e q=>?_,λj e q=>?_,λj k fs gs b q1 q2 s1 s2=>?_,by rw[Cy,Cy];exact r.len⟩
 .rcases l5 q with⟨_,z,_⟩|⟨hj,q⟩
  .exact(n8 z.symm).elim
  .obtain⟨u,h1,h2⟩:=r.sh j e q;exact⟨u,by rw[Bc hj];exact h1,h2⟩
 .rcases l5 q with⟨rfl,z,hl⟩|⟨hj,q⟩
  .have:=RK z
   subst this;exact⟨a,o,Ck (by rw[r.len];exact hl),hz,hb,h0,hH,h⟩
  .obtain⟨a',o',h1,h2⟩:=r.own j e q;exact⟨a',o',by rw[Bc hj];exact h1,h2⟩
 .rcases l5 q1 with⟨e1,_,hl⟩|⟨n1,q1⟩
  .rcases l5 q2 with⟨e2,_,_⟩|⟨n2,q2⟩
   .rw[<-e1,<-e2]
   .subst e1;rw[Ck (by rw[r.len];exact hl)]at s1
    cases s1;rw[Bc n2]at s2;exact w9 s2 (hn k gs q2)
  .rw[Bc n1]at s1;rcases l5 q2 with⟨e2,_,hl⟩|⟨n2,q2⟩
   .subst e2;rw[Ck (by rw[r.len];exact hl)]at s2
    cases s2;exact w9 s1 (hn j fs q1)
   .rw[Bc n2]at s2;exact r.inj j k fs gs b q1 q2 s1 s2
def SR.updC(r:SR K B H0 V0 H Z U Y){i:Nat}{c e:OC}(hi:Y[i]?=some (some c.cell))(hs:U[i]?=some (some (.ref a)))(h:o8 K (K5 Z H) e o):
  SR K B H0 V0 (upd H a o) Z U (Y.set i (some e.cell)):=by
 obtain⟨a',o',s1,hz,hb,h0,hH,hld⟩:=r.own i c hi;rw[hs]at s1;cases s1;have vs:j8 (K5 Z H) (K5 Z (upd H a o)):=wJ hz;refine⟨uS h0 r.same,r.tb.upd hH hld.notbl,r.vis.trans vs,r.sub,λz q=>?_,λj d q=>?_,λj f q=>?_,λj k fs gs b q1 q2 s1 s2=>?_,by rw[Cy];exact r.len⟩
 .by_cases e:z=a
  .subst e;exact⟨_,v8⟩
  .obtain⟨o,ho⟩:=r.zs z q;exact⟨o,by rw[j6 e];exact ho⟩
 .rcases l5 q with⟨_,z,_⟩|⟨n,q⟩
  .exact(n8 z.symm).elim
  .obtain⟨u,h1,h2⟩:=r.sh j d q;exact⟨u,h1,h2.mono vs⟩
 .rcases l5 q with⟨rfl,z,_⟩|⟨n,q⟩
  .have:=RK z
   subst this;exact⟨a,o,hs,hz,hb,h0,v8,h.mono vs⟩
  .obtain⟨b,zs,t1,t2,tb,t3,t4,t5⟩:=r.own j f q
   have ne:b≠a:=λz=>by subst z;exact n (r.inj i j _ _ b hi q hs t1)
   exact⟨b,zs,t1,t2,tb,t3,by rw[j6 ne];exact t4,t5.mono vs⟩
 .have g:∀{m:Nat} {fs:OC},(Y.set i (some e.cell))[m]?=some (some fs.cell)->∃fs':OC,Y[m]?=some (some fs'.cell):=λ{m fs} q=>by
   rcases l5 q with⟨rfl,_,_⟩|⟨_,q⟩
   .exact⟨c,hi⟩
   .exact⟨fs,q⟩
  obtain⟨f1,p1⟩:=g q1;obtain⟨f2,p2⟩:=g q2;exact r.inj j k f1 f2 b p1 p2 s1 s2
def SR.updO(r:SR K B H0 V0 H Z U Y){i:Nat}(hi:Y[i]?=some (some (.ow ds)))(hs:U[i]?=some (some (.ref a)))(h:g9 K (K5 Z H) es ys):
  SR K B H0 V0 (upd H a (.lst ys)) Z U (Y.set i (some (.ow es))):=r.updC (c:=.l ds) (e:=.l es) hi hs ⟨ys,rfl,h⟩
end
def tD(K:A5)(f:ED):TE:=λU H Q=>∃Y d B H0 V0 Z,f Y=some d/\SR K B H0 V0 H Z U Y/\∀v H',j8 H H'->d8 K (K5 Z H') d v->Q v H'
def tQ(K:A5)(f:EL):TE:=λU H Q=>∃Y ds B H0 V0 Z,f Y=some ds/\SR K B H0 V0 H Z U Y/\∀a xs H',j8 H H'->(i5 K H' a xs\/i8 K (K5 Z H') a xs)->g9 K (K5 Z H') ds xs->Q (.ref a) H'
def tF(K:A5)(f:EL):TE:=λU H Q=>∃Y ds B H0 V0 Z,f Y=some ds/\SR K B H0 V0 H Z U Y/\∀a xs H',j8 H H'->H a=none->H' a=some (.lst xs)->g9 K (K5 (a::Z) H') ds xs->Q (.ref a) H'
def tT(K:A5)(f:EB):TT:=λU H Q=>∃Y b B H0 V0 Z,f Y=some b/\SR K B H0 V0 H Z U Y/\∀H',j8 H H'->Q b H'
def tL(K:A5)(f:EL):TA:=λU H Q=>∃Y ds B H0 V0 Z,f Y=some ds/\SR K B H0 V0 H Z U Y/\∀xs H',j8 H H'->g9 K (K5 Z H') ds xs->Q xs H'
structure pZ(K:A5)(V:Hp)(J:It)(ds:List D):Prop where
 go:∀H',j8 V H'->∀i,i<ds.length->J.go i H'
 yld:∀H',j8 V H'->∀(i:Nat) x H3,J.yld i H' x H3->j8 H' H3/\∀d,ds[i]?=some d->∀Z:List Av,(∀z∈Z,∃o,H' z=some o)->j8 V (K5 Z H')->d8 K (K5 Z H3) d x
 stop:∀H',j8 V H'->J.stop ds.length H'
def tI(K:A5)(f:EL):TI:=λU H R=>∃Y ds B H0 V0 Z,f Y=some ds/\SR K B H0 V0 H Z U Y/\∀J H',j8 H H'->pZ K (K5 Z H') J ds->R J H'
inductive Out where
 |nx (Y:K6)
 |bk (Y:K6)
 |ct (Y:K6)
 |rt (d:D)
abbrev EO:=K6->Option Out
def Ĭ(K:A5)(B:List Av)(H0 V0:Hp)(E:qA):Out->Prop
 | .nx Y=>∀U H Z,SR K B H0 V0 H Z U Y->E.nx U H
 | .bk Y=>∀U H Z,SR K B H0 V0 H Z U Y->E.bk U H
 | .ct Y=>∀U H Z,SR K B H0 V0 H Z U Y->E.ct U H
 | .rt d=>∀v H,j8 H0 H->d8 K (K5 B H) d v->E.rt v H
def tS(K:A5)(g:EO):TS:=λE U H=>∃Y o B H0 V0 Z,g Y=some o/\SR K B H0 V0 H Z U Y/\Ĭ K B H0 V0 E o
def tG(K:A5)(h:D->K6->Option K6):TG:=λv U H Q=>∃Y d Y' B H0 V0 Z,h d Y=some Y'/\SR K B H0 V0 H Z U Y/\d8 K (K5 Z H) d v/\∀U',SR K B H0 V0 H Z U' Y'->Q U' H
def tGs(K:A5)(h:List D->K6->Option K6):vU:=λvs U H Q=>∃Y ds Y' B H0 V0 Z,h ds Y=some Y'/\SR K B H0 V0 H Z U Y/\g9 K (K5 Z H) ds vs/\∀U',SR K B H0 V0 H Z U' Y'->Q U' H
abbrev SE(X:Cx)(e:Expr)(f:ED):Prop:=PE X e (tD X.K f)
structure ZE(X:Cx)(e:Expr)(f:ED):Prop where
 h:SE X e f
abbrev SQ(X:Cx)(e:Expr)(f:EL):Prop:=PE X e (tQ X.K f)
structure ZQ(X:Cx)(e:Expr)(f:EL):Prop where
 h:SQ X e f
abbrev SF(X:Cx)(e:Expr)(f:EL):Prop:=PE X e (tF X.K f)
structure ZF(X:Cx)(e:Expr)(f:EL):Prop where
 h:SF X e f
abbrev vW(X:Cx)(e:Expr)(f:EB):Prop:=PT X e (tT X.K f)
structure ZT(X:Cx)(e:Expr)(f:EB):Prop where
 h:vW X e f
abbrev STw(X:Cx)(e:Expr)(f:EB):Prop:=PW X e (tT X.K f)
structure ZW(X:Cx)(e:Expr)(f:EB):Prop where
 h:STw X e f
abbrev SA(X:Cx)(es:List Expr)(f:EL):Prop:=PA X es (tL X.K f)
structure ZA(X:Cx)(e:List Expr)(f:EL):Prop where
 h:SA X e f
abbrev SI(X:Cx)(tg e:Expr)(f:EL):Prop:=PI X tg e (tI X.K f)
structure ZI(X:Cx)(tg e:Expr)(f:EL):Prop where
 h:SI X tg e f
abbrev SS(X:Cx)(st:Do)(g:EO):Prop:=PS X st (tS X.K g)
structure ZS(X:Cx)(e:Do)(f:EO):Prop where
 h:SS X e f
abbrev FY(X:Cx)(st:List Do)(g:EO):Prop:=m7 X st (tS X.K g)
structure ZB(X:Cx)(e:List Do)(f:EO):Prop where
 h:FY X e f
abbrev SG(X:Cx)(e:Expr)(h:D->K6->Option K6):Prop:=PG X e (tG X.K h)
structure ZG(X:Cx)(e:Expr)(f:D->K6->Option K6):Prop where
 h:SG X e f
abbrev SGs(X:Cx)(es:List Expr)(h:List D->K6->Option K6):Prop:=vX X es (tGs X.K h)
structure FX(X:Cx)(e:List Expr)(f:List D->K6->Option K6):Prop where
 h:SGs X e f
structure ZP(X:Cx)(ba:List Expr)(f:EB):Prop where
 h:r8 X ba (tT X.K f)
section
variable{X:Cx}{e:Expr}
def j3{t t':TE}(h:PE X e t)(w:∀U H Q,t' U H Q->t U H Q):PE X e t':=λaa s U H Q I q=>h aa s U H Q I (w U H Q q)
def pH{t t':TT}(h:PT X e t)(w:∀U H Q,t' U H Q->t U H Q):PT X e t':=λaa s U H Q I q=>h aa s U H Q I (w U H Q q)
def Rr{t t':TT}(h:PW X e t)(w:∀U H Q,t' U H Q->t U H Q):PW X e t':=λwh aa s U H Q I q=>h wh aa s U H Q I (w U H Q q)
def Rg{t t':TA}(h:PA X es t)(w:∀U H Q,t' U H Q->t U H Q):PA X es t':=λpos aa s U H Q I q=>h pos aa s U H Q I (w U H Q q)
def sY{t t':TI}(h:PI X tg e t)(w:∀U H Q,t' U H Q->t U H Q):PI X tg e t':=λaa s U H Q I q=>h aa s U H Q I (w U H Q q)
def nA{st:Do}{t t':TS}(h:PS X st t)(w:∀E U H,t' E U H->t E U H):PS X st t':=λaa s U H E I q=>h aa s U H E I (w E U H q)
def yS{st:List Do}{t t':TS}(h:m7 X st t)(w:∀E U H,t' E U H->t E U H):m7 X st t':=λaa s U H E I q=>h aa s U H E I (w E U H q)
def Rj{t t':TG}(h:PG X e t)(w:∀v U H Q,t' v U H Q->t v U H Q):PG X e t':=λaa s U H v u Q I r q=>h aa s U H v u Q I r (w v U H Q q)
def Sg{t t':vU}(h:vX X es t)(w:∀v U H Q,t' v U H Q->t v U H Q):vX X es t':=λaa s U H v u Q I r q=>h aa s U H v u Q I r (w v U H Q q)
end
def d9:Nat:=100000
def vG{n:Nat}(h:n<=d9):n<=sizeLine:=by rw[Bs];unfold d9 at h;omega
def EN{n:Nat}(h:n<=d9):n<sizeLine:=by rw[Bs];unfold d9 at h;omega
def z9(i:Nat):ED:=λY=>match Y[i]? with|some (some (.sh d))=>some d|_=>none
def kX(i:Nat):EL:=λY=>match Y[i]? with|some (some (.ow ds))=>some ds|_=>none
def dC(d:D):ED:=λ_=>some d
def Pa{d:D}(e:z9 i Y=some d):Y[i]?=some (some (.sh d)):=by
 unfold z9 at e;split at e
 .rename_i h;cases e;exact h
 .cases e
def wR{d:List D}(e:kX i Y=some d):Y[i]?=some (some (.ow d)):=by
 unfold kX at e;split at e
 .rename_i h;cases e;exact h
 .cases e
section
variable{X:Cx}
def a8(i:Nat){x:Bf}(hN:X.N[i]?=some x:=by rfl)(hv:mS X.env.scope x:=by first|exact E8 rfl|exact Db (E8 rfl)|exact Db (Db rfl))(hd:(x==("__debug__":Bf))=false:=by decide)(aT:(x==("__classdict__":Bf))=false:=by decide):ZE X (.Name x pos) (z9 i):=
 ⟨j3 (nN hN hv hd aT) λU H Q h_=>by
  refine f7 h_ λY d B H0 V0 Z e r q=>?_;obtain⟨v,h1,h2⟩:=r.sh i d (Pa e)
  exact⟨v,h1,q v H (j8.refl H) h2⟩⟩
def sQ(i:Nat){x:Bf}(hN:X.N[i]?=some x:=by rfl)(hv:mS X.env.scope x:=by first|exact E8 rfl|exact Db (E8 rfl)|exact Db (Db rfl))(hd:(x==("__debug__":Bf))=false:=by decide)(aT:(x==("__classdict__":Bf))=false:=by decide):ZQ X (.Name x pos) (kX i):=
 ⟨j3 (nN hN hv hd aT) λU H Q h_=>by
  refine f7 h_ λY ds B H0 V0 Z e r q=>?_;obtain⟨a,xs,h1,h2,hb,h3,h4,h5⟩:=r.ow i ds (wR e)
  exact⟨.ref a,h1,q a xs H (j8.refl H) (.inl (i5.of h4)) h5⟩⟩
def FE(h:PE X e (tC v))(hr:∀H,d8 X.K H d v):SE X e (dC d):=j3 h λU H Q h_=>by refine f7 h_ λY d' B H0 V0 Z e r q=>?_;cases e;exact q v H (j8.refl H) (hr _)
def v6{i j pos}:ZE X (.Constant (.int i) j pos) (dC (.int i)):=
 ⟨FE Ŕ λ_=>v4.mpr rfl⟩
def uG{b j pos}:ZE X (.Constant (.bool b) j pos) (dC (.bl b)):=
 ⟨FE v09 λ_=>K4.mpr rfl⟩
def uN{j pos}:ZE X (.Constant .none j pos) (dC .non):=
 ⟨FE ŕ λ_=>Z8.mpr rfl⟩
def s0{x j pos}:ZE X (.Constant (.str x) j pos) (dC (.str x)):=
 ⟨FE Ř λ_=>Z4.mpr rfl⟩
end
def b9(f:ED):EL:=λY=>match f Y with|some (.lst ds)=>some ds|some (.tup ds)=>some ds|_=>none
def kE(f:EL):ED:=λY=>(f Y).map D.lst
section
variable{X:Cx}{e:Expr}
def MV(h:SE X e f):SQ X e (b9 f):=
 j3 h λU H Q h_=>by
  refine f7 h_ λY ds B H0 V0 Z e r q=>?_;unfold b9 at e;split at e
  .rename_i es he;cases e
   exact⟨Y,_,B,H0,V0,Z,he,r,λv H' s hr=>by
    obtain⟨a,xs,rfl,h2,h3⟩:=J6.mp hr
    exact q a xs H' s (.inl (x8.seq h2)) h3⟩
  .rename_i es he;cases e
   exact⟨Y,_,B,H0,V0,Z,he,r,λv H' s hr=>by
    obtain⟨a,xs,rfl,h2,h3⟩:=j5.mp hr
    exact q a xs H' s (.inr h2) h3⟩
  .cases e
def oA(h:ZF X e f):ZE X e (kE f):=
 ⟨have h:=h.h;
 j3 h λU H Q h_=>by
  refine f7 h_ λY d B H0 V0 Z e r q=>?_;unfold kE at e;obtain⟨ds,he,rfl⟩:=B9.mp e;refine⟨Y,ds,B,H0,V0,Z,he,r,λa xs H' s hn ha hr=>q _ H' s (J6.mpr ⟨a,xs,rfl,i5.of ?_,hr.mono (qJ λb hb=>A7 _ hb)⟩)⟩;rw[Q4 (r.newer hn)]
  exact ha⟩
def AS(h:ZF X e f):ZQ X e f:=
 ⟨have h:=h.h;
 j3 h λU H Q ⟨Y,ds,B,H0,V0,Z,e,r,q⟩=>
  ⟨Y,ds,B,H0,V0,Z,e,r,λa xs H' s hn ha hr=>q a xs H' s (.inl (i5.of ha)) (hr.mono (qJ λb hb=>A7 _ hb))⟩⟩
end
def lK(K:A5)(r:R2)(g:D->D->Option D):Prop:=∀x y d,g x y=some d->∀(Z:List Av) (H:Hp) (u v:V) (Q:VK),(∀z∈Z,∃o,H z=some o)->d8 K (K5 Z H) x u->d8 K (K5 Z H) y v->(∀w' H',j8 H H'->d8 K (K5 Z H') d w'->Q w' H')->r u v H Q
def d2(g:D->D->Option D)(fa fb:ED):ED:=λY=>match fa Y with|some x=>(match fb Y with|some y=>g x y|none=>none)|none=>none
def v5(f:ED):EB:=λY=>match f Y with|some (.bl b)=>some b|_=>none
def QG{d:D}(e:d2 g fa fb Y=some d):∃x y,fa Y=some x/\fb Y=some y/\g x y=some d:=by
 unfold d2 at e;split at e
 .rename_i x hx;split at e
  .rename_i y hy;exact⟨x,y,hx,hy,e⟩
  .cases e
 .cases e
section
variable{X:Cx}{a b c:Expr}{fa fb fc:ED}{pos:Hq}
def IH{K:A5}{r:R2}{g:D->D->Option D}(hr:lK K r g):∀U H Q,tD K (d2 g fa fb) U H Q->xX r (tD K fa) (tD K fb) U H Q:=
 λU H Q h_=>by
  refine f7 h_ λY d B H0 V0 Z e r q=>?_;obtain⟨x,y,ex,ey,e⟩:=QG e
  exact⟨Y,x,B,H0,V0,Z,ex,r,λu H1 s1 r1=>⟨Y,y,B,H0,V0,Z,ey,r.mono s1,λv H2 s2 r2=>
   hr x y d e Z H2 u v Q ((r.mono s1).mono s2).zs (r1.mono (x6 s2)) r2 λw' H' s rr=>q w' H' (s1.trans (s2.trans s)) rr⟩⟩
def tE{K:A5}{f:ED}:∀U H Q,tT K (v5 f) U H Q->tD K f U H (λx H'=>∃k,x = .bl k/\Q k H'):=
 λU H Q h_=>by
  refine f7 h_ λY b B H0 V0 Z e r q=>?_;unfold v5 at e;split at e
  .rename_i b' hb;cases e;exact⟨Y,_,B,H0,V0,Z,hb,r,λv H' s rr=>⟨b,K4.mp rr,q H' s⟩⟩
  .cases e
def DH(ho:kH X (Hs op) r)(hr:lK X.K r g)(ha:SE X a fa)(hb:SE X b fb):SE X (.BinOp a op b pos) (d2 g fa fb):=j3 (SH ho ha hb) (IH hr)
def T0(ho:kH X (Da op) r)(hr:lK X.K r g)(ha:SE X a fa)(hb:SE X b fb)(hm:Dd op b=false):SE X (.Compare a [op] [b] pos) (d2 g fa fb):=j3 (Ri ho ha hb hm) (IH hr)
def xG(ho:kH X (Da op) r)(hr:lK X.K r g)(ha:SE X a fa)(hb:SE X b fb)(hm:Dd op b=false):vW X (.Compare a [op] [b] pos) (v5 (d2 g fa fb)):=pH (IS ho ha hb hm) λU H Q h=>IH hr _ _ _ (tE U H Q h)
def wH(h:ZE X a f)(he:∀whole,isTrue a X.env whole=(do let v <-whole;L0 a.pos;Hd [v] (Ny v)):=by intro _;rfl):ZT X a (v5 f):=
 ⟨have h:=h.h;
 pH (Š h he) λU H Q h=>tE U H Q h⟩
def vE(g g':D->D->Option D)(fa fb fc:ED):ED:=λY=>match fa Y with
 |some x=>(match fb Y with
  |some y=>(match g x y with
   |some (.bl true)=>(match fc Y with|some z=>g' y z|none=>none)
   |some (.bl false)=>some (.bl false)
   |_=>none)
  |none=>none)
 |none=>none
def X3{K:A5}{r r':R2}{g g':D->D->Option D}(hr:lK K r g)(dw:lK K r' g'):∀U H Q,tD K (vE g g' fa fb fc) U H Q->T6 r r' (tD K fa) (tD K fb) (tD K fc) U H Q:=
 λU H Q h_=>by
  refine f7 h_ λY d B H0 V0 Z e r q=>?_;unfold vE at e;split at e
  .rename_i x ex;split at e
   .rename_i y ey;refine⟨Y,x,B,H0,V0,Z,ex,r,λu H1 s1 r1=>⟨Y,y,B,H0,V0,Z,ey,r.mono s1,λv H2 s2 r2=>?_⟩⟩;have R2:=(r.mono s1).mono s2;split at e
    .rename_i eg;split at e
     .rename_i z ez;refine hr x y _ eg Z H2 u v _ R2.zs (r1.mono (x6 s2)) r2 λk H3 s3 r3=>⟨true,K4.mp r3,uA ?_⟩
      exact⟨Y,z,B,H0,V0,Z,ez,R2.mono s3,λw' H4 s4 r4=>dw y z d e Z H4 v w' Q ((R2.mono s3).mono s4).zs (r2.mono (x6 (s3.trans s4))) r4 λk' H5 s5 r5=>
       q k' H5 (s1.trans (s2.trans (s3.trans (s4.trans s5)))) r5⟩
     .cases e
    .rename_i eg;cases e;exact hr x y _ eg Z H2 u v _ R2.zs (r1.mono (x6 s2)) r2 λk H3 s3 r3=>⟨false,K4.mp r3,t9 (q _ H3 (s1.trans (s2.trans s3)) (K4.mpr rfl))⟩
    .cases e
   .cases e
  .cases e
def Zh(ho:kH X (Da op) r)(hr:lK X.K r g)(bJ:kH X (Da op') r')(dw:lK X.K r' g')(ha:ZE X a fa)(hb:ZE X b fb)(hc:ZE X c fc)(hm:lastMarks [op,op'] [b,c]=false:=by with_unfolding_all rfl):ZT X (.Compare a [op,op'] [b,c] pos) (v5 (vE g g' fa fb fc)):=
 ⟨have ha:=ha.h;
 have hb:=hb.h;
 have hc:=hc.h;
 pH (Xl ho bJ ha hb hc hm) λU H Q h=>X3 hr dw _ _ _ (tE U H Q h)⟩
def vK(fa fb:ED):ED:=λY=>match fa Y with|some (.bl true)=>fb Y|some (.bl false)=>some (.bl false)|_=>none
def FB(fa:ED):ED:=λY=>match fa Y with|some (.bl b)=>some (.bl (!b))|_=>none
def pL(fa fb:EB):EB:=λY=>match fa Y with|some true=>fb Y|some false=>some false|none=>none
def sF(fa fb:EB):EB:=λY=>match fa Y with|some true=>some true|some false=>fb Y|none=>none
def pM(fa:EB):EB:=λY=>(fa Y).map (!·)
variable{rest:List Expr}
def JF{op}(h:ZE X a f):ZE X (.BoolOp op [a] pos) f:=
 ⟨have h:=h.h;
 ŗ h⟩
def JD(ha:ZE X a fa)(hb:ZE X (.BoolOp .And (b::rest) pos) fb):ZE X (.BoolOp .And (a::b::rest) pos) (vK fa fb):=
 ⟨have ha:=ha.h;
 have hb:=hb.h;
 j3 (Œ ha hb) λU H Q h_=>by
  refine f7 h_ λY d B H0 V0 Z e r q=>?_;unfold vK at e;split at e
  .rename_i ea;exact⟨Y,_,B,H0,V0,Z,ea,r,λu H1 s1 r1=>⟨true,K4.mp r1,uA ⟨Y,d,B,H0,V0,Z,e,r.mono s1,λv H' s rr=>q v H' (s1.trans s) rr⟩⟩⟩
  .rename_i ea;cases e;exact⟨Y,_,B,H0,V0,Z,ea,r,λu H1 s1 r1=>⟨false,K4.mp r1,t9 (q _ H1 s1 (K4.mpr rfl))⟩⟩
  .cases e⟩
def RF(ha:ZE X a fa):ZE X (.UnaryOp .Not a pos) (FB fa):=
 ⟨have ha:=ha.h;
 j3 (Ŗ ha) λU H Q h_=>by
  refine f7 h_ λY d B H0 V0 Z e r q=>?_;unfold FB at e;split at e
  .rename_i b' ea;cases e;exact⟨Y,_,B,H0,V0,Z,ea,r,λu H1 s1 r1=>⟨b',K4.mp r1,q _ H1 s1 (K4.mpr rfl)⟩⟩
  .cases e⟩
variable{ga gb:EB}
def OM(ha:ZT X a ga):ZW X (.BoolOp .And [a] pos) ga:=
 ⟨have ha:=ha.h;
 ã ha⟩
def JK(ha:ZT X a ga):ZW X (.BoolOp .Or [a] pos) ga:=
 ⟨have ha:=ha.h;
 Ť ha⟩
def RG(ha:ZT X a ga)(hb:ZW X (.BoolOp .And (b::rest) pos) gb):ZW X (.BoolOp .And (a::b::rest) pos) (pL ga gb):=
 ⟨have ha:=ha.h;
 have hb:=hb.h;
 Rr (ţ ha hb) λU H Q h_=>by
  refine f7 h_ λY d B H0 V0 Z e r q=>?_;unfold pL at e;split at e
  .rename_i ea;exact⟨Y,_,B,H0,V0,Z,ea,r,λH1 s1=>uA ⟨Y,d,B,H0,V0,Z,e,r.mono s1,λH' s=>q H' (s1.trans s)⟩⟩
  .rename_i ea;cases e;exact⟨Y,_,B,H0,V0,Z,ea,r,λH1 s1=>t9 (q H1 s1)⟩
  .cases e⟩
def LO(ha:ZT X a ga)(hb:ZW X (.BoolOp .Or (b::rest) pos) gb):ZW X (.BoolOp .Or (a::b::rest) pos) (sF ga gb):=
 ⟨have ha:=ha.h;
 have hb:=hb.h;
 Rr (v05 ha hb) λU H Q h_=>by
  refine f7 h_ λY d B H0 V0 Z e r q=>?_;unfold sF at e;split at e
  .rename_i ea;cases e;exact⟨Y,_,B,H0,V0,Z,ea,r,λH1 s1=>uA (q H1 s1)⟩
  .rename_i ea;exact⟨Y,_,B,H0,V0,Z,ea,r,λH1 s1=>t9 ⟨Y,d,B,H0,V0,Z,e,r.mono s1,λH' s=>q H' (s1.trans s)⟩⟩
  .cases e⟩
def AN(h:ZW X a ga):ZT X a ga:=
 ⟨have h:=h.h;
 PW.pt h⟩
def EE(ha:ZT X a ga):ZT X (.UnaryOp .Not a pos) (pM ga):=
 ⟨have ha:=ha.h;
 pH (ş ha) λU H Q h_=>by
  refine f7 h_ λY d B H0 V0 Z e r q=>?_;unfold pM at e;obtain⟨b',eb,rfl⟩:=B9.mp e
  exact⟨Y,b',B,H0,V0,Z,eb,r,λH1 s1=>q H1 s1⟩⟩
def vS(fc:EB)(fa fb:ED):ED:=λY=>match fc Y with|some true=>fa Y|some false=>fb Y|none=>none
def Uc(hc:ZT X c ga)(ha:ZE X a fa)(hb:ZE X b fb):ZE X (.IfExp c a b pos) (vS ga fa fb):=
 ⟨have hc:=hc.h;
 have ha:=ha.h;
 have hb:=hb.h;
 j3 (Xf hc ha hb) λU H Q h_=>by
  refine f7 h_ λY d B H0 V0 Z e r q=>?_;unfold vS at e;split at e
  .rename_i ea;exact⟨Y,_,B,H0,V0,Z,ea,r,λH1 s1=>uA ⟨Y,d,B,H0,V0,Z,e,r.mono s1,λv H' s rr=>q v H' (s1.trans s) rr⟩⟩
  .rename_i ea;exact⟨Y,_,B,H0,V0,Z,ea,r,λH1 s1=>t9 ⟨Y,d,B,H0,V0,Z,e,r.mono s1,λv H' s rr=>q v H' (s1.trans s) rr⟩⟩
  .cases e⟩
end
def TM:Expr->Bool
 | .Starred _ _=>false
 |_=>true
def u4{es:List Expr}(h:TM e=true):Ab (e::es) env=(false,Ce e env)::Ab es env:=by cases e<;>first|(cases h;done)|(rw[Ab];intro _ _ z;cases z)|rw[Ab]
theorem J3:∀{es:List Expr},es.all TM=true->(C8 pos (Ab es env)).any (·.1)=false
 | [],_=>rfl
 |e::es,h=>by rw[List.all_cons,Bi]at h;rw[u4 h.1];have ih:=@J3 pos env es h.2;unfold C8 at ih ⊢;rw[Af,Ex,ih];rfl
def i3:EL:=λ_=>some []
def y9(f:ED)(g:EL):EL:=λY=>match f Y with|some d=>(match g Y with|some ds=>some (d::ds)|none=>none)|none=>none
section
variable{X:Cx}{e:Expr}{es:List Expr}{f:ED}{g:EL}{pos:Hq}
def xF:SA X [] i3:=Rg Y8 λU H Q h_=>by refine f7 h_ λY ds B H0 V0 Z e r q=>?_;cases e;exact q [] H (j8.refl H) g9.nil
def qF(ha:SE X e f)(hr:SA X es g)(hs:Ab (e::es) X.env=(false,Ce e X.env)::Ab es X.env:=by exact u4 rfl):SA X (e::es) (y9 f g):=
 Rg (J4 ha hr hs) λU H Q h_=>by
  refine f7 h_ λY ds B H0 V0 Z e r q=>?_;unfold y9 at e;split at e
  .rename_i d ed;split at e
   .rename_i ds' aH;cases e;exact⟨Y,d,B,H0,V0,Z,ed,r,λv H1 s1 r1=>⟨Y,ds',B,H0,V0,Z,aH,r.mono s1,λvs H2 s2 r2=>q (v::vs) H2 (s1.trans s2) (g9.cons (r1.mono (x6 s2)) r2)⟩⟩
   .cases e
  .cases e
def kD(g:EL):ED:=λY=>match g Y with|some ds=>if ds.length<=d9 then some (.tup ds) else none|none=>none
def pB(g:EL):EL:=λY=>match g Y with|some ds=>if ds.length<=d9 then some ds else none|none=>none
def mW{x1}(h:ZA X es g):ZE X (.Tuple es x1 pos) (kD g):=
 ⟨have h:=h.h;
 j3 (ř h) λU H Q h_=>by
  refine f7 h_ λY d B H0 V0 Z e r q=>?_;unfold kD at e;split at e
  .rename_i ds aH;split at e
   .rename_i hl;cases e;refine⟨Y,ds,B,H0,V0,Z,aH,r,λxs H1 s1 r1=>⟨vG (by rw[<-r1.length];exact hl),λp hp=>?_⟩⟩
    have sn:=u9 (o:=HO.tup xs) hp;refine q _ _ (s1.trans sn) (j5.mpr ⟨p,xs,rfl,i8.of ?_,r1.mono (x6 sn)⟩);rw[Q4 ((r.mono s1).newer hp)];exact v8
   .cases e
  .cases e⟩
def uO(h:ZA X es g):ZF X (.List es pos) (pB g):=
 ⟨have h:=h.h;
 j3 (TK h) λU H Q h_=>by
  refine f7 h_ λY d B H0 V0 Z e r q=>?_;unfold pB at e;split at e
  .rename_i ds aH;split at e
   .rename_i hl;cases e;refine⟨Y,_,B,H0,V0,Z,aH,r,λxs H1 s1 r1=>⟨vG (by rw[<-r1.length];exact hl),λp hp=>?_⟩⟩
    exact q p xs _ (s1.trans (u9 hp)) (s1.free hp) v8 (r1.mono (qK hp (u9 hp)))
   .cases e
  .cases e⟩
def sJ(K:A5)(F:LD):Sp:=λvs H Q _=>∃Z ds d,(TB K H/\∀z∈Z,∃o,H z=some o)/\g9 K (K5 Z H) ds vs/\F ds=some d/\∀v H',j8 H H'->d8 K (K5 Z H') d v->Q v H'
def x5(F:LD)(g:EL):ED:=λY=>match g Y with|some ds=>F ds|none=>none
def ñ(G:kJ X.prog X.w X.K X.mg X.base lY k f' fd ps (sJ X.K F))(hr:d4 k X.A)(hm:X.mg x=some (.ref f'))(hk:F8 X.K (.ref f')=true)(hb:tM X.K fd ps [])(ha:SA X (e::es) g)(hg:Gl X x:=by rfl)(br:(x==("__debug__":Bf))=false:=by decide)(he:Ab (e::es) X.env=(false,Ce e X.env)::Ab es X.env:=by exact u4 rfl)(af:(C8 pos (Ab es X.env)).any (·.1)=false:=by exact J3 rfl):
  SE X (.Call (.Name x p) (e::es) [] pos) (x5 F g):=
 j3 (Rh G hr hg hm hk hb .nil SC ha br he af) λU H Q h_=>by
  refine f7 h_ λY d B H0 V0 Z e r q=>?_;unfold x5 at e;split at e
  .rename_i ds aH;refine⟨Y,ds,B,H0,V0,Z,aH,r,λvs H1 s1 r1=>?_⟩;show sJ X.K F (vs++[]) H1 Q E0;rw[Bx];exact⟨Z,ds,d,⟨(r.mono s1).tb,(r.mono s1).zs⟩,r1,e,λv H' s rr=>q v H' (s1.trans s) rr⟩
  .cases e
end
def Q8(g k:EO):EO:=λY=>match g Y with|some (.nx Y')=>k Y'|o=>o
def kO:EO:=λY=>some (.nx Y)
def i9(f:ED):EO:=λY=>match f Y with|some d=>some (.rt d)|none=>none
def jZ(c:EB)(g k:EO):EO:=λY=>match c Y with|some true=>g Y|some false=>k Y|none=>none
def f9(i:Nat)(f:ED):EO:=λY=>match f Y with|some d=>some (.nx (Y.set i (some (.sh d))))|none=>none
def qP(i:Nat)(f:EL):EO:=λY=>match f Y with|some d=>some (.nx (Y.set i (some (.ow d))))|none=>none
def dAsg(f:ED)(h:D->K6->Option K6):EO:=λY=>match f Y with|some d=>(match h d Y with|some Y'=>some (.nx Y')|none=>none)|none=>none
def u5(i:Nat):D->K6->Option K6:=λd Y=>some (Y.set i (some (.sh d)))
def nY:List D->K6->Option K6:=λds Y=>match ds with|[]=>some Y|_=>none
def lN(h:D->K6->Option K6)(k:List D->K6->Option K6):List D->K6->Option K6:=λds Y=>match ds with|d::r=>(match h d Y with|some Y'=>k r Y'|none=>none)|[]=>none
def nZ(n:Nat)(k:List D->K6->Option K6):D->K6->Option K6:=λd Y=>match d with|.tup ds=>if ds.length=n then k ds Y else none|_=>none
def pO(i:Nat)(f:K6->Option (List d3×List D)):EO:=λY=>match f Y with|some d=>some (.nx (Y.set i (some (.od d.1 d.2))))|none=>none
def frz(i:Nat)(Y:K6):K6:=match Y[i]? with|some (some c)=>(match c.oc with|some o=>Y.set i (some (.sh o.dat))|none=>Y)|_=>Y
def Ò{c:Cell}{o:OC}(h:c.oc=some o):c=o.cell:=by cases c<;>cases h<;>rfl
def tFD(K:A5)(f:K6->Option (List d3×List D)):TE:=λU H Q=>∃Y ds B H0 V0 Z,f Y=some ds/\SR K B H0 V0 H Z U Y/\∀a kvs H',j8 H H'->H a=none->H' a=some (.dK kvs)->kvs.map (·.1)=ds.1->g9 K (K5 (a::Z) H') ds.2 (kvs.map (·.2))->Q (.ref a) H'
abbrev SFD(X:Cx)(e:Expr)(f:K6->Option (List d3×List D)):Prop:=PE X e (tFD X.K f)
structure AW(X:Cx)(e:Expr)(f:K6->Option (List d3×List D)):Prop where
 h:SFD X e f
section
variable{X:Cx}{st:Do}{rest:List Do}{e c:Expr}{pos:Hq}{f:ED}{g k:EO}
def mP:ZB X [] kO:=
 ⟨yS â λE U H h_=>by
 refine f7 h_ λY o B H0 V0 Z e r q=>?_;cases e
 exact q U H Z r⟩
def y4(h1:ZS X st g)(h2:ZB X rest k):ZB X (st::rest) (Q8 g k):=
 ⟨have h1:=h1.h;
 have h2:=h2.h;
 yS (yR h1 h2) λE U H h_=>by
  refine f7 h_ λY o B H0 V0 Z e r q=>?_;unfold Q8 at e;split at e
  .rename_i Y' eg;exact⟨Y,_,B,H0,V0,Z,eg,r,λU' H' Z' r'=>⟨Y',o,B,H0,V0,Z',e,r',q⟩⟩
  .rename_i ah;refine⟨Y,o,B,H0,V0,Z,e,r,?_⟩
   cases o with
   |nx Y'=>exact w9 e (ah Y')
   |bk Y'=>exact q
   |ct Y'=>exact q
   |rt d=>exact q⟩
def y8(h1:ZS X st g):ZB X [st] g:=
 ⟨have h1:=h1.h;
 DW h1⟩
def u3(h:ZE X e f):ZS X (.Return (some e) pos) (i9 f):=
 ⟨have h:=h.h;
 nA (LJ h) λE U H h_=>by
 refine f7 h_ λY o B H0 V0 Z e r q=>?_;unfold i9 at e;split at e
 .rename_i d ed;cases e;exact⟨Y,d,B,H0,V0,Z,ed,r,λv H' s rr=>q v H' (r.same.trans s) (rr.mono (qJ r.sub))⟩
 .cases e⟩
def mC(hc:ZT X c fc)(ha:ZB X a g)(hb:ZB X b k):ZS X (.If c a b pos) (jZ fc g k):=
 ⟨have hc:=hc.h;
 have ha:=ha.h;
 have hb:=hb.h;
 nA (v07 hc ha hb) λE U H h_=>by
  refine f7 h_ λY o B H0 V0 Z e r q=>?_;unfold jZ at e;split at e
  .rename_i ec;exact⟨Y,true,B,H0,V0,Z,ec,r,λH' s=>uA ⟨Y,o,B,H0,V0,Z,e,r.mono s,q⟩⟩
  .rename_i ec;exact⟨Y,false,B,H0,V0,Z,ec,r,λH' s=>t9 ⟨Y,o,B,H0,V0,Z,e,r.mono s,q⟩⟩
  .cases e⟩
def J9{i:Nat}{x:Bf}(he:ZE X e f)(hN:X.N.Nodup)(hi:X.N[i]?=some x:=by rfl)(hx:mT X.env.scope x:=by first|exact E8 rfl|exact Db rfl)(hs:Ej e (some (.Name x aU)) pos.line X.env=Cr false:=by rfl)(hf:X.fn x=true\/X.env.scope.names.lookup x=some .local:=by first|exact .inl rfl|exact .inr rfl):ZS X (.Assign [.Name x aU] e pos) (f9 i f):=
 ⟨have he:=he.h;
 nA (LK hN hi hx he hs hf) λE U H h_=>by
  refine f7 h_ λY o B H0 V0 Z e r q=>?_;unfold f9 at e;split at e
  .rename_i d ed;cases e;exact⟨Y,d,B,H0,V0,Z,ed,r,λv H' s rr=>q _ H' Z ((r.mono s).set rr)⟩
  .cases e⟩
def wN{i:Nat}{x:Bf}(he:ZF X e fl)(hN:X.N.Nodup)(hi:X.N[i]?=some x:=by rfl)(hx:mT X.env.scope x:=by first|exact E8 rfl|exact Db rfl)(hs:Ej e (some (.Name x aU)) pos.line X.env=Cr false:=by rfl)(hf:X.fn x=true\/X.env.scope.names.lookup x=some .local:=by first|exact .inl rfl|exact .inr rfl):ZS X (.Assign [.Name x aU] e pos) (qP i fl):=
 ⟨have he:=he.h;
 nA (LK hN hi hx he hs hf) λE U H h_=>by
  refine f7 h_ λY o B H0 V0 Z e r q=>?_;unfold qP at e;split at e
  .rename_i ds ed;cases e;refine⟨Y,ds,B,H0,V0,Z,ed,r,λa xs H' s hn ha rr=>q _ H' (a::Z) ?_⟩;refine(r.more hn s ha).setO (c:=.l ds) A6 (λz=>r.newer hn (r.sub _ z)) ?_ ha ⟨_,rfl,rr⟩ λj es hj cv=>?_
   .exact r.same.free hn
   .obtain⟨b,ys,t1,t2,_⟩:=r.own j es hj;rw[cv]at t1;cases t1;exact r.newer hn t2
  .cases e⟩
def rR{i:Nat}{x:Bf}(he:AW X e fl)(hN:X.N.Nodup)(hi:X.N[i]?=some x:=by rfl)(hx:mT X.env.scope x:=by first|exact E8 rfl|exact Db rfl)(hs:Ej e (some (.Name x aU)) pos.line X.env=Cr false:=by rfl)(hf:X.fn x=true\/X.env.scope.names.lookup x=some .local:=by first|exact .inl rfl|exact .inr rfl):ZS X (.Assign [.Name x aU] e pos) (pO i fl):=
 ⟨have he:=he.h;
 nA (LK hN hi hx he hs hf) λE U H h_=>by
  refine f7 h_ λY o B H0 V0 Z e r q=>?_;unfold pO at e;split at e
  .rename_i ds ed;cases e;refine⟨Y,ds,B,H0,V0,Z,ed,r,λa xs H' s hn ha rk rr=>q _ H' (a::Z) ?_⟩;refine(r.more hn s ha).setO (c:=.d ds.1 ds.2) A6 (λz=>r.newer hn (r.sub _ z)) ?_ ha ⟨_,rfl,rk,rr⟩ λj es hj cv=>?_
   .exact r.same.free hn
   .obtain⟨b,ys,t1,t2,_⟩:=r.own j es hj;rw[cv]at t1;cases t1;exact r.newer hn t2
  .cases e⟩
def v9{i:Nat}{x:Bf}(hN:X.N.Nodup)(hi:X.N[i]?=some x:=by rfl)(hx:mT X.env.scope x:=by first|exact E8 rfl|exact Db rfl)(hf:X.fn x=true\/X.env.scope.names.lookup x=some .local:=by first|exact .inl rfl|exact .inr rfl):ZG X (.Name x pos) (u5 i):=
 ⟨Rj (DV hN hi hx hf) λv U H Q h_=>by
  obtain⟨Y,d,Y',B,H0,V0,Z,e,r,rr,q⟩:=h_;cases e
  exact q _ (r.set rr)⟩
def yW:FX X [] nY:=
 ⟨Sg Rk λv U H Q h_=>by
 obtain⟨Y,ds,Y',B,H0,V0,Z,e,r,rr,q⟩:=h_;unfold nY at e;split at e
 .cases e;exact⟨K3.mp rr,q U r⟩
 .cases e⟩
def qL(h1:ZG X e h)(h2:FX X es kk)(hs:(Ef (e::es) X.env).map (·.2)=Md e X.env::(Ef es X.env).map (·.2):=by rfl):FX X (e::es) (lN h kk):=
 ⟨have h1:=h1.h;
 have h2:=h2.h;
 Sg (JP h1 h2 hs) λv U H Q h_=>by
  obtain⟨Y,ds,Y',B,H0,V0,Z,e,r,rr,q⟩:=h_;unfold lN at e;split at e
  .rename_i d rs;split at e
   .rename_i Y1 e1;obtain⟨v',iY,rfl,t1,t2⟩:=j7.mp rr;exact⟨v',iY,rfl,Y,d,Y1,B,H0,V0,Z,e1,r,t1,λU' r'=>⟨Y1,rs,Y',B,H0,V0,Z,e,r',t2,q⟩⟩
   .cases e
  .cases e⟩
def yH{n:Nat}(hc:X.calm=true)(h:FX X es kk)(hn:(Ef es X.env).length=n:=by rfl)(bX:(Ef es X.env).findIdx? (·.1)=none:=by rfl):ZG X (.Tuple es kt pos) (nZ n kk):=
 ⟨have h:=h.h;
 Rj (TL hc h hn bX) λv U H Q h_=>by
  obtain⟨Y,d,Y',B,H0,V0,Z,e,r,rr,q⟩:=h_;unfold nZ at e;split at e
  .rename_i ds;split at e
   .rename_i hl;obtain⟨a,xs,rfl,t1,t2⟩:=j5.mp rr;exact⟨a,xs,rfl,j9 x8 t1,t2.length.symm.trans hl,Y,ds,Y',B,H0,V0,Z,e,r,t2,q⟩
   .cases e
  .cases e⟩
def SR.frz{K:A5}{B Z:List Av}{H0 V0 H:Hp}{U:St}{Y:K6}(i:Nat)(r:SR K B H0 V0 H Z U Y):∃Z',SR K B H0 V0 H Z' U (frz i Y)/\(∀b∈Z',b∈Z)/\(∀b∈Z,b∉Z'->∃(c:OC) (o:HO),Y[i]?=some (some c.cell)/\H b=some o/\o8 K (K5 Z H) c o):=by
 unfold L3.frz;split
 .rename_i cc hi;split
  .rename_i c hc;have hcc:=Ò hc;subst hcc;obtain⟨a,o,h1,h2,hnb,h3,h4,h5⟩:=r.own i c hi;have bY:∀b∈Z.filter (λb=>decide (b≠a)),b∈Z:=λb hb=>(Az.mp hb).1;have hm:j8 (K5 Z H) (K5 (Z.filter (λb=>decide (b≠a))) H):=qJ bY;have hl:i<Y.length:=(B2.mp hi).1;refine⟨Z.filter (λb=>decide (b≠a)),⟨r.same,r.tb,r.vis.trans hm,λb hb=>?_,λz hz=>r.zs z (bY z hz),λj d q=>?_,λj es q=>?_,λj k fs gs b q1 q2 s1 s2=>?_,by rw[Cy];exact r.len⟩,bY,λb hb nb=>?_⟩
   .exact Az.mpr ⟨r.sub b hb,K9 λz=>hnb (z▸hb)⟩
   .rcases l5 q with⟨rfl,z,_⟩|⟨n,q⟩
    .cases z;refine⟨_,h1,(h5.mono hm).rep ?_⟩;rw[Q4 (λz=>w9 rfl (lC (Az.mp z).2))];exact h4
    .obtain⟨v,t1,t2⟩:=r.sh j d q;exact⟨v,t1,t2.mono hm⟩
   .rcases l5 q with⟨_,z,_⟩|⟨n,q⟩
    .exact(n8 z).elim
    .obtain⟨b,ys,t1,t2,tb,t3,t4,t5⟩:=r.own j es q;refine⟨b,ys,t1,Az.mpr ⟨t2,K9 λz=>?_⟩,tb,t3,t4,t5.mono hm⟩;subst z;exact n (r.inj i j _ _ b hi q h1 t1)
   .rcases l5 q1 with⟨_,z,_⟩|⟨n1,q1⟩
    .exact(n8 z).elim
    rcases l5 q2 with⟨_,z,_⟩|⟨n2,q2⟩
    .exact(n8 z).elim
    exact r.inj j k fs gs b q1 q2 s1 s2
   .have eb:b=a:=C4 λz=>nb (Az.mpr ⟨hb,K9 z⟩);subst eb;exact⟨c,o,hi,h4,h5⟩
  .exact⟨Z,r,λ_ h=>h,λb hb nb=>w9 hb nb⟩
 .exact⟨Z,r,λ_ h=>h,λb hb nb=>w9 hb nb⟩
def rN(i:Nat)(h:ZS X st g):ZS X st (λY=>g (frz i Y)):=
 ⟨have h:=h.h;
 nA h λE U H h_=>by
 refine f7 h_ λY o B H0 V0 Z e r q=>?_;obtain⟨Z',r',_⟩:=r.frz i
 exact⟨frz i Y,o,B,H0,V0,Z',e,r',q⟩⟩
def W5(h:D->K6->Option K6)(g:EO):List D->EO
 | [],Y=>some (.nx Y)
 |d::ds,Y=>match h d Y with
  |none=>none
  |some Y1=>match g Y1 with
   |some (.nx Y2)=>W5 h g ds Y2
   |some (.ct Y2)=>W5 h g ds Y2
   |some (.bk Y2)=>some (.nx Y2)
   |some (.rt v)=>some (.rt v)
   |none=>none
def kW(fi:EL)(h:D->K6->Option K6)(g:EO):EO:=λY=>match fi Y with|some ds=>W5 h g ds Y|none=>none
def mE(hp:Mm (B0 X.prog X.w) X.A X.env X.xe)(hc:X.calm=true)(hi:ZI X tg ag fi)(hg:ZG X tg h)(hb:ZB X body g)(hs:∀x,Cz ag X.env x=Cr x:=by intro _;rfl):ZS X (.For tg ag body [] pos) (kW fi h g):=
 ⟨have hi:=hi.h;
 have hg:=hg.h;
 have hb:=hb.h;
 nA (TN hp hc hi hg hb hs) λE U H h_=>by
  refine f7 h_ λY o B H0 V0 Z e r q=>?_;unfold kW at e;split at e
  .rename_i ds aH;refine⟨Y,ds,B,H0,V0,Z,aH,r,λJ H1 s1 wk=>?_⟩;have R1:=r.mono s1;have RV:SR X.K B H0 (K5 Z H1) H1 Z U Y:=R1.vis' (λ_ _ h=>h);have jy:∀{U' H' Z' Y'},SR X.K B H0 (K5 Z H1) H' Z' U' Y'->SR X.K B H0 V0 H' Z' U' Y':=λr'=>r'.vis' (R1.vis.trans r'.vis);refine⟨λi m U' H'=>m=ds.length-i/\i<=ds.length/\∃Y' Z',SR X.K B H0 (K5 Z H1) H' Z' U' Y'/\W5 h g (ds.drop i) Y'=some o,⟨_,rfl,Bg _,Y,Z,RV,e⟩,?_⟩
   rintro i m U' H' ⟨rfl,cu,Y',Z',r',e'⟩;have vis:j8 (K5 Z H1) H':=r'.vis.trans x8;by_cases am:i<ds.length
   .refine .inr ⟨wk.go H' vis i am,λU2 H2=>∃Y2 Z2,SR X.K B H0 (K5 Z H1) H2 Z2 U2 Y2/\W5 h g (ds.drop (i+1)) Y2=some o,λU2 H2 ⟨Y2,Z2,r2,e2⟩=>⟨ds.length-(i+1),by omega,rfl,am,Y2,Z2,r2,e2⟩,λx H3 hy=>?_⟩;obtain⟨sH,hx⟩:=wk.yld H' vis i x H3 hy;have hd:=hx ds[i] (A4 am) Z' r'.zs r'.vis;rw[Hl am]at e';unfold W5 at e';split at e'
    .cases e'
    .rename_i Y1 e1;refine⟨Y',ds[i],Y1,B,H0,K5 Z H1,Z',e1,r'.mono sH,hd,λU4 r4=>?_⟩;split at e'
     .rename_i Y2 e2;exact⟨Y1,_,B,H0,K5 Z H1,Z',e2,r4,λU5 H5 Z5 r5=>⟨Y2,Z5,r5,e'⟩⟩
     .rename_i Y2 e2;exact⟨Y1,_,B,H0,K5 Z H1,Z',e2,r4,λU5 H5 Z5 r5=>⟨Y2,Z5,r5,e'⟩⟩
     .rename_i Y2 e2;cases e';exact⟨Y1,_,B,H0,K5 Z H1,Z',e2,r4,λU5 H5 Z5 r5=>q U5 H5 Z5 (jy r5)⟩
     .rename_i v e2;cases e';exact⟨Y1,_,B,H0,K5 Z H1,Z',e2,r4,q⟩
     .cases e'
   .have ei:i=ds.length:=by omega
    subst ei;rw[List.drop_length]at e';unfold W5 at e';cases e';exact .inl ⟨wk.stop H' vis,q U' H' Z' (jy r')⟩
  .cases e⟩
def Zb{K:A5}{W0:Hp}{a:Av}{xs:List V}{ds:List D}(h1:i5 K W0 a xs)(h2:g9 K W0 ds xs):pZ K W0 (NK K a) ds where
 go:=λH' s i hi=>by obtain⟨v,hv,_⟩:=h2.get (A4 hi);exact⟨xs,v,s.seq h1,hv⟩
 yld:=λH' s i x H3 hy=>by
  obtain⟨rfl,hx⟩:=hy;refine⟨j8.refl _,λd hd Z hz hs=>?_⟩;obtain⟨v,hv,rv⟩:=h2.get hd
  have:=hx xs (s.seq h1)
  rw[hv]at this;cases this;exact rv.mono hs
 stop:=λH' s=>⟨xs,s.seq h1,by rw[h2.length];exact Aj _⟩
def XB{K:A5}{W0:Hp}{a:Av}{xs:List V}{ds:List D}(h1:i8 K W0 a xs)(h2:g9 K W0 ds xs):pZ K W0 (NJ K a) ds where
 go:=λH' s i hi=>by obtain⟨v,hv,_⟩:=h2.get (A4 hi);exact⟨xs,v,j9 s h1,hv⟩
 yld:=λH' s i x H3 hy=>by
  obtain⟨rfl,hx⟩:=hy;refine⟨j8.refl _,λd hd Z hz hs=>?_⟩;obtain⟨v,hv,rv⟩:=h2.get hd
  have:=hx xs (j9 s h1)
  rw[hv]at this;cases this;exact rv.mono hs
 stop:=λH' s=>⟨xs,j9 s h1,by rw[h2.length];exact Aj _⟩
def Q2(lo:Int)(n:Nat):List D:=(A9 n).map λ(k:Nat)=>D.int (lo+(k:Int))
def OE{K:A5}{W0:Hp}(lo:Int)(n:Nat):pZ K W0 (BA lo n) (Q2 lo n) where
 go:=λH' s i hi=>by show i<n;simpa [Q2] using hi
 yld:=λH' s i x H3 hy=>by
  obtain⟨rfl,rfl⟩:=hy;refine⟨j8.refl _,λd hd Z hz hs=>?_⟩;unfold Q2 at hd;rw[Am]at hd
  cases hr:(A9 n)[i]? with
  |none=>rw[hr]at hd;cases hd
  |some k=>
   rw[hr]at hd
   have ek:k=i:=by
    have:=B2.mp hr
    obtain⟨h1,h2⟩:=this;simpa using h2.symm
   subst ek;cases hd;exact v4.mpr rfl
 stop:=λH' s=>by show n<=(Q2 lo n).length;simp[Q2]
variable{tg:Expr}
def oD(f:ED):EL:=λY=>match f Y with|some (.lst ds)=>some ds|_=>none
def KR(f:ED):EL:=λY=>match f Y with|some (.tup ds)=>some ds|_=>none
def Ű(h:SE X e f):SI X tg e (oD f):=sY (Rm h) λU H R h_=>by
 refine f7 h_ λY ds B H0 V0 Z e r q=>?_;unfold oD at e;split at e
 .rename_i es he;cases e;refine⟨Y,_,B,H0,V0,Z,he,r,λv H' s rr=>?_⟩;obtain⟨a,xs,rfl,h1,h2⟩:=J6.mp rr;exact⟨a,rfl,⟨xs,x8.seq h1⟩,q _ H' s (Zb h1 h2)⟩
 .cases e
def ű(h:SE X e f):SI X tg e (KR f):=sY (ŝ h) λU H R h_=>by
 refine f7 h_ λY ds B H0 V0 Z e r q=>?_;unfold KR at e;split at e
 .rename_i es he;cases e;refine⟨Y,_,B,H0,V0,Z,he,r,λv H' s rr=>?_⟩;obtain⟨a,xs,rfl,h1,h2⟩:=j5.mp rr;exact⟨a,rfl,⟨xs,j9 x8 h1⟩,q _ H' s (XB h1 h2)⟩
 .cases e
def mY(i:Int):Bool:=decide (-(2 ^ 62)<=i)&&decide (i<2 ^ 62)
def xE(h:mY i=true) : -(2 ^ 62)<=i/\i<2 ^ 62:=by unfold mY at h;rw[Bi]at h;exact⟨lC h.1,lC h.2⟩
def lB(f:ED):EL:=λY=>match f Y with|some (.int j)=>if mY j=true then some (Q2 0 j.toNat) else none|_=>none
def tU(f f':ED):EL:=λY=>match f Y with
 |some (.int i)=>(match f' Y with|some (.int j)=>if mY i=true/\mY j=true then some (Q2 i (j-i).toNat) else none|_=>none)
 |_=>none
def pJ{p:Hq}(hm:X.mg "range" = none)(h:ZE X e f)(hg:Gl X "range":=by rfl)(hs:Ab [e] X.env=[(false,Ce e X.env)]:=by rfl):ZI X tg (.Call (.Name "range" p) [e] [] pos) (lB f):=
 ⟨have h:=h.h;
 sY (YG hg hm (J4 h Y8 (by rw[hs];rfl)) hs) λU H R h_=>by
  refine f7 h_ λY ds B H0 V0 Z e r q=>?_;unfold lB at e;split at e
  .rename_i j he;split at e
   .rename_i hok;cases e;refine⟨Y,_,B,H0,V0,Z,he,r,λv H' s rr=>?_⟩
    obtain rfl:=v4.mp rr
    exact⟨j,rfl,(xE hok).1,(xE hok).2,q _ H' s (OE 0 j.toNat)⟩
   .cases e
  .cases e⟩
def XG{p:Hq}(hm:X.mg "range" = none)(h:ZE X e f)(h':ZE X e' f')(hg:Gl X "range":=by rfl)(hs:Ab [e,e'] X.env=[(false,Ce e X.env),(false,Ce e' X.env)]:=by rfl)(bH:Ab [e'] X.env=[(false,Ce e' X.env)]:=by rfl):ZI X tg (.Call (.Name "range" p) [e,e'] [] pos) (tU f f'):=
 ⟨have h:=h.h;
 have h':=h'.h;
 sY (YH hg hm (J4 h (J4 h' Y8 (by rw[bH];rfl)) (by rw[hs,bH])) hs bH) λU H R h_=>by
  refine f7 h_ λY ds B H0 V0 Z e r q=>?_;unfold tU at e;split at e
  .rename_i i he;split at e
   .rename_i j hj;split at e
    .rename_i hok;cases e;refine⟨Y,_,B,H0,V0,Z,he,r,λv H1 s1 r1=>⟨Y,_,B,H0,V0,Z,hj,r.mono s1,λw' H' s rr=>?_⟩⟩
     obtain rfl:=v4.mp r1
     obtain rfl:=v4.mp rr
     exact⟨i,j,rfl,⟨(xE hok.1).1,(xE hok.1).2,(xE hok.2).1,(xE hok.2).2⟩,q _ H' (s1.trans s) (OE i (j-i).toNat)⟩
    .cases e
   .cases e
  .cases e⟩
def nF(cap:List (Option Nat))(Y:K6):K6:=cap.map λo=>o.bind λj=>(Y[j]?).bind id
def oC(h:D->K6->Option K6)(ft:EB)(fe:ED):K6->List D->Option (List D)
 |_,[]=>some []
 | Y,d::ds=>match h d Y with
  |none=>none
  |some Y1=>match ft Y1 with
   |some true=>(match fe Y1 with
    |some y=>(match oC h ft fe Y1 ds with|some ys=>some (y::ys)|none=>none)
    |none=>none)
   |some false=>oC h ft fe Y1 ds
   |none=>none
def W6(cap:List (Option Nat))(fi:EL)(h:D->K6->Option K6)(ft:EB)(fe:ED):EL:=λY=>match fi Y with
 |some ds=>if ds.length<=d9 then oC h ft fe (nF cap Y) ds else none
 |none=>none
def lV:EB:=λ_=>some true
def IZ{K:A5}{B Z:List Av}{H0 V0 H:Hp}{U:St}{Y:K6}{cap:List (Option Nat)}(dz:∀(i j k:Nat),cap[i]?=some (some k)->cap[j]?=some (some k)->i=j)(r:SR K B H0 V0 H Z U Y):
  SR K B H0 V0 H Z (mG cap U) (nF cap Y):=by
 have get:∀{c:Cell} {i:Nat},(nF cap Y)[i]?=some (some c)->∃j,cap[i]?=some (some j)/\Y[j]?=some (some c):=λ{c i} q=>by
  unfold nF at q;rw[Am]at q
  cases hc:cap[i]? with
  |none=>rw[hc]at q;cases q
  |some o=>
   rw[hc]at q
   cases o with
   |none=>cases q
   |some j=>
    refine⟨j,rfl,?_⟩;have q':(Y[j]?).bind id=some c:=Ba q
    cases hs:Y[j]? with
    |none=>rw[hs]at q';cases q'
    |some z=>
     rw[hs]at q'
     have:z=some c:=q'
     rw[this]
 have put:∀{v:V} {i j:Nat},cap[i]?=some (some j)->U[j]?=some (some v)->(mG cap U)[i]?=some (some v):=λ{v i j} h1 h2=>by unfold mG;rw[Am,h1];show some ((U[j]?).bind id)=_;rw[h2];rfl
 have ix:∀{v:V} {i j:Nat},cap[i]?=some (some j)->(mG cap U)[i]?=some (some v)->U[j]?=some (some v):=λ{v i j} h1 h2=>by
  unfold mG at h2;rw[Am,h1]at h2;have bn:(U[j]?).bind id=some v:=Ba h2
  cases hs:U[j]? with
  |none=>rw[hs]at bn;cases bn
  |some z=>
   rw[hs]at bn
   have:z=some v:=bn
   rw[this]
 refine⟨r.same,r.tb,r.vis,r.sub,r.zs,λi d q=>?_,λi ds q=>?_,λi j ds es a q1 q2 s1 s2=>?_,by unfold mG nF;rw[A0,A0]⟩
 .obtain⟨j,h1,h2⟩:=get q;obtain⟨v,t1,t2⟩:=r.sh j d h2;exact⟨v,put h1 t1,t2⟩
 .obtain⟨j,h1,h2⟩:=get q;obtain⟨a,xs,t1,t2⟩:=r.own j ds h2;exact⟨a,xs,put h1 t1,t2⟩
 .obtain⟨i',h1,h2⟩:=get q1;obtain⟨j',h3,h4⟩:=get q2
  have:i'=j':=r.inj i' j' ds es a h2 h4 (ix h1 s1) (ix h3 s2)
  subst this;exact dz i j i' h1 h3
structure AX(K:A5)(Z:List Av)(H:Hp)(J:It)(ds:List D):Prop where
 go:∀H',j8 H H'->∀i,i<ds.length->J.go i H'
 yld:∀H',j8 H H'->∀(i:Nat) x H3,J.yld i H' x H3->j8 H' H3/\∀d,ds[i]?=some d->∀Z':List Av,(∀z∈Z',∃o,H' z=some o)->j8 (K5 Z H) (K5 Z' H')->d8 K (K5 Z' H3) d x
 stop:∀H',j8 H H'->J.stop ds.length H'
def MZ(K:A5)(f:EL):TI:=λU H R=>∃Y ds B H0 V0 Z,f Y=some ds/\SR K B H0 V0 H Z U Y/\∀J H',j8 H H'->AX K Z H' J ds->R J H'
abbrev NI(X:Cx)(tg e:Expr)(f:EL):Prop:=PI X tg e (MZ X.K f)
structure FW(X:Cx)(tg e:Expr)(f:EL):Prop where
 h:NI X tg e f
def mO{tg e:Expr}{f:EL}(h:ZI X tg e f):FW X tg e f:=
 ⟨have h:=h.h;
 sY h λU H R ⟨Y,ds,B,H0,V0,Z,e,r,q⟩=>
 ⟨Y,ds,B,H0,V0,Z,e,r,λJ H' s wk=>q J H' s ⟨λH2 s2=>wk.go H2 (x8.trans s2),λH2 s2=>wk.yld H2 (x8.trans s2),λH2 s2=>wk.stop H2 (x8.trans s2)⟩⟩⟩
def XH(i:Nat){x:Bf}(hN:X.N[i]?=some x:=by rfl)(hv:mS X.env.scope x:=by first|exact E8 rfl|exact Db (E8 rfl)|exact Db (Db rfl))(hd:(x==("__debug__":Bf))=false:=by decide)(aT:(x==("__classdict__":Bf))=false:=by decide):FW X tg (.Name x pos) (kX i):=
 ⟨sY (Rm (nN hN hv hd aT)) λU H R h_=>by
  refine f7 h_ λY ds B H0 V0 Z e r q=>?_;obtain⟨a,xs,h1,h2,hb,h3,h4,h5⟩:=r.ow i ds (wR e);refine⟨.ref a,h1,a,rfl,⟨xs,i5.of h4⟩,q _ H (j8.refl H) ⟨λH' s j hj=>?_,λH' s j y H3 hy=>?_,λH' s=>⟨xs,i5.of (s _ _ h4),by rw[h5.length];exact Aj _⟩⟩⟩
  .obtain⟨v,cM,_⟩:=h5.get (A4 hj);exact⟨xs,v,i5.of (s _ _ h4),cM⟩
  .obtain⟨rfl,hx⟩:=hy;refine⟨j8.refl _,λd bZ Z' hz hs=>?_⟩;obtain⟨v,cM,rv⟩:=h5.get bZ
   have:=hx xs (i5.of (s _ _ h4))
   rw[cM]at this;cases this
   exact rv.mono hs⟩
def RL{cap:List (Option Nat)}(dz:∀(i j k:Nat),cap[i]?=some (some k)->cap[j]?=some (some k)->i=j):
  ∀U H Q,tF X.K (W6 cap fi h ft fe) U H Q->xR cap (MZ X.K fi) (tG X.K h) (tT X.K ft) (tD X.K fe) U H Q:=λU H Q h_=>by
  refine f7 h_ λY zs B H0 V0 Z e r q=>?_;unfold W6 at e;split at e
  .rename_i ds aH;split at e
   .rename_i hl;refine⟨Y,ds,B,H0,V0,Z,aH,r,λJ H1 s1 wk l ce=>?_⟩;have R1:=r.mono s1;have sl:j8 H1 (upd H1 l (.lst [])):=u9 ce;have RV:SR X.K B H0 (K5 Z H1) H1 Z U Y:=R1.vis' (λ_ _ h=>h);have fg:=RV.more ce sl v8
    have R2:SR X.K (l::B) H0 (K5 Z H1) (upd H1 l (.lst [])) (l::Z) (mG cap U) (nF cap Y):=IZ dz ⟨fg.same,fg.tb,fg.vis,λb hb=>(Ad.mp hb).elim (λz=>z▸A6) λz=>fg.sub b z,fg.zs,fg.sh,λj es hj=>by
     obtain⟨a,xs,t1,t2,tb,t3,t4,t5⟩:=RV.own j es hj;obtain⟨a',cS,t1',t2',tb',t3',t4',t5'⟩:=fg.own j es hj;rw[t1]at t1';cases t1';refine⟨a,cS,t1,t2',λz=>?_,t3',t4',t5'⟩;rcases Ad.mp z with z|z
     .rw[z,ce]at t4;cases t4
     .exact tb z,fg.inj,fg.len⟩
    refine⟨λi m U' H' acc=>m=ds.length-i/\i<=ds.length/\H' l=some (.lst acc)/\j8 H1 H'/\acc.length<=i/\∃Y' ys ws,SR X.K (l::B) H0 (K5 Z H1) H' (l::Z) U' Y'/\g9 X.K (K5 (l::Z) H') ys acc/\oC h ft fe Y' (ds.drop i)=some ws/\zs=ys++ws,
     ⟨_,rfl,Bg _,v8,sl,Aj _,nF cap Y,[],zs,R2,g9.nil,e,rfl⟩,?_⟩
    rintro i m U' H' acc ⟨rfl,cu,aM,hS,da,Y',ys,ws,r',ry,e',ez⟩;have vis:j8 (K5 Z H1) H':=r'.vis.trans x8;by_cases am:i<ds.length
    .refine .inr ⟨wk.go H' hS i am,EN (Bn da (Bn cu hl)),λx H3 hy=>?_⟩;obtain⟨sH,hx⟩:=wk.yld H' hS i x H3 hy;have hd:=hx ds[i] (A4 am) (l::Z) r'.zs r'.vis;have aM:=sH _ _ aM;have hS:=hS.trans sH;have ry:=ry.mono (x6 sH);rw[Hl am]at e';unfold oC at e';split at e'
     .cases e'
     .rename_i Y1 e1;refine⟨Y',ds[i],Y1,l::B,H0,K5 Z H1,l::Z,e1,r'.mono sH,hd,λU4 r4=>?_⟩;split at e'
      .rename_i et;refine⟨Y1,true,l::B,H0,K5 Z H1,l::Z,et,r4,λH5 s5=>uA ?_⟩;split at e'
       .rename_i y ey;split at e'
        .rename_i yy eyy;cases e';refine⟨Y1,y,l::B,H0,K5 Z H1,l::Z,ey,r4.mono s5,λv H6 s6 r6=>⟨s6 _ _ (s5 _ _ aM),ds.length-(i+1),by omega,rfl,am,v8,uS ce (hS.trans (s5.trans s6)),?_,Y1,ys++[y],yy,?_,?_,eyy,by rw[ez];simp⟩⟩
         .rw[Ah];simpa using da
         .have R6:=(r4.mono s5).mono s6;have vs:j8 (K5 (l::Z) H6) (K5 (l::Z) (upd H6 l (.lst (acc++[v])))):=wJ A6;have nl:H0 l=none:=(r.same.trans s1).free ce;refine⟨uS nl R6.same,R6.tb.upd (s6 _ _ (s5 _ _ aM)) (λ_ z=>by cases z),R6.vis.trans vs,R6.sub,λz hz=>?_,λj d hj=>let ⟨u,t1,t2⟩:=R6.sh j d hj;⟨u,t1,t2.mono vs⟩,λj es hj=>?_,R6.inj,R6.len⟩
          .by_cases ez':z=l
           .subst ez';exact⟨_,v8⟩
           .obtain⟨o',bJ⟩:=R6.zs z hz;exact⟨o',by rw[j6 ez'];exact bJ⟩
          .obtain⟨a,xs,t1,t2,tb,t3,t4,t5⟩:=R6.own j es hj;have na:a≠l:=λz=>tb (z▸A6);exact⟨a,xs,t1,t2,tb,t3,by rw[j6 na];exact t4,t5.mono vs⟩
         .exact g9.append (ry.mono ((x6 (s5.trans s6)).trans (wJ A6))) (g9.one (r6.mono (wJ A6)))
        .cases e'
       .cases e'
      .rename_i et;exact⟨Y1,false,l::B,H0,K5 Z H1,l::Z,et,r4,λH5 s5=>t9 ⟨ds.length-(i+1),by omega,rfl,am,s5 _ _ aM,hS.trans s5,by omega,Y1,ys,ws,r4.mono s5,ry.mono (x6 s5),e',ez⟩⟩
      .cases e'
    .have ei:i=ds.length:=by omega
     subst ei;rw[List.drop_length]at e';unfold oC at e';cases e';rw[Bx]at ez;subst ez;exact .inl ⟨wk.stop H' hS,q l acc H' (s1.trans hS) (s1.free ce) aM ry⟩
   .cases e
  .cases e
def ö{cap:List (Option Nat)}(hc:X.calm=true)(hi:NI X ae ag fi)(hg:∀cl C fp s H,SG (Y5 X N scope cl C fp s H) ae h)(ht:∀cl C fp s H,r8 (Y5 X N scope cl C fp s H) ba (tT X.K ft))(he:∀cl C fp s H,SE (Y5 X N scope cl C fp s H) bh fe)(hk:scope.kind = .function)(au:∀y∈scope.names,y.2 = .cell->scope.names.lookup y.1=some .cell)(aW:∀x∈scope.names,x.2 = .local->scope.names.lookup x.1=some .local)(bT:∀x∈scope.names,x.2 = .free->scope.names.lookup x.1=some .free)(bq:∀x∈scope.names,x.2 = .free->X.env.scope.names.lookup x.1=some .cell\/X.env.scope.names.lookup x.1=some .free)(be:∀(i j:Nat),cap[i]?=some (some j)->∃x,N[i]?=some x/\X.N[j]?=some x/\scope.names.lookup x=some .free)(ab:cap.length=N.length)(dz:∀(i j k:Nat),cap[i]?=some (some k)->cap[j]?=some (some k)->i=j)(hs:∀x,Cz ag X.env x=Cr x:=by intro _;rfl):
  SF X (.ListComp bh [⟨ae,ag,ba,0⟩] scope pos) (W6 cap fi h ft fe):=
 j3 (Û (g:=tG X.K h) (te:=tD X.K fe) hc hi hg ht he hk au aW bT bq be ab hs) (RL dz)
end
def gI(g:Int->Int->Int):D->D->Option D:=λx y=>match x,y with|.int i,.int j=>some (.int (g i j))|_,_=>none
def gB(g:Int->Int->Bool):D->D->Option D:=λx y=>match x,y with|.int i,.int j=>some (.bl (g i j))|_,_=>none
def vP(C:Int->Int->Bool)(g:Int->Int->Int):D->D->Option D:=λx y=>match x,y with|.int i,.int j=>if C i j=true then some (.int (g i j)) else none|_,_=>none
section
variable{K:A5}
def Rs{g:Int->Int->Int}:lK K (sK λi j=>.int (g i j)) (gI g):=by
 intro x y d e Z H u v Q zs hx hy q;unfold gI at e;split at e
 .rename_i i j;cases e
  obtain rfl:=v4.mp hx
  obtain rfl:=v4.mp hy
  exact⟨i,j,rfl,rfl,q _ H (j8.refl H) (v4.mpr rfl)⟩
 .cases e
def zS{g:Int->Int->Bool}:lK K (sK λi j=>.bl (g i j)) (gB g):=by
 intro x y d e Z H u v Q zs hx hy q;unfold gB at e;split at e
 .rename_i i j;cases e
  obtain rfl:=v4.mp hx
  obtain rfl:=v4.mp hy
  exact⟨i,j,rfl,rfl,q _ H (j8.refl H) (K4.mpr rfl)⟩
 .cases e
def Rt{C':Int->Int->Prop}{C:Int->Int->Bool}{g:Int->Int->Int}(hC:∀i j,C i j=true->C' i j):lK K (rI C' λi j=>.int (g i j)) (vP C g):=by
 intro x y d e Z H u v Q zs hx hy q;unfold vP at e;split at e
 .rename_i i j;split at e
  .rename_i hc;cases e
   obtain rfl:=v4.mp hx
   obtain rfl:=v4.mp hy
   exact⟨i,j,rfl,rfl,hC i j hc,q _ H (j8.refl H) (v4.mpr rfl)⟩
  .cases e
 .cases e
def lK.or(h:lK K r g)(h':lK K r' g'):lK K (λx y H Q=>r x y H Q\/r' x y H Q) (λx y=>match g x y with|some d=>some d|none=>g' x y):=by
 intro x y d e Z H u v Q zs hx hy q;dsimp only at e;split at e
 .rename_i d' hd;cases e;exact .inl (h x y d hd Z H u v Q zs hx hy q)
 .exact .inr (h' x y d e Z H u v Q zs hx hy q)
end
def Ω:=gI (λi j=>i+j)
def Sk:=gI (λi j=>i-j)
def uM(i:Int):Bool:=decide (-(2 ^ 64)<i)&&decide (i<2 ^ 64)
def FK:=vP (λi j=>uM i||uM j) (λi j=>i*j)
def n5:=vP (λ_ j=>decide (0<j)) (λi j=>i % j)
def MP:=gB (λi j=>decide (i<j))
def FA:=gB (λi j=>decide (i<=j))
def EZ:=gB (λi j=>decide (j<i))
section
variable{X:Cx}{a b c:Expr}{fa fb fc:ED}{pos:Hq}
def ϋ(ha:ZE X a fa)(hb:ZE X b fb):ZE X (.BinOp a .Sub b pos) (d2 Sk fa fb):=
 ⟨have ha:=ha.h;
 have hb:=hb.h;
 DH Ő Rs ha hb⟩
def ū{K:A5}:lK K (rI AO λi j=>.int (i*j)) FK:=Rt (C':=AO) λi j h=>by
  rw[M6]at h;rcases h with h|h
  .unfold uM at h;rw[Bi]at h;exact .inl ⟨lC h.1,lC h.2⟩
  .unfold uM at h;rw[Bi]at h;exact .inr ⟨lC h.1,lC h.2⟩
def EC(ha:ZE X a fa)(hb:ZE X b fb):ZE X (.BinOp a .Mod b pos) (d2 n5 fa fb):=
 ⟨have ha:=ha.h;
 have hb:=hb.h;
 DH ō (Rt λi j h=>lC h) ha hb⟩
def ϊ(ha:ZE X a fa)(hb:ZE X b fb):ZE X (.Compare a [.LtE] [b] pos) (d2 FA fa fb):=
 ⟨have ha:=ha.h;
 have hb:=hb.h;
 T0 Sw zS ha hb (sT _)⟩
def ϐ(ha:ZE X a fa)(hb:ZE X b fb):ZT X (.Compare a [.Gt] [b] pos) (v5 (d2 EZ fa fb)):=
 ⟨have ha:=ha.h;
 have hb:=hb.h;
 xG v0A zS ha hb (sT _)⟩
end
def MO:D->D->Option D:=λx y=>match x,y with
 | .tup xs,.tup ys=>if xs.length+ys.length<=d9 then some (.tup (xs++ys)) else none
 | .lst xs,.lst ys=>if xs.length+ys.length<=d9 then some (.lst (xs++ys)) else none
 |_,_=>none
def SN(K:A5):R2:=λx y H Q=>∃a b xs ys,x = .ref a/\y = .ref b/\i8 K H a xs/\i8 K H b ys/\xs.length+ys.length<=sizeLine /\
 (xs=[]->Q (.ref b) H)/\(xs≠[]->ys=[]->Q (.ref a) H)/\(xs≠[]->ys≠[]->∀p,H p=none->Q (.ref p) (upd H p (.tup (xs++ys))))
def SM(K:A5):R2:=λx y H Q=>∃a b xs ys,x = .ref a/\y = .ref b/\i5 K H a xs/\i5 K H b ys/\xs.length+ys.length<=sizeLine/\∀p,H p=none->Q (.ref p) (upd H p (.lst (xs++ys)))
section
variable{X:Cx}
def Õ:kH X (Hs .Add) (SN X.K):=by
 intro aa s U H x y v u Q I rx ry h;obtain⟨a,b,xs,ys,rfl,rfl,ha,hb,hz,q0,q1,q2⟩:=h;by_cases hx:xs=[]
 .cases rx;cases ry;obtain⟨its,r1,p1,_⟩:=I.tuple ha;obtain⟨aq,r2,p2,_⟩:=I.tuple hb;obtain⟨⟨cls,dd,data,sl⟩,ho,hc,n,hd⟩:=id p1;obtain⟨⟨fm,cK,data2,cO⟩,cp,aX,n2,bB⟩:=id p2;simp only at hc hd aX bB;subst hc hd aX bB;have hv:its=[]:=r1.nil_iff.mpr hx
  exact Lz ⟨_,ho,rfl⟩ ⟨_,cp,rfl⟩ Lo Mv Iv Ii (Ht _ _)
   (tuple_addW0 a b its.toArray aq.toArray n n2 dd cK sl cO (by simp[hv])) ⟨ho,cp,⟨.ref b,H,I,rfl,q0 hx⟩⟩
 .exact Ö aa s U H _ _ v u Q I rx ry ⟨a,b,xs,ys,rfl,rfl,ha,hb,hx,hz,q1 hx,q2 hx⟩
def Rf:kH X (Hs .Add) (SM X.K):=by
 intro aa s U H x y v u Q I rx ry h;obtain⟨l,b,xs,zs,rfl,rfl,hH,hB,hz,q⟩:=h;cases rx;cases ry;obtain⟨its,r,pl,z⟩:=I.list hH;obtain⟨aq,r2,pl2,z2⟩:=I.list hB;have hl:=r.length;have fO:=r2.length
 have ea:its.toArray++aq.toArray=(its++aq).toArray:=by simp
 obtain⟨⟨cls,dd,data,sl⟩,n,ho,hc,eL,hd⟩:=id pl;obtain⟨⟨fm,cK,data2,cO⟩,n2,cp,aX,iL,bB⟩:=id pl2;simp only at hc hd aX bB eL iL;subst hc hd aX bB eL iL;refine Lz ⟨_,ho,rfl⟩ ⟨_,cp,rfl⟩ noFill_list_add seq_list_add PySem.F.slot_list_add PySem.F.entry_list_add (PySem.F.args_list_add_2 _ _) (list_addW l b its.toArray aq.toArray n n2 none none sl cO (by rw[An,An];omega)) ⟨ho,cp,?_⟩
 rw[ea];exact⟨.ref _,_,I.lnew (t':=s.toks) (r.append r2) (by rw[Ah];omega),rfl,q _ I.fresh⟩
def ŧ{K:A5}:lK K (λx y H Q=>SN K x y H Q\/SM K x y H Q) MO:=by
 intro x y d e Z H u v Q zs hx hy q
 have newer:∀{p:Av},H p=none->p∉Z:=λhp z=>by obtain⟨o,ho⟩:=zs _ z;rw[hp]at ho;cases ho
 unfold MO at e;split at e
 .rename_i xs ys;split at e
  .rename_i hl;cases e;obtain⟨a,us,rfl,h1,h2⟩:=j5.mp hx;obtain⟨b,ws,rfl,h3,h4⟩:=j5.mp hy;refine .inl ⟨a,b,us,ws,rfl,rfl,j9 x8 h1,j9 x8 h3,by rw[<-h2.length,<-h4.length];exact vG hl,λz=>?_,λz1 z2=>?_,λz1 z2 p hp=>?_⟩
   .have:xs=[]:=Ge (by rw[h2.length,z];rfl)
    subst this;exact q _ H (j8.refl H) hy
   .have:ys=[]:=Ge (by rw[h4.length,z2];rfl)
    subst this;rw[Bx]at q;exact q _ H (j8.refl H) hx
   .have sn:=u9 (o:=HO.tup (us++ws)) hp;refine q _ _ sn (j5.mpr ⟨p,_,rfl,i8.of ?_,(g9.append h2 h4).mono (x6 sn)⟩);rw[Q4 (newer hp)];exact v8
  .cases e
 .rename_i xs ys;split at e
  .rename_i hl;cases e;obtain⟨a,us,rfl,h1,h2⟩:=J6.mp hx;obtain⟨b,ws,rfl,h3,h4⟩:=J6.mp hy;refine .inr ⟨a,b,us,ws,rfl,rfl,x8.seq h1,x8.seq h3,by rw[<-h2.length,<-h4.length];exact vG hl,λp hp=>?_⟩
   have sn:=u9 (o:=HO.lst (us++ws)) hp;refine q _ _ sn (J6.mpr ⟨p,_,rfl,i5.of ?_,(g9.append h2 h4).mono (x6 sn)⟩);rw[Q4 (newer hp)];exact v8
  .cases e
 .cases e
variable{a b c:Expr}{fa fb fc:ED}{pos:Hq}
def jT:D->D->Option D:=λx y=>match Ω x y with|some d=>some d|none=>MO x y
def nP(ha:ZE X a fa)(hb:ZE X b fb):ZE X (.BinOp a .Add b pos) (d2 jT fa fb):=
 ⟨have ha:=ha.h;
 have hb:=hb.h;
 DH (Ŋ.or (Õ.or Rf)) (lK.or Rs ŧ) ha hb⟩
def AC(fa fb:EL):EL:=λY=>match fa Y with|some xs=>(match fb Y with|some ys=>if xs.length+ys.length<=d9 then some (xs++ys) else none|none=>none)|none=>none
def Z6:List D->Option (List Int)
 | []=>some []
 | .int i::r=>(Z6 r).map (i::·)
 |_::_=>none
theorem Z9:∀{ds:List D} {ns:List Int},Z6 ds=some ns->ds=ns.map D.int
 | [],ns,e=>by cases e;rfl
 | .int i::r,ns,e=>by unfold Z6 at e;obtain⟨ms,h1,rfl⟩:=B9.mp e;rw[Z9 h1];rfl
 | .non::r,ns,e=>by unfold Z6 at e;cases e
 | .bl _::r,ns,e=>by unfold Z6 at e;cases e
 | .str _::r,ns,e=>by unfold Z6 at e;cases e
 | .tup _::r,ns,e=>by unfold Z6 at e;cases e
 | .lst _::r,ns,e=>by unfold Z6 at e;cases e
 | .dct _ _::r,ns,e=>by unfold Z6 at e;cases e
theorem PZ(ns:List Int):Z6 (ns.map D.int)=some ns:=by
 induction ns with
 |nil=>rfl
 |cons n r ih=>rw[Af,Z6,ih];rfl
def MQ:D->D->Option D:=λx y=>match x,y with
 | .tup xs,.tup ys=>(match Z6 xs,Z6 ys with|some ns,some ms=>some (.bl (HT.lexLt ns ms))|_,_=>none)
 |_,_=>none
def Ū{K:A5}:lK K (Ux K) MQ:=by
 intro x y d e Z H u v Q zs hx hy q;unfold MQ at e;split at e
 .rename_i xs ys;split at e
  .rename_i ns ms h1 h2;cases e;obtain⟨a,us,rfl,h3,h4⟩:=j5.mp hx;obtain⟨b,ws,rfl,h5,h6⟩:=j5.mp hy;rw[Z9 h1,Y2]at h4;rw[Z9 h2,Y2]at h6;subst h4 h6;exact⟨a,b,ns,ms,rfl,rfl,j9 x8 h3,j9 x8 h5,q _ H (j8.refl H) (K4.mpr rfl)⟩
  .cases e
 .cases e
def mZ:D->D->Option D:=λx y=>match MP x y with|some d=>some d|none=>MQ x y
def AF:V->Bool
 | .non=>true
 | .bl _=>true
 |_=>false
def ŋ:kH X (Da .Is) (λx y H Q=>AF y=true/\Q (.bl (decide (x=y))) H):=by
 intro aa s U H x y v u Q I rx ry h;obtain⟨hf,q⟩:=h
 have go:plainIs v u=true/\(v==u)=decide (x=y):=by
  cases y with
  |non=>cases ry;cases x<;>first|(cases rx;exact⟨rfl,rfl⟩)|(obtain⟨t,rfl⟩:=rx;exact⟨rfl,rfl⟩)
  |bl k=>
   cases ry
   cases x with
   |bl k'=>cases rx;refine⟨rfl,?_⟩;cases k<;>cases k'<;>rfl
   |non=>cases rx;exact⟨rfl,rfl⟩
   |ref _=>cases rx;exact⟨rfl,rfl⟩
   |ty _=>cases rx;exact⟨rfl,rfl⟩
   |int _=>obtain⟨t,rfl⟩:=rx;exact⟨rfl,rfl⟩
   |str _=>obtain⟨t,rfl⟩:=rx;exact⟨rfl,rfl⟩
   |byt _=>obtain⟨t,rfl⟩:=rx;exact⟨rfl,rfl⟩
   |flt _=>obtain⟨t,rfl⟩:=rx;exact⟨rfl,rfl⟩
  |_=>cases hf
 exact wpAny_is_plain go.1 ⟨.bl _,H,I,by rw[go.2];rfl,q⟩
def YD:kH X (Da .IsNot) (λx y H Q=>AF y=true/\Q (.bl (!decide (x=y))) H):=by
 intro aa s U H x y v u Q I rx ry h;obtain⟨hf,q⟩:=h
 have go:plainIs v u=true/\(v==u)=decide (x=y):=by
  cases y with
  |non=>cases ry;cases x<;>first|(cases rx;exact⟨rfl,rfl⟩)|(obtain⟨t,rfl⟩:=rx;exact⟨rfl,rfl⟩)
  |bl k=>
   cases ry
   cases x with
   |bl k'=>cases rx;refine⟨rfl,?_⟩;cases k<;>cases k'<;>rfl
   |non=>cases rx;exact⟨rfl,rfl⟩
   |ref _=>cases rx;exact⟨rfl,rfl⟩
   |ty _=>cases rx;exact⟨rfl,rfl⟩
   |int _=>obtain⟨t,rfl⟩:=rx;exact⟨rfl,rfl⟩
   |str _=>obtain⟨t,rfl⟩:=rx;exact⟨rfl,rfl⟩
   |byt _=>obtain⟨t,rfl⟩:=rx;exact⟨rfl,rfl⟩
   |flt _=>obtain⟨t,rfl⟩:=rx;exact⟨rfl,rfl⟩
  |_=>cases hf
 exact wpAny_isNot_plain go.1 ⟨.bl _,H,I,by rw[go.2];rfl,q⟩
def FT:D->D->Option Bool:=λx y=>match y with
 | .non=>(match x with|.non=>some true|_=>some false)
 | .bl b=>(match x with|.bl b'=>some (b'==b)|_=>some false)
 |_=>none
def vR:D->D->Option D:=λx y=>(FT x y).map D.bl
def sB:D->D->Option D:=λx y=>(FT x y).map λb=>D.bl (!b)
theorem Tl{K:A5}{H:Hp}{x y:D}{u v:V}{b:Bool}(e:FT x y=some b)(hx:d8 K H x u)(hy:d8 K H y v):AF v=true/\decide (u=v)=b:=by
 have ref:∀{x:D} {u:V},d8 K H x u->(match x with|.tup _=>∃a,u = .ref a|.lst _=>∃a,u = .ref a|.dct _ _=>∃a,u = .ref a|_=>True):=λ{x u} h=>by
  cases x with
  |tup _=>obtain⟨a,_,e,_⟩:=j5.mp h;exact⟨a,e⟩
  |lst _=>obtain⟨a,_,e,_⟩:=J6.mp h;exact⟨a,e⟩
  |dct _ _=>obtain⟨a,_,e,_⟩:=l4.mp h;exact⟨a,e⟩
  |_=>trivial
 unfold FT at e
 cases y with
 |non=>
  obtain rfl:=Z8.mp hy
  refine⟨rfl,?_⟩
  cases x with
  |non=>obtain rfl:=Z8.mp hx;cases e;rfl
  |bl _=>obtain rfl:=K4.mp hx;cases e;rfl
  |int _=>obtain rfl:=v4.mp hx;cases e;rfl
  |str _=>obtain rfl:=Z4.mp hx;cases e;rfl
  |tup _=>obtain⟨a,rfl⟩:=ref hx;cases e;rfl
  |lst _=>obtain⟨a,rfl⟩:=ref hx;cases e;rfl
  |dct _ _=>obtain⟨a,rfl⟩:=ref hx;cases e;rfl
 |bl k=>
  obtain rfl:=K4.mp hy
  refine⟨rfl,?_⟩
  cases x with
  |non=>obtain rfl:=Z8.mp hx;cases e;rfl
  |bl k'=>obtain rfl:=K4.mp hx;cases e;cases k<;>cases k'<;>rfl
  |int _=>obtain rfl:=v4.mp hx;cases e;rfl
  |str _=>obtain rfl:=Z4.mp hx;cases e;rfl
  |tup _=>obtain⟨a,rfl⟩:=ref hx;cases e;rfl
  |lst _=>obtain⟨a,rfl⟩:=ref hx;cases e;rfl
  |dct _ _=>obtain⟨a,rfl⟩:=ref hx;cases e;rfl
 |_=>cases e
def Ğ{K:A5}:lK K (λx y H Q=>AF y=true/\Q (.bl (decide (x=y))) H) vR:=by intro x y d e Z H u v Q zs hx hy q;unfold vR at e;obtain⟨b,hb,rfl⟩:=B9.mp e;obtain⟨h1,h2⟩:=Tl hb hx hy;refine⟨h1,?_⟩;rw[h2];exact q _ H (j8.refl H) (K4.mpr rfl)
def ũ{K:A5}:lK K (λx y H Q=>AF y=true/\Q (.bl (!decide (x=y))) H) sB:=by intro x y d e Z H u v Q zs hx hy q;unfold sB at e;obtain⟨b,hb,rfl⟩:=B9.mp e;obtain⟨h1,h2⟩:=Tl hb hx hy;refine⟨h1,?_⟩;rw[h2];exact q _ H (j8.refl H) (K4.mpr rfl)
def Uf(ha:ZE X a fa)(hb:ZE X b fb):ZT X (.Compare a [.Is] [b] pos) (v5 (d2 vR fa fb)):=
 ⟨have ha:=ha.h;
 have hb:=hb.h;
 xG ŋ Ğ ha hb (sT _)⟩
def JJ(ha:ZE X a fa)(hb:ZE X b fb):ZT X (.Compare a [.IsNot] [b] pos) (v5 (d2 sB fa fb)):=
 ⟨have ha:=ha.h;
 have hb:=hb.h;
 xG YD ũ ha hb (sT _)⟩
end
end L3
namespace L3
open PySem PySem.Spec PyProof.Rows L2 PySem.SeqAt
mutual
def jY:D->D->Bool
 | .non,e=>(match e with|.non=>true|_=>false)
 | .bl a,e=>(match e with|.bl b=>a==b|.int j=>(if a then (1:Int) else 0)==j|_=>false)
 | .int i,e=>(match e with|.int j=>i==j|.bl b=>i==(if b then (1:Int) else 0)|_=>false)
 | .str x,e=>(match e with|.str y=>x==y|_=>false)
 | .tup xs,e=>(match e with|.tup ys=>pA xs ys|_=>false)
 | .lst xs,e=>(match e with|.lst ys=>pA xs ys|_=>false)
 | .dct ks xs,e=>(match e with|.dct js ys=>decide (ks=js)&&pA xs ys|_=>false)
def pA:List D->List D->Bool
 | [],e=>(match e with|[]=>true|_=>false)
 |x::xs,e=>(match e with|y::ys=>jY x y&&pA xs ys|[]=>false)
end
mutual
def depth:D->Nat
 | .tup xs=>lO xs+1
 | .lst xs=>lO xs+1
 | .dct _ xs=>lO xs+1000
 |_=>0
def lO:List D->Nat
 | []=>0
 |x::xs=>max (depth x) (lO xs)
end
theorem wS:∀{ds:List D} {i:Nat} {d:D},ds[i]?=some d->depth d<=lO ds
 | [],_,_,e=>by simp at e
 |x::xs,0,d,e=>by simp at e;subst e;rw[lO];omega
 |x::xs,i+1,d,e=>by
  have:=wS (ds:=xs) (i:=i) (d:=d) (by simpa using e)
  rw[lO];omega
mutual
theorem yL:∀d:D,jY d d=true
 | .non=>by rw[jY]
 | .bl b=>by rw[jY];exact beq_self_eq_true b
 | .int i=>by rw[jY];exact beq_self_eq_true i
 | .str x=>by rw[jY];exact beq_self_eq_true x
 | .tup xs=>by rw[jY];exact BR xs
 | .lst xs=>by rw[jY];exact BR xs
 | .dct ks xs=>by rw[jY,BR xs];simp
theorem BR:∀ds:List D,pA ds ds=true
 | []=>by rw[pA]
 |d::ds=>by rw[pA,yL d,BR ds];rfl
end
theorem CD:∀(xs ys:List D),pA xs ys=((A9 (Jq xs.length ys.length)).all (λj=>jY (xs.getD j .non) (ys.getD j .non))&&xs.length==ys.length)
 | [],[]=>by rw[pA];rfl
 | [],y::ys=>by simp[pA]
 |x::xs,[]=>by simp[pA]
 |x::xs,y::ys=>by
  rw[pA,CD xs ys]
  have e:Jq (x::xs).length (y::ys).length=Jq xs.length ys.length+1:=by simp only[As];omega
  rw[e,Gh,List.all_cons,Ng]
  have e2:((x::xs).length==(y::ys).length)=(xs.length==ys.length):=by simp
  rw[e2,Bool.and_assoc];rfl
section
variable{X:Cx}{aa:f8}{U:St}{H:Hp}{s:Ai}
theorem IT{K:A5}{d:D}{a:Av}(h:d8 K H d (.ref a)):(∃ds,d = .tup ds)\/(∃ds,d = .lst ds)\/∃ks ds,d = .dct ks ds:=by
 cases d with
 |non=>cases Z8.mp h
 |bl _=>cases K4.mp h
 |int _=>cases v4.mp h
 |str _=>cases Z4.mp h
 |tup ds=>exact .inl ⟨ds,rfl⟩
 |lst ds=>exact .inr (.inl ⟨ds,rfl⟩)
 |dct ks ds=>exact .inr (.inr ⟨ks,ds,rfl⟩)
def IJ(I:a9 X aa U H s)(h:H a=some (.dK kvs)):∃o,s.heap.get? a=some o/\o.cls = .type "dict":=by obtain⟨_,_,vs,_,p⟩:=(show kU X.prog X.w H s.heap a (.dK kvs) from I.hok a _ h);obtain⟨o,es,ep,h1,h2,_⟩:=p;exact⟨o,h1,h2.1⟩
def Sv(I:a9 X aa U H s)(h:H a=some (.dK kvs))(h':i8 X.K H a xs):False:=by obtain⟨o,e,c⟩:=IJ I h;obtain⟨its,_,p,_⟩:=I.tuple h';obtain⟨o',h1,h2,_⟩:=p;rw[e]at h1;cases h1;rw[c]at h2;revert h2;simp
def Su(I:a9 X aa U H s)(h:H a=some (.dK kvs))(h':i5 X.K H a xs):False:=by obtain⟨o,e,c⟩:=IJ I h;obtain⟨its,_,p,_⟩:=I.list h';obtain⟨o',n,h1,h2,_⟩:=p;rw[e]at h1;cases h1;rw[c]at h2;revert h2;simp
def Re(I:a9 X aa U H s)(h:i8 X.K H a xs)(h':i5 X.K H a ys):False:=by obtain⟨its,_,p,_⟩:=I.tuple h;obtain⟨aq,_,q,_⟩:=I.list h';exact ne_of_list_tuple q.isList p rfl
mutual
theorem DY(I:a9 X aa U H s):∀{d e:D} {v:V},d8 X.K H d v->d8 X.K H e v->d=e
 | .non,e,v,h,h'=>by
  obtain rfl:=Z8.mp h
  cases e with
  |non=>rfl
  |bl _=>cases K4.mp h'
  |int _=>cases v4.mp h'
  |str _=>cases Z4.mp h'
  |tup _=>obtain⟨_,_,z,_⟩:=j5.mp h';cases z
  |lst _=>obtain⟨_,_,z,_⟩:=J6.mp h';cases z
  |dct _ _=>obtain⟨_,_,z,_⟩:=l4.mp h';cases z
 | .bl b,e,v,h,h'=>by
  obtain rfl:=K4.mp h
  cases e with
  |non=>cases Z8.mp h'
  |bl _=>cases K4.mp h';rfl
  |int _=>cases v4.mp h'
  |str _=>cases Z4.mp h'
  |tup _=>obtain⟨_,_,z,_⟩:=j5.mp h';cases z
  |lst _=>obtain⟨_,_,z,_⟩:=J6.mp h';cases z
  |dct _ _=>obtain⟨_,_,z,_⟩:=l4.mp h';cases z
 | .int b,e,v,h,h'=>by
  obtain rfl:=v4.mp h
  cases e with
  |non=>cases Z8.mp h'
  |bl _=>cases K4.mp h'
  |int _=>cases v4.mp h';rfl
  |str _=>cases Z4.mp h'
  |tup _=>obtain⟨_,_,z,_⟩:=j5.mp h';cases z
  |lst _=>obtain⟨_,_,z,_⟩:=J6.mp h';cases z
  |dct _ _=>obtain⟨_,_,z,_⟩:=l4.mp h';cases z
 | .str b,e,v,h,h'=>by
  obtain rfl:=Z4.mp h
  cases e with
  |non=>cases Z8.mp h'
  |bl _=>cases K4.mp h'
  |int _=>cases v4.mp h'
  |str _=>cases Z4.mp h';rfl
  |tup _=>obtain⟨_,_,z,_⟩:=j5.mp h';cases z
  |lst _=>obtain⟨_,_,z,_⟩:=J6.mp h';cases z
  |dct _ _=>obtain⟨_,_,z,_⟩:=l4.mp h';cases z
 | .tup ds,e,v,h,h'=>by
  obtain⟨a,xs,rfl,h1,h2⟩:=j5.mp h;rcases IT h' with⟨es,rfl⟩|⟨es,rfl⟩|⟨ks,es,rfl⟩
  .obtain⟨b,ys,z,h3,h4⟩:=j5.mp h';cases z
   have:=I.tuple_inj h1 h3
   subst this;rw[BL I h2 h4]
  .obtain⟨b,ys,z,h3,h4⟩:=J6.mp h';cases z;exact(Re I h1 h3).elim
  .obtain⟨b,ys,z,h3,h4⟩:=l4.mp h';cases z;exact(Sv I h3 h1).elim
 | .lst ds,e,v,h,h'=>by
  obtain⟨a,xs,rfl,h1,h2⟩:=J6.mp h;rcases IT h' with⟨es,rfl⟩|⟨es,rfl⟩|⟨ks,es,rfl⟩
  .obtain⟨b,ys,z,h3,h4⟩:=j5.mp h';cases z;exact(Re I h3 h1).elim
  .obtain⟨b,ys,z,h3,h4⟩:=J6.mp h';cases z
   have:=I.list_inj h1 h3
   subst this;rw[BL I h2 h4]
  .obtain⟨b,ys,z,h3,h4⟩:=l4.mp h';cases z;exact(Su I h3 h1).elim
 | .dct ks ds,e,v,h,h'=>by
  obtain⟨a,kvs,rfl,h1,h2,bn⟩:=l4.mp h;rcases IT h' with⟨es,rfl⟩|⟨es,rfl⟩|⟨js,es,rfl⟩
  .obtain⟨b,ys,z,h3,h4⟩:=j5.mp h';cases z;exact(Sv I h1 h3).elim
  .obtain⟨b,ys,z,h3,h4⟩:=J6.mp h';cases z;exact(Su I h1 h3).elim
  .obtain⟨b,ys,z,h3,h4,h5⟩:=l4.mp h';cases z;rw[h1]at h3;cases h3;rw[<-h2,<-h4,BL I bn h5]
theorem BL(I:a9 X aa U H s):∀{ds es:List D} {xs:List V},g9 X.K H ds xs->g9 X.K H es xs->ds=es
 | [],es,xs,h,h'=>by
  obtain rfl:=K3.mp h
  cases es with
  |nil=>rfl
  |cons e es=>obtain⟨_,_,z,_⟩:=j7.mp h';cases z
 |d::ds,es,xs,h,h'=>by
  obtain⟨v,vs,rfl,h1,h2⟩:=j7.mp h
  cases es with
  |nil=>cases K3.mp h'
  |cons e es=>obtain⟨v',iY,z,h3,h4⟩:=j7.mp h';cases z;rw[DY I h1 h3,BL I h2 h4]
end
def J5{α:Type}{xs:List α}{j:Nat}{d x:α}(h:xs[j]?=some x):xs.getD j d=x:=by rw[Cu,h];rfl
theorem QH(I:a9 X aa U H s){A:C1}(h0:A.units<D4)(hd:depth d=0)(he:depth e<1000)(hx:d8 X.K H d x)(hy:d8 X.K H e y)(rx:e9 x u)(ry:e9 y v):
  G9 A s u v (jY d e)/\Gc A s u v (jY d e)/\Df A s u v (!jY d e):=by
 cases d with
 |tup xs=>rw[depth]at hd;omega
 |lst xs=>rw[depth]at hd;omega
 |dct _ xs=>rw[depth]at hd;omega
 |non=>
  obtain rfl:=Z8.mp hx
  cases rx
  cases e with
  |non=>obtain rfl:=Z8.mp hy;cases ry;exact⟨Ob _,Gc.none_none,Df.none_none⟩
  |bl b=>obtain rfl:=K4.mp hy;cases ry;exact⟨G9.none_bool b,Gc.none_bool b,Df.none_bool b⟩
  |int j=>obtain rfl:=v4.mp hy;obtain⟨t,rfl⟩:=ry;exact⟨G9.none_int j t,Gc.none_int j t,Df.none_int j t⟩
  |str z=>obtain rfl:=Z4.mp hy;obtain⟨t,rfl⟩:=ry;exact⟨G9.none_str z t,Gc.none_str z t,Df.none_str z t⟩
  |tup ys=>obtain⟨b,zs,rfl,h1,_⟩:=j5.mp hy;cases ry;obtain⟨its,_,p,_⟩:=I.tuple h1;exact⟨G9.none_tuple p h0,Gc.none_tuple p h0,Df.none_tuple p h0⟩
  |lst ys=>obtain⟨b,zs,rfl,h1,_⟩:=J6.mp hy;cases ry;obtain⟨its,_,p,_⟩:=I.list h1;exact⟨G9.none_list p.isList h0,Gc.none_list p.isList h0,Df.none_list p.isList h0⟩
  |dct _ ys=>rw[depth]at he;omega
 |bl a=>
  obtain rfl:=K4.mp hx
  cases rx
  cases e with
  |non=>obtain rfl:=Z8.mp hy;cases ry;exact⟨G9.bool_none a,Gc.bool_none a,Df.bool_none a⟩
  |bl b=>obtain rfl:=K4.mp hy;cases ry;exact⟨G9.bool_bool a b,Gc.bool_bool a b,Df.bool_bool a b⟩
  |int j=>obtain rfl:=v4.mp hy;obtain⟨t,rfl⟩:=ry;exact⟨G9.bool_int a j t,Gc.bool_int a j t,Df.bool_int a j t⟩
  |str z=>obtain rfl:=Z4.mp hy;obtain⟨t,rfl⟩:=ry;exact⟨G9.bool_str a z t,Gc.bool_str a z t,Df.bool_str a z t⟩
  |tup ys=>obtain⟨b,zs,rfl,h1,_⟩:=j5.mp hy;cases ry;obtain⟨its,_,p,_⟩:=I.tuple h1;exact⟨G9.bool_tuple a p h0,Gc.bool_tuple a p h0,Df.bool_tuple a p h0⟩
  |lst ys=>obtain⟨b,zs,rfl,h1,_⟩:=J6.mp hy;cases ry;obtain⟨its,_,p,_⟩:=I.list h1;exact⟨G9.bool_list a p.isList h0,Gc.bool_list a p.isList h0,Df.bool_list a p.isList h0⟩
  |dct _ ys=>rw[depth]at he;omega
 |int i=>
  obtain rfl:=v4.mp hx
  obtain⟨t0,rfl⟩:=rx
  cases e with
  |non=>obtain rfl:=Z8.mp hy;cases ry;exact⟨G9.int_none i t0,Gc.int_none i t0,Df.int_none i t0⟩
  |bl b=>obtain rfl:=K4.mp hy;cases ry;exact⟨G9.int_bool i t0 b,Gc.int_bool i t0 b,Df.int_bool i t0 b⟩
  |int j=>obtain rfl:=v4.mp hy;obtain⟨t,rfl⟩:=ry;exact⟨G9.int_int i t0 j t,Gc.int_int i t0 j t,Df.int_int i t0 j t⟩
  |str z=>obtain rfl:=Z4.mp hy;obtain⟨t,rfl⟩:=ry;exact⟨G9.int_str i t0 z t,Gc.int_str i t0 z t,Df.int_str i t0 z t⟩
  |tup ys=>obtain⟨b,zs,rfl,h1,_⟩:=j5.mp hy;cases ry;obtain⟨its,_,p,_⟩:=I.tuple h1;exact⟨G9.int_tuple i t0 p h0,Gc.int_tuple i t0 p h0,Df.int_tuple i t0 p h0⟩
  |lst ys=>obtain⟨b,zs,rfl,h1,_⟩:=J6.mp hy;cases ry;obtain⟨its,_,p,_⟩:=I.list h1;exact⟨G9.int_list i t0 p.isList h0,Gc.int_list i t0 p.isList h0,Df.int_list i t0 p.isList h0⟩
  |dct _ ys=>rw[depth]at he;omega
 |str w'=>
  obtain rfl:=Z4.mp hx
  obtain⟨t0,rfl⟩:=rx
  cases e with
  |non=>obtain rfl:=Z8.mp hy;cases ry;exact⟨G9.str_none w' t0,Gc.str_none w' t0,Df.str_none w' t0⟩
  |bl b=>obtain rfl:=K4.mp hy;cases ry;exact⟨G9.str_bool w' t0 b,Gc.str_bool w' t0 b,Df.str_bool w' t0 b⟩
  |int j=>obtain rfl:=v4.mp hy;obtain⟨t,rfl⟩:=ry;exact⟨G9.str_int w' t0 j t,Gc.str_int w' t0 j t,Df.str_int w' t0 j t⟩
  |str z=>obtain rfl:=Z4.mp hy;obtain⟨t,rfl⟩:=ry;exact⟨G9.str_str w' t0 z t,Gc.str_str w' t0 z t,Df.str_str w' t0 z t⟩
  |tup ys=>obtain⟨b,zs,rfl,h1,_⟩:=j5.mp hy;cases ry;obtain⟨its,_,p,_⟩:=I.tuple h1;exact⟨G9.str_tuple w' t0 p h0,Gc.str_tuple w' t0 p h0,Df.str_tuple w' t0 p h0⟩
  |lst ys=>obtain⟨b,zs,rfl,h1,_⟩:=J6.mp hy;cases ry;obtain⟨its,_,p,_⟩:=I.list h1;exact⟨G9.str_list w' t0 p.isList h0,Gc.str_list w' t0 p.isList h0,Df.str_list w' t0 p.isList h0⟩
  |dct _ ys=>rw[depth]at he;omega
theorem IK(I:a9 X aa U H s):∀(n:Nat) (A:C1),A.units+n<D4->n<1000->∀{d e:D} {x y:V} {u v:Aa},depth d<=n->depth e<1000->d8 X.K H d x->d8 X.K H e y->e9 x u->e9 y v ->
  G9 A s u v (jY d e)/\Gc A s u v (jY d e)/\Df A s u v (!jY d e):=by
 intro n
 induction n with
 |zero=>intro A hu hn d e x y u v hd he hx hy rx ry;exact QH I (by omega) (by omega) he hx hy rx ry
 |succ n ih=>
  intro A hu hn d e x y u v hd he hx hy rx ry
  have h0:A.units<D4:=by omega
  have eu:A.in1.units+n<D4:=by show A.units+1+n<D4;omega
  by_cases eB:depth d=0
  .exact QH I h0 eB he hx hy rx ry
  .cases d with
   |non=>exact w9 (by simp[depth]) eB
   |bl _=>exact w9 (by simp[depth]) eB
   |int _=>exact w9 (by simp[depth]) eB
   |str _=>exact w9 (by simp[depth]) eB
   |dct _ xs=>rw[depth]at hd;omega
   |tup xs=>
    obtain⟨a,us,rfl,h1,h2⟩:=j5.mp hx;cases rx;obtain⟨its,rv,p,_⟩:=I.tuple h1;rw[depth]at hd
    cases e with
    |dct _ ys=>rw[depth]at he;omega
    |non=>obtain rfl:=Z8.mp hy;cases ry;exact⟨G9.tuple_none p h0,Gc.tuple_none p h0,Df.tuple_none p h0⟩
    |bl b=>obtain rfl:=K4.mp hy;cases ry;exact⟨G9.tuple_bool b p h0,Gc.tuple_bool b p h0,Df.tuple_bool b p h0⟩
    |int j=>obtain rfl:=v4.mp hy;obtain⟨t,rfl⟩:=ry;exact⟨G9.tuple_int j t p h0,Gc.tuple_int j t p h0,Df.tuple_int j t p h0⟩
    |str z=>obtain rfl:=Z4.mp hy;obtain⟨t,rfl⟩:=ry;exact⟨G9.tuple_str z t p h0,Gc.tuple_str z t p h0,Df.tuple_str z t p h0⟩
    |lst ys=>obtain⟨b,zs,rfl,g1,_⟩:=J6.mp hy;cases ry;obtain⟨aq,_,p2,_⟩:=I.list g1;exact⟨G9.tuple_list p p2.isList h0,Gc.tuple_list p p2.isList h0,Df.tuple_list p p2.isList h0⟩
    |tup ys=>
     obtain⟨b,zs,rfl,g1,g2⟩:=j5.mp hy;cases ry;obtain⟨aq,jl,p2,_⟩:=I.tuple g1
     have l1:its.toArray.size=xs.length:=by rw[An,<-rv.length,<-h2.length]
     have l2:aq.toArray.size=ys.length:=by rw[An,<-jl.length,<-g2.length]
     have items:∀j (k1:j<its.toArray.size) (k2:j<aq.toArray.size),G9 A.in1 s its.toArray[j] aq.toArray[j] (jY (xs.getD j .non) (ys.getD j .non)):=λj k1 k2=>by
      have gg:j<xs.length:=by omega
      have fY:j<ys.length:=by omega
      obtain⟨vj,e1,r1⟩:=h2.get (A4 gg);obtain⟨wj,e2,r2⟩:=g2.get (A4 fY);obtain⟨uj,f1,s1⟩:=rv.get e1;obtain⟨tj,f2,s2⟩:=jl.get e2
      have z1:its.toArray[j]=uj:=by
       rw[A4 (by rw[An]at k1;exact k1)]at f1
       simpa using f1
      have z2:aq.toArray[j]=tj:=by
       rw[A4 (by rw[An]at k2;exact k2)]at f2
       simpa using f2
      rw[z1,z2,J5 (A4 gg),J5 (A4 fY)];have dd:=wS (A4 gg);have de:=wS (A4 fY);rw[depth]at he;exact(ih A.in1 eu (by omega) (by omega) (by omega) r1 r2 s1 s2).1
     have eb:jY (.tup xs) (.tup ys)=((A9 (Jq its.toArray.size aq.toArray.size)).all (λj=>jY (xs.getD j .non) (ys.getD j .non))&&its.toArray.size==aq.toArray.size):=by rw[jY,CD,l1,l2]
     have rc:Gc A s (.ref a) (.ref b) (jY (.tup xs) (.tup ys)):=by rw[eb];exact Gc.tuples p p2 h0 items
     have rn:Df A s (.ref a) (.ref b) (!jY (.tup xs) (.tup ys)):=by rw[eb];exact Df.tuples p p2 h0 items
     refine⟨?_,rc,rn⟩;by_cases cB:a=b
     .subst cB;rw[DY I hx hy,yL];exact Ob _
     .exact G9.of_refs cB rc
   |lst xs=>
    obtain⟨a,us,rfl,h1,h2⟩:=J6.mp hx;cases rx;obtain⟨its,rv,p,_⟩:=I.list h1;rw[depth]at hd
    cases e with
    |dct _ ys=>rw[depth]at he;omega
    |non=>obtain rfl:=Z8.mp hy;cases ry;exact⟨G9.list_none p.isList h0,Gc.list_none p.isList h0,Df.list_none p.isList h0⟩
    |bl b=>obtain rfl:=K4.mp hy;cases ry;exact⟨G9.list_bool b p.isList h0,Gc.list_bool b p.isList h0,Df.list_bool b p.isList h0⟩
    |int j=>obtain rfl:=v4.mp hy;obtain⟨t,rfl⟩:=ry;exact⟨G9.list_int j t p.isList h0,Gc.list_int j t p.isList h0,Df.list_int j t p.isList h0⟩
    |str z=>obtain rfl:=Z4.mp hy;obtain⟨t,rfl⟩:=ry;exact⟨G9.list_str z t p.isList h0,Gc.list_str z t p.isList h0,Df.list_str z t p.isList h0⟩
    |tup ys=>obtain⟨b,zs,rfl,g1,_⟩:=j5.mp hy;cases ry;obtain⟨aq,_,p2,_⟩:=I.tuple g1;exact⟨G9.list_tuple p.isList p2 h0,Gc.list_tuple p.isList p2 h0,Df.list_tuple p.isList p2 h0⟩
    |lst ys=>
     obtain⟨b,zs,rfl,g1,g2⟩:=J6.mp hy;cases ry;obtain⟨aq,jl,p2,_⟩:=I.list g1
     have l1:its.toArray.size=xs.length:=by rw[An,<-rv.length,<-h2.length]
     have l2:aq.toArray.size=ys.length:=by rw[An,<-jl.length,<-g2.length]
     have items:∀j (k1:j<its.toArray.size) (k2:j<aq.toArray.size),G9 A.in1 s its.toArray[j] aq.toArray[j] (jY (xs.getD j .non) (ys.getD j .non)):=λj k1 k2=>by
      have gg:j<xs.length:=by omega
      have fY:j<ys.length:=by omega
      obtain⟨vj,e1,r1⟩:=h2.get (A4 gg);obtain⟨wj,e2,r2⟩:=g2.get (A4 fY);obtain⟨uj,f1,s1⟩:=rv.get e1;obtain⟨tj,f2,s2⟩:=jl.get e2
      have z1:its.toArray[j]=uj:=by
       rw[A4 (by rw[An]at k1;exact k1)]at f1
       simpa using f1
      have z2:aq.toArray[j]=tj:=by
       rw[A4 (by rw[An]at k2;exact k2)]at f2
       simpa using f2
      rw[z1,z2,J5 (A4 gg),J5 (A4 fY)];have dd:=wS (A4 gg);have de:=wS (A4 fY);rw[depth]at he;exact(ih A.in1 eu (by omega) (by omega) (by omega) r1 r2 s1 s2).1
     have gu:Gc A s (.ref a) (.ref b) (jY (.lst xs) (.lst ys))/\Df A s (.ref a) (.ref b) (!jY (.lst xs) (.lst ys)):=by
      by_cases hl:its.toArray.size=aq.toArray.size
      .have eb:jY (.lst xs) (.lst ys)=((A9 its.toArray.size).all (λj=>jY (xs.getD j .non) (ys.getD j .non))):=by
        rw[jY,CD]
        have:xs.length=ys.length:=by omega
        rw[l1,this,Nat.min_self];simp
       rw[eb];exact⟨Gc.lists p.isList p2.isList hl h0 items,Df.lists p.isList p2.isList hl h0 items⟩
      .have eb:jY (.lst xs) (.lst ys)=false:=by
        rw[jY,CD]
        have:(xs.length==ys.length)=false:=by simp;omega
        rw[this,Bool.and_false]
       rw[eb];exact⟨Gc.lists_lengths p.isList p2.isList (by simpa using hl) h0,Df.lists_lengths p.isList p2.isList (by simpa using hl) h0⟩
     refine⟨?_,gu⟩;by_cases cB:a=b
     .subst cB;rw[DY I hx hy,yL];exact Ob _
     .exact G9.of_refs cB gu.1
end
def jP:Nat:=60
def Ut(K:A5):R2:=λx y H Q=>∃d e,depth d<=jP/\depth e<=jP/\d8 K H d x/\d8 K H e y/\Q (.bl (jY d e)) H
def Uy(K:A5):R2:=λx y H Q=>∃d e,depth d<=jP/\depth e<=jP/\d8 K H d x/\d8 K H e y/\Q (.bl (!jY d e)) H
def lH:D->D->Option D:=λx y=>if depth x<=jP/\depth y<=jP then some (.bl (jY x y)) else none
def oS:D->D->Option D:=λx y=>if depth x<=jP/\depth y<=jP then some (.bl (!jY x y)) else none
section
variable{X:Cx}{a b c:Expr}{fa fb fc:ED}{pos:Hq}
def TF(hu:X.A.units+64<D4):kH X (Da .Eq) (Ut X.K):=by
 intro aa s U H x y v u Q I rx ry h;obtain⟨d,e,hd,he,hx,hy,q⟩:=h;have fT:depth e<1000:=Ib he (by unfold jP;decide)
 exact(IK I jP X.A (by unfold jP;omega) (by unfold jP;decide) hd fT hx hy rx ry).2.1 X.prog X.w X.xe _ ⟨.bl _,H,I,rfl,q⟩
def ŏ(hu:X.A.units+64<D4):kH X (Da .NotEq) (Uy X.K):=by
 intro aa s U H x y v u Q I rx ry h;obtain⟨d,e,hd,he,hx,hy,q⟩:=h;have fT:depth e<1000:=Ib he (by unfold jP;decide)
 exact(IK I jP X.A (by unfold jP;omega) (by unfold jP;decide) hd fT hx hy rx ry).2.2 X.prog X.w X.xe _ ⟨.bl _,H,I,rfl,q⟩
def TV{K:A5}:lK K (Ut K) lH:=by
 intro x y d e Z H u v Q zs hx hy q;unfold lH at e;split at e
 .rename_i h;cases e;exact⟨x,y,h.1,h.2,hx.mono x8,hy.mono x8,q _ H (j8.refl H) (K4.mpr rfl)⟩
 .cases e
def Ŭ{K:A5}:lK K (Uy K) oS:=by
 intro x y d e Z H u v Q zs hx hy q;unfold oS at e;split at e
 .rename_i h;cases e;exact⟨x,y,h.1,h.2,hx.mono x8,hy.mono x8,q _ H (j8.refl H) (K4.mpr rfl)⟩
 .cases e
def DI(hu:X.A.units+64<D4)(ha:ZE X a fa)(hb:ZE X b fb):ZE X (.Compare a [.Eq] [b] pos) (d2 lH fa fb):=
 ⟨have ha:=ha.h;
 have hb:=hb.h;
 T0 (TF hu) TV ha hb (sT _)⟩
def DJ(hu:X.A.units+64<D4)(ha:ZE X a fa)(hb:ZE X b fb):ZT X (.Compare a [.Eq] [b] pos) (v5 (d2 lH fa fb)):=
 ⟨have ha:=ha.h;
 have hb:=hb.h;
 xG (TF hu) TV ha hb (sT _)⟩
def LN(hu:X.A.units+64<D4)(ha:ZE X a fa)(hb:ZE X b fb):ZT X (.Compare a [.NotEq] [b] pos) (v5 (d2 oS fa fb)):=
 ⟨have ha:=ha.h;
 have hb:=hb.h;
 xG (ŏ hu) Ŭ ha hb (sT _)⟩
def mI(x:D)(ds:List D):Bool:=ds.any λy=>jY y x
def MW(K:A5)(neg:Bool):R2:=λx y H Q=>∃d ds p xs,lO ds<=jP/\depth d<=jP/\d8 K H d x/\y = .ref p/\(i5 K H p xs\/i8 K H p xs)/\g9 K H ds xs/\Q (.bl (if neg then !mI d ds else mI d ds)) H
open Classical in
noncomputable def nC (ds:List D) (its:List Aa) (x:D) (u:Aa):Bool:=if ∃(j:Nat) (d:D),its[j]?=some u/\ds[j]?=some d/\jY d x=true then true else false
def KZ(I:a9 X aa U H s){x d:D}{u:Aa}{j:Nat}(hr:g9 X.K H ds xs)(rv:Y7 xs its)(h1:its[j]?=some u)(h2:ds[j]?=some d):nC ds its x u=jY d x:=by
 unfold nC
 have uniq:∀(i:Nat) (e:D),its[i]?=some u->ds[i]?=some e->e=d:=λi e g1 g2=>by
  obtain⟨v,e1,r1⟩:=hr.get g2;obtain⟨w',e2,r2⟩:=hr.get h2;obtain⟨u1,f1,s1⟩:=rv.get e1;obtain⟨u2,f2,s2⟩:=rv.get e2;rw[g1]at f1;cases f1;rw[h1]at f2;cases f2
  have:v=w':=s1.inj s2
  subst this;exact DY I r1 r2
 by_cases hb:jY d x=true
 .rw[z7 ⟨j,d,h1,h2,hb⟩,hb]
 .rw[y3 ?_]
  .exact(Bool.eq_false_iff.mpr hb).symm
  .rintro ⟨i,e,g1,g2,g3⟩;rw[uniq i e g1 g2]at g3;exact hb g3
def DL(I:a9 X aa U H s)(hr:g9 X.K H ds xs)(rv:Y7 xs its):its.any (nC ds its x)=mI x ds:=by
 have ce:=hr.length;have fO:=rv.length;rw[Bool.eq_iff_iff];unfold mI;rw[Lp,Lp];constructor
 .rintro ⟨u,hu,e⟩;obtain⟨j,hj,rfl⟩:=Gw.mp hu;have h2:ds[j]?=some ds[j]:=A4 (by omega);rw[KZ I hr rv (A4 hj) h2]at e;exact⟨ds[j],Cd _,e⟩
 .rintro ⟨d,hd,e⟩;obtain⟨j,hj,rfl⟩:=Gw.mp hd;have h1:its[j]?=some its[j]:=A4 (by omega);refine⟨its[j],Cd _,?_⟩;rw[KZ I hr rv h1 (A4 hj)];exact e
def DU(I:a9 X aa U H s)(hu:X.A.units+64<D4)(hr:g9 X.K H ds xs)(rv:Y7 xs its)(hd:lO ds<=jP)(bZ:depth x<=jP)(hx:d8 X.K H x xv)(rx:e9 xv v):∀w'∈its.toArray,G9 X.A.in1 s w' v (nC ds its x w'):=λw' hw=>by
 have ce:=hr.length;have fO:=rv.length
 have hw':w'∈its:=by simpa using hw
 obtain⟨j,hj,rfl⟩:=Gw.mp hw';have h2:ds[j]?=some ds[j]:=A4 (by omega);have h1:its[j]?=some its[j]:=A4 hj;rw[KZ I hr rv h1 h2];obtain⟨z,e1,r1⟩:=hr.get h2;obtain⟨u1,f1,s1⟩:=rv.get e1;rw[h1]at f1;cases f1;have dd:=wS h2;exact(IK I jP X.A.in1 (by show X.A.units+1+jP<D4;unfold jP;omega) (by unfold jP;decide) (by omega) (Ib bZ (by unfold jP;decide)) r1 hx s1 rx).1
def TH(hu:X.A.units+64<D4):kH X (Da .In) (MW X.K false):=by
 intro aa s U H x y v u Q I rx ry h;obtain⟨d,ds,p,xs,hd,bZ,hx,rfl,hq,hr,q⟩:=h;cases ry;rcases hq with hq|hq
 .obtain⟨its,rv,pl,_⟩:=I.list hq;refine SeqAt.in_listAt (nC ds its d) pl.isList (DU I hu hr rv hd bZ hx rx) ⟨.bl _,H,I,rfl,?_⟩;rw[show its.toArray.any (nC ds its d)=its.any (nC ds its d) by simp,DL I hr rv];exact q
 .obtain⟨its,rv,pl,_⟩:=I.tuple hq;refine SeqAt.in_tupleAt (nC ds its d) pl (DU I hu hr rv hd bZ hx rx) ⟨.bl _,H,I,rfl,?_⟩;rw[show its.toArray.any (nC ds its d)=its.any (nC ds its d) by simp,DL I hr rv];exact q
def YE(hu:X.A.units+64<D4):kH X (Da .NotIn) (MW X.K true):=by
 intro aa s U H x y v u Q I rx ry h;obtain⟨d,ds,p,xs,hd,bZ,hx,rfl,hq,hr,q⟩:=h;cases ry;rcases hq with hq|hq
 .obtain⟨its,rv,pl,_⟩:=I.list hq;refine SeqAt.notIn_listAt (nC ds its d) pl.isList (DU I hu hr rv hd bZ hx rx) ⟨.bl _,H,I,rfl,?_⟩;rw[show its.toArray.any (nC ds its d)=its.any (nC ds its d) by simp,DL I hr rv];exact q
 .obtain⟨its,rv,pl,_⟩:=I.tuple hq;refine SeqAt.notIn_tupleAt (nC ds its d) pl (DU I hu hr rv hd bZ hx rx) ⟨.bl _,H,I,rfl,?_⟩;rw[show its.toArray.any (nC ds its d)=its.any (nC ds its d) by simp,DL I hr rv];exact q
def jX(neg:Bool)(fa:ED)(fb:EL):ED:=λY=>match fa Y with
 |some x=>(match fb Y with|some ds=>if lO ds<=jP/\depth x<=jP then some (.bl (if neg then !mI x ds else mI x ds)) else none|none=>none)
 |none=>none
def LA{K:A5}{neg:Bool}{fb:EL}:∀U H Q,tD K (jX neg fa fb) U H Q->xX (MW K neg) (tD K fa) (tQ K fb) U H Q:=
 λU H Q h_=>by
  refine f7 h_ λY d B H0 V0 Z e r q=>?_;unfold jX at e;split at e
  .rename_i x ex;split at e
   .rename_i ds ey;split at e
    .rename_i hd;cases e
     exact⟨Y,x,B,H0,V0,Z,ex,r,λu H1 s1 r1=>⟨Y,ds,B,H0,V0,Z,ey,r.mono s1,λp xs H2 s2 hq r2=>
      ⟨x,ds,p,xs,hd.1,hd.2,(r1.mono (x6 s2)).mono x8,rfl,hq.imp id (j9 x8),r2.mono x8,q _ H2 (s1.trans s2) (K4.mpr rfl)⟩⟩⟩
    .cases e
   .cases e
  .cases e
def Ġ{fb:EL}(hu:X.A.units+64<D4)(ha:SE X a fa)(hb:SQ X b fb)(hm:Dd .In b=false:=by with_unfolding_all rfl):SE X (.Compare a [.In] [b] pos) (jX false fa fb):=j3 (Ri (TH hu) ha hb hm) LA
def SZ{fb:EL}(hu:X.A.units+64<D4)(ha:SE X a fa)(hb:SQ X b fb)(hm:Dd .In b=false:=by with_unfolding_all rfl):vW X (.Compare a [.In] [b] pos) (v5 (jX false fa fb)):=pH (IS (TH hu) ha hb hm) λU H Q h=>LA _ _ _ (tE U H Q h)
def T1{fb:EL}(hu:X.A.units+64<D4)(ha:SE X a fa)(hb:SQ X b fb)(hm:Dd .NotIn b=false:=by with_unfolding_all rfl):vW X (.Compare a [.NotIn] [b] pos) (v5 (jX true fa fb)):=pH (IS (YE hu) ha hb hm) λU H Q h=>LA _ _ _ (tE U H Q h)
theorem Xr{K:A5}{H:Hp}{ds:List D}{xs:List V}{i:Int}{d:D}(h:g9 K H ds xs)(e:l6 ds i=some d):∃v,l6 xs i=some v/\d8 K H d v:=by
 unfold l6 at e ⊢;rw[<-h.length]
 cases hi:rC ds.length i with
 |none=>rw[hi]at e;cases e
 |some j=>rw[hi]at e;exact h.get e
def jI(fa:EL)(fb:ED):ED:=λY=>match fa Y with|some ds=>(match fb Y with|some (.int i)=>l6 ds i|_=>none)|none=>none
def ġ{fa:EL}(ha:SQ X a fa)(hb:SE X b fb)(hs:DK b:=by exact λ_ _=>rfl):SE X (.Subscript a b pos) (jI fa fb):=
 j3 (SD Ļ ha hb hs) λU H Q h_=>by
  refine f7 h_ λY d B H0 V0 Z e r q=>?_;unfold jI at e;split at e
  .rename_i ds aH;split at e
   .rename_i i ei;refine⟨Y,ds,B,H0,V0,Z,aH,r,λp xs H1 s1 hq r1=>⟨Y,_,B,H0,V0,Z,ei,r.mono s1,λu H2 s2 r2=>?_⟩⟩
    obtain rfl:=v4.mp r2
    obtain⟨v,hv,rv⟩:=Xr (r1.mono (x6 s2)) e;have fin:=q v H2 (s1.trans s2) rv;rcases hq with hq|hq
    .exact .inl ⟨p,xs,i,v,rfl,rfl,s2.seq hq,hv,fin⟩
    .exact .inr (.inl ⟨p,xs,i,v,rfl,rfl,j9 s2 (j9 x8 hq),hv,fin⟩)
   .cases e
  .cases e
def tO(K:A5)(f:K6->Option (Option Int)):TO:=λU H Q=>∃Y o B H0 V0 Z,f Y=some o/\SR K B H0 V0 H Z U Y/\∀H',j8 H H'->Q o H'
abbrev SO(X:Cx)(e:Option Expr)(f:K6->Option (Option Int)):Prop:=PO X e (tO X.K f)
structure ZO(X:Cx)(e:Option Expr)(f:K6->Option (Option Int)):Prop where
 h:SO X e f
def vM:K6->Option (Option Int):=λ_=>some none
def tR(f:ED):K6->Option (Option Int):=λY=>match f Y with|some (.int i)=>some (some i)|_=>none
def OK:ZO X none vM:=
 ⟨λaa s U H Q I h_=>by
 refine f7 h_ λY o B H0 V0 Z e r q=>?_;cases e
 exact ß aa s U H Q I (q H (j8.refl H))⟩
def OL(h:ZE X a f):ZO X (some a) (tR f):=
 ⟨have h:=h.h;
 λaa s U H Q I h_=>by
 refine f7 h_ λY o B H0 V0 Z e r q=>?_;refine à h aa s U H Q I ?_;unfold tR at e;split at e
 .rename_i i ei;cases e;exact⟨Y,_,B,H0,V0,Z,ei,r,λv H' s rr=>⟨i,v4.mp rr,q H' s⟩⟩
 .cases e⟩
def uD{α:Type}(xs:List α)(lo hi:Option Int):List α:=(xs.drop (HT.sIx xs.length 0 lo)).take (HT.sIx xs.length xs.length hi-HT.sIx xs.length 0 lo)
def Ov{K:A5}{H:Hp}{ds:List D}{xs:List V}(lo hi:Option Int)(h:g9 K H ds xs):g9 K H (uD ds lo hi) (qU xs lo hi):=by unfold uD qU;rw[h.length];exact(h.drop _).take _
def UI:D->Option Int->Option Int->Option D:=λx lo hi=>match x with
 | .tup ds=>if HT.sIx ds.length 0 lo=0/\HT.sIx ds.length ds.length hi=ds.length then none else some (.tup (uD ds lo hi))
 | .lst ds=>some (.lst (uD ds lo hi))
 |_=>none
def sG(f:ED)(fl fh:K6->Option (Option Int)):ED:=λY=>match f Y with
 |some x=>(match fl Y with|some lo=>(match fh Y with|some hi=>UI x lo hi|none=>none)|none=>none)
 |none=>none
def Ģ{lo hi:Option Expr}{p2:Hq}{fl fh:K6->Option (Option Int)}(he:SE X a fa)(hl:SO X lo fl)(hh:SO X hi fh):SE X (.Subscript a (.Slice lo hi none p2) pos) (sG fa fl fh):=
 j3 (Xg (Ų.or ø) he hl hh) λU H Q h_=>by
  refine f7 h_ λY d B H0 V0 Z e r q=>?_;unfold sG at e;split at e
  .rename_i x ex;split at e
   .rename_i l el;split at e
    .rename_i h eh;refine⟨Y,x,B,H0,V0,Z,ex,r,λu H1 s1 r1=>⟨Y,l,B,H0,V0,Z,el,r.mono s1,λH2 s2=>⟨Y,h,B,H0,V0,Z,eh,(r.mono s1).mono s2,λH3 s3=>?_⟩⟩⟩;have R3:=((r.mono s1).mono s2).mono s3;have rx:=r1.mono (x6 (s2.trans s3));unfold UI at e;split at e
     .rename_i ds;split at e
      .cases e
      .rename_i hw;cases e;obtain⟨p,xs,rfl,h1,h2⟩:=j5.mp rx;refine .inl ⟨p,xs,rfl,j9 x8 h1,by rw[<-h2.length];exact hw,λn hn=>?_⟩
       have sn:=u9 (o:=HO.tup (qU xs l h)) hn;refine q _ _ (s1.trans (s2.trans (s3.trans sn))) (j5.mpr ⟨n,_,rfl,i8.of ?_,(Ov l h h2).mono (x6 sn)⟩);rw[Q4 (R3.newer hn)];exact v8
     .rename_i ds;cases e;obtain⟨p,xs,rfl,h1,h2⟩:=J6.mp rx;refine .inr ⟨p,xs,rfl,x8.seq h1,λn hn=>?_⟩;have sn:=u9 (o:=HO.lst (qU xs l h)) hn;refine q _ _ (s1.trans (s2.trans (s3.trans sn))) (J6.mpr ⟨n,_,rfl,i5.of ?_,(Ov l h h2).mono (x6 sn)⟩);rw[Q4 (R3.newer hn)];exact v8
     .cases e
    .cases e
   .cases e
  .cases e
def jU(f:EL):ED:=λY=>(f Y).map λds=>D.int ds.length
def nQ{p:Hq}(hm:X.mg "len" = none)(h:ZQ X a f)(hg:Gl X "len":=by rfl)(he:Ab [a] X.env=(false,Ce a X.env)::Ab [] X.env:=by exact u4 rfl)(af:(C8 pos (Ab [] X.env)).any (·.1)=false:=by exact J3 rfl):ZE X (.Call (.Name "len" p) [a] [] pos) (jU f):=
 ⟨have h:=h.h;
 j3 (rO VJ hg hm PySem.boot_len (J4 h Y8 he) (by decide) (by decide) he af) λU H Q h_=>by
  refine f7 h_ λY d B H0 V0 Z e r q=>?_;unfold jU at e;obtain⟨ds,aH,rfl⟩:=B9.mp e
  exact⟨Y,ds,B,H0,V0,Z,aH,r,λp xs H' s hq rr=>⟨p,xs,rfl,hq.imp id (j9 x8),q _ H' s (by rw[<-rr.length];exact v4.mpr rfl)⟩⟩⟩
def qQ(f:EL):ED:=λY=>(f Y).map D.tup
def zD{p:Hq}(hm:X.mg "tuple" = none)(h:ZQ X a f)(hg:Gl X "tuple":=by rfl)(he:Ab [a] X.env=(false,Ce a X.env)::Ab [] X.env:=by exact u4 rfl)(af:(C8 pos (Ab [] X.env)).any (·.1)=false:=by exact J3 rfl)(hv:B5 "tuple" = some (.type "tuple"):=by decide +kernel):ZE X (.Call (.Name "tuple" p) [a] [] pos) (qQ f):=
 ⟨have h:=h.h;
 j3 (pK Wk hg hm hv (J4 h Y8 he) (by decide) (by decide) he af) λU H Q h_=>by
  refine f7 h_ λY d B H0 V0 Z e r q=>?_;unfold qQ at e;obtain⟨ds,aH,rfl⟩:=B9.mp e;refine⟨Y,ds,B,H0,V0,Z,aH,r,λp xs H' s hq rr=>⟨p,xs,rfl,?_⟩⟩;rcases hq with hq|hq
  .refine .inl ⟨hq,λl hl=>?_⟩;have sn:=u9 (o:=HO.tup xs) hl;refine q _ _ (s.trans sn) (j5.mpr ⟨l,xs,rfl,i8.of ?_,rr.mono (x6 sn)⟩);rw[Q4 ((r.mono s).newer hl)];exact v8
  .exact .inr ⟨j9 x8 hq,q _ H' s (j5.mpr ⟨p,xs,rfl,hq,rr⟩)⟩⟩
end
end L3
namespace L3
open PySem PySem.W PyProof.Rows
def jK{α:Type}(lt:Nat->Nat->Bool):Od α->α
 | .ret a=>a
 | .ask i j k=>jK lt (k (lt i j))
theorem rT{α β:Type}(lt:Nat->Nat->Bool)(f:α->Od β):∀t:Od α,jK lt (t.bind f)=jK lt (f (jK lt t))
 | .ret _=>rfl
 | .ask i j k=>rT lt f (k (lt i j))
structure mJ(lt:Nat->Nat->Bool):Prop where
 asym:∀i j,lt i j=true->lt j i=false
 tr:∀i j k,lt j i=false->lt k j=false->lt k i=false
def gt(p:Array Nat)(i:Nat):Nat:=p.getD i 0
def xL{p q:Array Nat}{i j:Nat}(h:p[i]?=q[j]?):gt p i=gt q j:=by unfold gt;rw[Gr,Gr,h]
def Up(lt:Nat->Nat->Bool)(p:Array Nat)(b:Nat):Prop:=∀i j,i<=j->j<b->lt (gt p j) (gt p i)=false
def Dn(lt:Nat->Nat->Bool)(p:Array Nat)(b:Nat):Prop:=∀i j,i<=j->j<b->lt (gt p i) (gt p j)=false
def Al(lt:Nat->Nat->Bool)(p:Array Nat)(a b:Nat):Prop:=∀i j,a<=i->i<b->a<=j->j<b->lt (gt p i) (gt p j)=false
section
variable{lt:Nat->Nat->Bool}(O:mJ lt)
theorem mJ.irr(O:mJ lt)(i:Nat):lt i i=false:=by
 cases h:lt i i with
 |false=>rfl
 |true=>rw[O.asym i i h]at h;cases h
def sV{p:Array Nat}{i j:Nat}(hj:j<=p.size)(bE:i<=j)(k:Nat):gt (Fd p i j) k=if i<=k/\k<j then gt p (i+j-1-k) else gt p k:=by
 unfold Fd;have e:=getElem?_mirror (xs:=p) (i:=i) hj ((j-i) / 2) (by omega) k;by_cases h:i<=k/\k<j
 .rw[z7 h];by_cases h2:(i<=k/\k<i+(j-i) / 2)\/(j-(j-i) / 2<=k/\k<j)
  .rw[z7 h2]at e;exact xL e
  .rw[y3 h2]at e
   have:i+j-1-k=k:=by omega
   rw[this];exact xL e
 .rw[y3 h];rw[y3 (by omega)]at e;exact xL e
def uR(p:Array Nat)(i j:Nat):(Fd p i j).size=p.size:=mirror_size _ _ _ _
def rP(p:Array Nat)(i j:Nat):(Fd p i j).Perm p:=mirror_perm _ _ _ _
include O
theorem KJ:∀(f n:Nat),1<=n->Up lt p n->n<=jK lt (Jr p f n)/\jK lt (Jr p f n)<=n+f/\Up lt p (jK lt (Jr p f n)) /\
  (jK lt (Jr p f n)<n+f->lt (gt p (jK lt (Jr p f n))) (gt p (jK lt (Jr p f n)-1))=true)
 | 0,n,h1,h=>⟨Aj _,Aj _,h,λz=>w9 z (Dc _)⟩
 |f+1,n,h1,h=>by
  have e:jK lt (Jr p (f+1) n)=jK lt (if lt (gt p n) (gt p (n-1))=true then Od.ret n else Jr p f (n+1)):=rfl;rw[e]
  cases hc:lt (gt p n) (gt p (n-1)) with
  |true=>rw[z7 rfl];exact⟨Aj _,Lq _ _,h,λ_=>hc⟩
  |false=>
   rw[y3 B3]
   have h':Up lt p (n+1):=λi j bE hj=>by
    by_cases dy:j<n
    .exact h i j bE dy
    .have:j=n:=by omega
     subst this;by_cases hi:i=j
     .subst hi;exact O.irr _
     .exact O.tr _ _ _ (h i (j-1) (by omega) (by omega)) hc
   obtain⟨a1,a2,a3,a4⟩:=KJ f (n+1) (by omega) h';exact⟨by omega,by omega,a3,λz=>a4 (by omega)⟩
theorem TY{p:Array Nat}{n q:Nat}(hz:n<=p.size)(hq:q+1<=n)(hd:Dn lt p n)(ha:Al lt p (n-(q+1)) n):Dn lt (Fd p (n-(q+1)) n) n:=λi j bE hj=>by
 rw[sV hz (by omega),sV hz (by omega)];by_cases h1:n-(q+1)<=i/\i<n
 .have h2:n-(q+1)<=j/\j<n:=by omega
  rw[z7 h1,z7 h2];exact ha _ _ (by omega) (by omega) (by omega) (by omega)
 .rw[y3 h1];by_cases h2:n-(q+1)<=j/\j<n
  .rw[z7 h2];exact hd _ _ (by omega) (by omega)
  .rw[y3 h2];exact hd _ _ bE hj
theorem DQ:∀(f:Nat) (p:Array Nat) (n q:Nat),n+f<=p.size->q+1<=n->Dn lt p n->Al lt p (n-(q+1)) n ->
  ∃p' m q',jK lt (Fo f p n q)=(p',m,q')/\p'.size=p.size/\p'.Perm p/\n<=m/\m<=n+f/\q'+1<=m/\Dn lt p' m/\Al lt p' (m-(q'+1)) m
 | 0,p,n,q,hz,hq,hd,ha=>⟨p,n,q,rfl,rfl,Fi _,Aj _,Aj _,hq,hd,ha⟩
 |f+1,p,n,q,hz,hq,hd,ha=>by
  have e:jK lt (Fo (f+1) p n q)=jK lt (if lt (gt p n) (gt p (n-1))=true then (if q>0 then Fo f (Fd p (n-(q+1)) n) (n+1) 0 else Fo f p (n+1) 0)
   else .ask (p.getD (n-1) 0) (p.getD n 0) λd=>if d=true then .ret (p,n,q) else Fo f p (n+1) (q+1)):=rfl
  rw[e]
  cases hc:lt (gt p n) (gt p (n-1)) with
  |true=>
   rw[z7 rfl];have less:∀i,i<n->lt (gt p i) (gt p n)=false:=λi hi=>O.tr _ _ _ (O.asym _ _ hc) (hd i (n-1) (by omega) (by omega));by_cases h0:q>0
   .rw[z7 h0];have bZ:=TY O (by omega) hq hd ha
    have bB:Dn lt (Fd p (n-(q+1)) n) (n+1):=λi j bE hj=>by
     by_cases dy:j<n
     .exact bZ i j bE dy
     .have:j=n:=by omega
      subst this;by_cases hi:i=j
      .subst hi;exact O.irr _
      .rw[sV (by omega) (by omega),sV (by omega) (by omega),y3 (by omega:¬(j-(q+1)<=j/\j<j))];split
       .exact less _ (by omega)
       .exact less _ (by omega)
    obtain⟨p',m,q',e1,e2,e3,e4,e5,e6,e7,e8⟩:=DQ f (Fd p (n-(q+1)) n) (n+1) 0 (by rw[uR];omega) (by omega) bB (λi j h1 h2 h3 h4=>by
     have:i=j:=by omega
     subst this;exact O.irr _)
    exact⟨p',m,q',e1,by rw[e2,uR],e3.trans (rP _ _ _),by omega,by omega,e6,e7,e8⟩
   .rw[y3 h0]
    have bB:Dn lt p (n+1):=λi j bE hj=>by
     by_cases dy:j<n
     .exact hd i j bE dy
     .have:j=n:=by omega
      subst this;by_cases hi:i=j
      .subst hi;exact O.irr _
      .exact less i (by omega)
    obtain⟨p',m,q',e1,e2,e3,e4,e5,e6,e7,e8⟩:=DQ f p (n+1) 0 (by omega) (by omega) bB (λi j h1 h2 h3 h4=>by
     have:i=j:=by omega
     subst this;exact O.irr _)
    exact⟨p',m,q',e1,e2,e3,by omega,by omega,e6,e7,e8⟩
  |false=>
   rw[y3 B3];have e':jK lt (Nh (p.getD (n-1) 0) (p.getD n 0) λd=>if d=true then .ret (p,n,q) else Fo f p (n+1) (q+1))=jK lt (if lt (gt p (n-1)) (gt p n)=true then .ret (p,n,q) else Fo f p (n+1) (q+1)):=rfl;rw[e']
   cases aX:lt (gt p (n-1)) (gt p n) with
   |true=>rw[z7 rfl];exact⟨p,n,q,rfl,rfl,Fi _,Aj _,by omega,hq,hd,ha⟩
   |false=>
    rw[y3 B3]
    have bB:Dn lt p (n+1):=λi j bE hj=>by
     by_cases dy:j<n
     .exact hd i j bE dy
     .have:j=n:=by omega
      subst this;by_cases hi:i=j
      .subst hi;exact O.irr _
      .exact O.tr _ _ _ aX (hd i (j-1) (by omega) (by omega))
    have ha2:Al lt p (n+1-(q+1+1)) (n+1):=λi j h1 h2 h3 h4=>by
     have im:∀i,n-(q+1)<=i->i<n->lt (gt p i) (gt p n)=false:=λi g1 g2=>O.tr _ _ _ aX (ha i (n-1) g1 g2 (by omega) (by omega));have iJ:∀i,n-(q+1)<=i->i<n->lt (gt p n) (gt p i)=false:=λi g1 g2=>O.tr _ _ _ (ha (n-1) i (by omega) (by omega) g1 g2) hc;by_cases hi:i<n
     .by_cases hj:j<n
      .exact ha i j (by omega) hi (by omega) hj
      .have:j=n:=by omega
       subst this;exact im i (by omega) hi
     .have:i=n:=by omega
      subst this;by_cases hj:j<i
      .exact iJ j (by omega) hj
      .have:j=i:=by omega
       subst this;exact O.irr _
    obtain⟨p',m,q',e1,e2,e3,e4,e5,e6,e7,e8⟩:=DQ f p (n+1) (q+1) (by omega) (by omega) bB ha2;exact⟨p',m,q',e1,e2,e3,by omega,by omega,e6,e7,e8⟩
theorem ŭ{p:Array Nat}{n:Nat}(hz:n<=p.size)(hd:Dn lt p n):Up lt (Fd p 0 n) n:=λi j bE hj=>by rw[sV hz (by omega),sV hz (by omega),z7 (by omega),z7 (by omega)];exact hd _ _ (by omega) (by omega)
theorem RB{p:Array Nat}{n nrem:Nat}(hn:n<=nrem)(h1:1<=n)(hz:nrem<=p.size)(hd:Dn lt p n):
  ∃m p',jK lt (Mp n nrem p)=(m,p')/\p'.size=p.size/\p'.Perm p/\1<=m/\m<=nrem/\Up lt p' m:=by
 unfold Mp;rw[rT];obtain⟨a1,a2,a3,_⟩:=KJ O (nrem-n) n h1 (ŭ O (by omega) hd);exact⟨_,_,rfl,uR _ _ _,rP _ _ _,by omega,by omega,a3⟩
theorem Qo{p:Array Nat}{n nrem:Nat}(hn:n+1<=nrem)(hz:nrem<=p.size)(hd:Dn lt p (n+1)):
  ∃m p',jK lt (Fp n nrem p)=(m,p')/\p'.size=p.size/\p'.Perm p/\1<=m/\m<=nrem/\Up lt p' m:=by
 unfold Fp;rw[rT]
 obtain⟨p',m,q',e1,e2,e3,e4,e5,e6,e7,e8⟩:=DQ O (nrem-(n+1)) p (n+1) 0 (by omega) (by omega) hd (λi j h1 h2 h3 h4=>by
  have:i=j:=by omega
  subst this;exact O.irr _)
 rw[e1];dsimp only;by_cases hq:q'>0
 .rw[z7 hq];obtain⟨m2,p2,t1,t2,t3,t4,t5,t6⟩:=RB O (p:=Fd p' (m-(q'+1)) m) (n:=m) (nrem:=nrem) (by omega) (by omega) (by rw[uR];omega) (TY O (by omega) e6 e7 e8)
  exact⟨m2,p2,t1,by rw[t2,uR,e2],t3.trans ((rP _ _ _).trans e3),t4,t5,t6⟩
 .rw[y3 hq];obtain⟨m2,p2,t1,t2,t3,t4,t5,t6⟩:=RB O (p:=p') (n:=m) (nrem:=nrem) (by omega) (by omega) (by omega) e7;exact⟨m2,p2,t1,by rw[t2,e2],t3.trans e3,t4,t5,t6⟩
theorem ϛ{p:Array Nat}{nrem:Nat}(h1:1<=nrem)(hz:nrem<=p.size):
  ∃m p',jK lt (Mq nrem p)=(m,p')/\p'.size=p.size/\p'.Perm p/\1<=m/\m<=nrem/\Up lt p' m:=by
 unfold Mq;rw[rT]
 obtain⟨a1,a2,a3,a4⟩:=KJ O (p:=p) (nrem-1) 1 (Aj _) (λi j bE hj=>by
  have:i=j:=by omega
  subst this;exact O.irr _)
 generalize jK lt (Jr p (nrem-1) 1)=n at a1 a2 a3 a4;by_cases e1:(n==nrem)=true
 .rw[z7 e1];exact⟨n,p,rfl,rfl,Fi _,a1,by omega,a3⟩
 .rw[y3 e1];have ah:n≠nrem:=λq=>e1 (by rw[q];exact beq_self_eq_true _)
  have am:=a4 (by omega);by_cases e2:n>1
  .rw[z7 e2];have e':jK lt (Nh (p.getD 0 0) (p.getD (n-1) 0) λc=>if c=true then .ret (n,p) else Fp n nrem (Fd p 0 n))=jK lt (if lt (gt p 0) (gt p (n-1))=true then .ret (n,p) else Fp n nrem (Fd p 0 n)):=rfl;rw[e']
   cases hc:lt (gt p 0) (gt p (n-1)) with
   |true=>rw[z7 rfl];exact⟨n,p,rfl,rfl,Fi _,a1,by omega,a3⟩
   |false=>
    rw[y3 B3]
    have all:∀i j,i<n->j<n->lt (gt p i) (gt p j)=false:=λi j hi hj=>O.tr _ _ _ (O.tr _ _ _ (a3 j (n-1) (by omega) (by omega)) hc) (a3 0 i (by omega) hi)
    obtain⟨m2,p2,t1,t2,t3,t4,t5,t6⟩:=Qo O (p:=Fd p 0 n) (n:=n) (nrem:=nrem) (by omega) (by rw[uR];exact hz) (λi j bE hj=>by
     rw[sV (by omega) (by omega),sV (by omega) (by omega)];by_cases dy:j<n
     .rw[z7 (by omega),z7 (by omega)];exact all _ _ (by omega) (by omega)
     .have:j=n:=by omega
      subst this;rw[y3 (by omega:¬(0<=j/\j<j))];by_cases hi:i<j
      .rw[z7 (by omega)];exact O.tr _ _ _ (O.asym _ _ am) (all _ _ (by omega) (by omega))
      .rw[y3 (by omega)]
       have:i=j:=by omega
       subst this;exact O.irr _)
    exact⟨m2,p2,t1,by rw[t2,uR],t3.trans (rP _ _ _),t4,t5,t6⟩
  .rw[y3 e2]
   have:n=1:=by omega
   subst this
   obtain⟨m2,p2,t1,t2,t3,t4,t5,t6⟩:=Qo O (p:=p) (n:=1) (nrem:=nrem) (by omega) hz (λi j bE hj=>by
    by_cases gm:i=j
    .subst gm;exact O.irr _
    .have hi:i=0:=by omega
     have eD:j=1:=by omega
     subst hi eD
     exact O.asym _ _ am)
   exact⟨m2,p2,t1,t2,t3,t4,t5,t6⟩
theorem JR(hu:Up lt p k):∀(f l r:Nat),r-l<=f->l<=r->r<=k->(∀i,i<l->lt (gt p k) (gt p i)=false)->(∀i,r<=i->i<k->lt (gt p i) (gt p k)=false) ->
  jK lt (Fj p k f l r)<=k/\(∀i,i<jK lt (Fj p k f l r)->lt (gt p k) (gt p i)=false)/\(∀i,jK lt (Fj p k f l r)<=i->i<k->lt (gt p i) (gt p k)=false)
 | 0,l,r,hf,hlr,hr,h1,h2=>⟨show l<=k by omega,h1,λi (g1:l<=i) g2=>h2 i (by omega) g2⟩
 |f+1,l,r,hf,hlr,hr,h1,h2=>by
  have e:jK lt (Fj p k (f+1) l r)=jK lt (if l>=r then .ret l else .ask (p.getD k 0) (p.getD ((l+r) / 2) 0) λc=>if c=true then Fj p k f l ((l+r) / 2) else Fj p k f ((l+r) / 2+1) r):=rfl;rw[e];by_cases gP:l>=r
  .rw[z7 gP];exact⟨show l<=k by omega,h1,λi (g1:l<=i) g2=>h2 i (by omega) g2⟩
  .rw[y3 gP]
   have e':jK lt (Nh (p.getD k 0) (p.getD ((l+r) / 2) 0) λc=>if c=true then Fj p k f l ((l+r) / 2) else Fj p k f ((l+r) / 2+1) r) =
    jK lt (if lt (gt p k) (gt p ((l+r) / 2))=true then Fj p k f l ((l+r) / 2) else Fj p k f ((l+r) / 2+1) r):=rfl
   rw[e']
   cases hc:lt (gt p k) (gt p ((l+r) / 2)) with
   |true=>rw[z7 rfl];exact JR hu f l ((l+r) / 2) (by omega) (by omega) (by omega) h1 λi g1 g2=>O.tr _ _ _ (O.asym _ _ hc) (hu _ i g1 g2)
   |false=>rw[y3 B3];exact JR hu f ((l+r) / 2+1) r (by omega) (by omega) hr (λi g1=>O.tr _ _ _ (hu i _ (by omega) (by omega)) hc) h2
theorem S8:∀(f:Nat) (p:Array Nat) (k:Nat),k+f<=p.size->Up lt p k->∃p',jK lt (kas_bin f p k)=p'/\p'.size=p.size/\p'.Perm p/\Up lt p' (k+f)
 | 0,p,k,_,hu=>⟨p,rfl,rfl,Fi _,hu⟩
 |f+1,p,k,hz,hu=>by
  have e:jK lt (kas_bin (f+1) p k)=jK lt ((Fj p k k 0 k).bind λl=>kas_bin f (bubble p k (k-l)) (k+1)):=rfl;rw[e,rT];obtain⟨b1,b2,b3⟩:=JR O hu k 0 k (by omega) (by omega) (Aj _) (λi g=>by omega) (λi g1 g2=>by omega);generalize jK lt (Fj p k k 0 k)=l at b1 b2 b3
  have bg:∀x,gt (bubble p k (k-l)) x=if x=l then gt p k else if l<x/\x<=k then gt p (x-1) else gt p x:=λx=>by
   have e:=getElem?_bubble (xs:=p) (src:=k) (by omega) (k-l) (by omega) x
   have ek:k-(k-l)=l:=by omega
   rw[ek]at e;by_cases g1:x=l
   .rw[z7 g1]at e ⊢;exact xL e
   .rw[y3 g1]at e ⊢;by_cases g2:l<x/\x<=k
    .rw[z7 g2]at e ⊢;exact xL e
    .rw[y3 g2]at e ⊢;exact xL e
  have hu':Up lt (bubble p k (k-l)) (k+1):=λi j bE hj=>by
   by_cases gm:i=j
   .subst gm;exact O.irr _
   rw[bg,bg];by_cases fC:j=l
   .rw[z7 fC,y3 (by omega:¬i=l),y3 (by omega:¬(l<i/\i<=k))];exact b2 i (by omega)
   .rw[y3 fC];by_cases hj2:l<j/\j<=k
    .rw[z7 hj2];by_cases bI:i=l
     .rw[z7 bI];exact b3 _ (by omega) (by omega)
     .rw[y3 bI];by_cases dm:l<i/\i<=k
      .rw[z7 dm];exact hu _ _ (by omega) (by omega)
      .rw[y3 dm];exact hu _ _ (by omega) (by omega)
    .rw[y3 hj2,y3 (by omega:¬i=l),y3 (by omega:¬(l<i/\i<=k))];exact hu _ _ bE (by omega)
  obtain⟨p',e1,e2,e3,e4⟩:=S8 f (bubble p k (k-l)) (k+1) (by rw[bubble_size];omega) hu'
  exact⟨p',e1,by rw[e2,bubble_size],e3.trans (bubble_perm _ _ _),by rw[show k+(f+1)=k+1+f by omega];exact e4⟩
theorem Rx{n:Nat}(hn:1<=n):∃p,jK lt (kas_sort n)=p/\p.size=n/\p.Perm (Bu (A9 n))/\Up lt p n:=by
 unfold kas_sort;rw[rT]
 have hz:(Bu (A9 n)).size=n:=by simp
 obtain⟨m,p',e1,e2,e3,e4,e5,e6⟩:=ϛ O (p:=Bu (A9 n)) (nrem:=n) hn (by rw[hz];exact Aj _)
 rw[e1];dsimp only;by_cases h:m<n
 .rw[z7 h]
  have em:max m 1=m:=by omega
  rw[em];obtain⟨p2,t1,t2,t3,t4⟩:=S8 O (n-m) p' m (by omega) e6;exact⟨p2,t1,by rw[t2,e2,hz],t3.trans e3,by rw[show n=m+(n-m) by omega];exact t4⟩
 .rw[y3 h]
  have em:m=n:=by omega
  subst em;exact⟨p',rfl,by rw[e2,hz],e3,e6⟩
end
def mF{α:Type}(lt:Nat->Nat->Bool)(n:Nat):Od α->Prop
 | .ret _=>True
 | .ask i j k=>i<n/\j<n/\mF lt n (k (lt i j))
def l8(n:Nat)(p:Array Nat):Prop:=0<n/\∀x,x∈p->x<n
section
variable{lt:Nat->Nat->Bool}{n:Nat}
theorem wP{α β:Type}{f:α->Od β}:∀{t:Od α},mF lt n t->mF lt n (f (jK lt t))->mF lt n (t.bind f)
 | .ret _,_,h=>h
 | .ask i j k,⟨h1,h2,h3⟩,h=>⟨h1,h2,wP (t:=k (lt i j)) h3 h⟩
theorem l8.gt{p:Array Nat}(h:l8 n p)(i:Nat):p.getD i 0<n:=by
 rw[Gr]
 cases e:p[i]? with
 |none=>exact h.1
 |some x=>exact h.2 x (Array.mem_of_getElem? e)
def l8.perm{p q:Array Nat}(h:l8 n p)(e:q.Perm p):l8 n q:=⟨h.1,λx hx=>h.2 x (e.mem_iff.mp hx)⟩
theorem yJ{α:Type}{c:Bool}{t u:Od α}(h1:mF lt n t)(h2:mF lt n u):mF lt n (if c=true then t else u):=by
 cases c with
 |true=>rw[z7 rfl];exact h1
 |false=>rw[y3 B3];exact h2
def wQ{α:Type}{c:Prop}[Decidable c]{t u:Od α}(h1:mF lt n t)(h2:mF lt n u):mF lt n (if c then t else u):=by
 split
 .exact h1
 .exact h2
theorem KI{p:Array Nat}(h:l8 n p):∀f m,mF lt n (Jr p f m)
 | 0,_=>trivial
 |f+1,m=>⟨h.gt _,h.gt _,yJ trivial (KI h f (m+1))⟩
theorem uI:∀(f:Nat) (p:Array Nat) (m q:Nat),l8 n p->mF lt n (Fo f p m q)/\l8 n (jK lt (Fo f p m q)).1
 | 0,p,_,_,h=>⟨trivial,h⟩
 |f+1,p,m,q,h=>by
  have hr:l8 n (Fd p (m-(q+1)) m):=h.perm (rP _ _ _)
  have e:jK lt (Fo (f+1) p m q)=jK lt (if lt (p.getD m 0) (p.getD (m-1) 0)=true then (if q>0 then Fo f (Fd p (m-(q+1)) m) (m+1) 0 else Fo f p (m+1) 0)
   else .ask (p.getD (m-1) 0) (p.getD m 0) λd=>if d=true then .ret (p,m,q) else Fo f p (m+1) (q+1)):=rfl
  refine⟨⟨h.gt _,h.gt _,yJ (wQ (uI f _ _ _ hr).1 (uI f _ _ _ h).1) ⟨h.gt _,h.gt _,yJ trivial (uI f _ _ _ h).1⟩⟩,?_⟩;rw[e]
  cases lt (p.getD m 0) (p.getD (m-1) 0) with
  |true=>
   rw[z7 rfl];split
   .exact(uI f _ _ _ hr).2
   .exact(uI f _ _ _ h).2
  |false=>
   rw[y3 B3];have e':jK lt (Nh (p.getD (m-1) 0) (p.getD m 0) λd=>if d=true then .ret (p,m,q) else Fo f p (m+1) (q+1))=jK lt (if lt (p.getD (m-1) 0) (p.getD m 0)=true then .ret (p,m,q) else Fo f p (m+1) (q+1)):=rfl;rw[e']
   cases lt (p.getD (m-1) 0) (p.getD m 0) with
   |true=>rw[z7 rfl];exact h
   |false=>rw[y3 B3];exact(uI f _ _ _ h).2
def EA{p:Array Nat}{a b:Nat}(h:l8 n p):mF lt n (Mp a b p)/\l8 n (jK lt (Mp a b p)).2:=by have hr:l8 n (Fd p 0 a):=h.perm (rP _ _ _);refine⟨wP (KI hr _ _) trivial,?_⟩;unfold Mp;rw[rT];exact hr
def CS{p:Array Nat}{a b:Nat}(h:l8 n p):mF lt n (Fp a b p)/\l8 n (jK lt (Fp a b p)).2:=by
 obtain⟨d1,d2⟩:=uI (lt:=lt) (b-(a+1)) p (a+1) 0 h;unfold Fp;rw[rT];refine⟨wP d1 ?_,?_⟩
 .exact wQ (EA (d2.perm (rP _ _ _))).1 (EA d2).1
 .split
  .exact(EA (d2.perm (rP _ _ _))).2
  .exact(EA d2).2
def Ϛ{p:Array Nat}{b:Nat}(h:l8 n p):mF lt n (Mq b p)/\l8 n (jK lt (Mq b p)).2:=by
 have hr:∀m,l8 n (Fd p 0 m):=λm=>h.perm (rP _ _ _);unfold Mq;rw[rT];generalize hm:jK lt (Jr p (b-1) 1)=m;refine⟨wP (KI h _ _) ?_,?_⟩
 .rw[hm];exact wQ trivial (wQ ⟨h.gt _,h.gt _,yJ trivial (CS (hr m)).1⟩ (CS h).1)
 .split
  .exact h
  .split
   .have e':jK lt (Nh (p.getD 0 0) (p.getD (m-1) 0) λc=>if c=true then .ret (m,p) else Fp m b (Fd p 0 m))=jK lt (if lt (p.getD 0 0) (p.getD (m-1) 0)=true then .ret (m,p) else Fp m b (Fd p 0 m)):=rfl;rw[e']
    cases lt (p.getD 0 0) (p.getD (m-1) 0) with
    |true=>rw[z7 rfl];exact h
    |false=>rw[y3 B3];exact(CS (hr m)).2
   .exact(CS h).2
theorem JQ{p:Array Nat}{k:Nat}(h:l8 n p):∀f l r,mF lt n (Fj p k f l r)
 | 0,_,_=>trivial
 |f+1,l,r=>wQ (t:=.ret l) trivial ⟨h.gt _,h.gt _,yJ (JQ h f _ _) (JQ h f _ _)⟩
theorem S7:∀(f:Nat) (p:Array Nat) (k:Nat),l8 n p->mF lt n (kas_bin f p k)
 | 0,_,_,_=>trivial
 |f+1,p,k,h=>wP (JQ h _ _ _) (S7 f _ _ (h.perm (bubble_perm _ _ _)))
def Rw(hn:0<n):mF lt n (kas_sort n):=by have h:l8 n (Bu (A9 n)):=⟨hn,λx hx=>by simpa using hx⟩;obtain⟨c1,c2⟩:=Ϛ (lt:=lt) (b:=n) h;exact wP c1 (wQ (S7 _ _ _ c2) trivial)
end
theorem GM{α:Type}{lt:Nat->Nat->Bool}{n:Nat}{cR:Nat->Nat->(Bool->Ai->Prop)->Ai->Prop}{Ok:Ai->Prop}(hc:∀i j C s,i<n->j<n->Ok s->(∀s',Ok s'->C (lt i j) s')->cR i j C s){Q:α->Ai->Prop}:
  ∀(t:Od α) (s:Ai),mF lt n t->Ok s->(∀s',Ok s'->Q (jK lt t) s')->t.kasWp cR Q s
 | .ret a,s,_,ok,q=>q s ok
 | .ask i j k,s,⟨h1,h2,h3⟩,ok,q=>hc i j _ s h1 h2 ok λs' ok'=>GM hc (k (lt i j)) s' h3 ok' q
end L3
namespace L3
open PySem PySem.Spec PyProof.Rows L2 PySem.SeqAt PySem.W
theorem KC:∀a:List Int,HT.lexLt a a=false
 | []=>rfl
 |x::xs=>by rw[HT.lexLt_cons,z7 rfl];exact KC xs
theorem CK:∀a b:List Int,HT.lexLt a b=true->HT.lexLt b a=false
 | [],[],h=>by cases h
 | [],_::_,_=>rfl
 |_::_,[],h=>by cases h
 |x::xs,y::ys,h=>by
  rw[HT.lexLt_cons]at h ⊢;by_cases e:x=y
  .rw[z7 e]at h;rw[z7 e.symm];exact CK xs ys h
  .rw[y3 e]at h;rw[y3 (Ch e)]
   have:=lC h
   exact Y1 (by omega)
theorem wL:∀a b c:List Int,HT.lexLt b a=false->HT.lexLt c b=false->HT.lexLt c a=false
 |a,b,[],h1,h2=>by
  cases a with
  |nil=>rfl
  |cons x xs=>
   cases b with
   |nil=>cases h1
   |cons y ys=>cases h2
 |a,[],z::zs,h1,h2=>by
  cases a with
  |nil=>rfl
  |cons x xs=>cases h1
 | [],y::ys,z::zs,h1,h2=>rfl
 |x::xs,y::ys,z::zs,h1,h2=>by
  rw[HT.lexLt_cons]at h1 h2 ⊢;by_cases e1:y=x
  .rw[z7 e1]at h1;by_cases e2:z=y
   .rw[z7 e2]at h2;rw[z7 (e2.trans e1)];exact wL xs ys zs h1 h2
   .rw[y3 e2]at h2
    have:=pQ h2
    rw[y3 (by omega)];exact Y1 (by omega)
  .rw[y3 e1]at h1;have g1:=pQ h1;by_cases e2:z=y
   .rw[y3 (by omega)];exact Y1 (by omega)
   .rw[y3 e2]at h2;have g2:=pQ h2;rw[y3 (by omega)];exact Y1 (by omega)
theorem BH:∀a b:List Int,HT.lexLt a b=false->HT.lexLt b a=false->a=b
 | [],[],_,_=>rfl
 | [],_::_,h,_=>by cases h
 |_::_,[],_,h=>by cases h
 |x::xs,y::ys,h1,h2=>by
  rw[HT.lexLt_cons]at h1 h2;by_cases e:x=y
  .rw[z7 e]at h1;rw[z7 e.symm]at h2;rw[e,BH xs ys h1 h2]
  .rw[y3 e]at h1;rw[y3 (Ch e)]at h2;have g1:=pQ h1;have g2:=pQ h2;omega
theorem zI{α:Type}{le:α->α->Prop}(cH:∀a b,le a b->le b a->a=b):∀{xs ys:List α},xs.Perm ys->xs.Pairwise le->ys.Pairwise le->(∀a,le a a)->xs=ys
 | [],ys,p,_,_,_=>(List.nil_perm.mp p).symm
 |x::xs,ys,p,h1,h2,rf=>by
  cases ys with
  |nil=>exact w9 (List.perm_nil.mp p) (by simp)
  |cons y ys=>
   have hx:=Ds.mp h1;have hy:=Ds.mp h2
   have e:x=y:=by
    have m1:x∈y::ys:=p.mem_iff.mp A6;have m2:y∈x::xs:=p.mem_iff.mpr A6;refine cH x y ?_ ?_
    .rcases Ad.mp m2 with z|z
     .rw[z];exact rf x
     .exact hx.1 y z
    .rcases Ad.mp m1 with z|z
     .rw[z];exact rf y
     .exact hy.1 x z
   subst e;rw[zI cH (List.perm_cons x |>.mp p) hx.2 hy.2 rf]
def lF(a b:List Int):Bool:=!HT.lexLt b a
def qS(nss:List (List Int)):List (List Int):=nss.mergeSort lF
def zH(nss:List (List Int)):(qS nss).Perm nss:=E2 nss lF
def BO(nss:List (List Int)):(qS nss).Pairwise λa b=>HT.lexLt b a=false:=by
 have h:=Ea (le:=lF) (l:=nss) (λa b c h1 h2=>by
  unfold lF at h1 h2 ⊢;simp only[Fq]at h1 h2 ⊢
  exact wL a b c h1 h2) (λa b=>by
  unfold lF
  cases h:HT.lexLt b a with
  |false=>rfl
  |true=>rw[CK b a h];rfl)
 exact h.imp λq=>by unfold lF at q;simpa using q
def qR(ns:List Int):List Int:=ns.mergeSort λa b=>decide (a<=b)
def Qg(ns:List Int):(qR ns).Perm ns:=E2 ns _
def Ox(ns:List Int):(qR ns).Pairwise (·<=·):=by
 have h:=Ea (le:=λa b:Int=>decide (a<=b)) (l:=ns) (λa b c h1 h2=>by
  have:=lC h1
  have:=lC h2
  exact K9 (by omega)) (λa b=>by
  by_cases h:a<=b
  .simp[h]
  .simp;omega)
 exact h.imp λq=>lC q
section
variable{prog:Bw}{w:Cg}{A:C1}{E:VP}{s:Ai}
def Qa(vs:List Aa):(A9 vs.length).map (λi=>vs.getD i Ca)=vs:=by
 apply Jm
 .simp
 .intro i h1 h2;simp[List.getElem_map,h2]
def Xw{a:Av}{vs:List Aa}{P:Mr->Ai->Prop}(O:mJ lt)(ho:s.heap.get? a=some (Bk "list" vs.toArray n))(fB:vs.length<64)(hk:2<=vs.length->∀h:Cf,(∀b o,b≠a->s.heap.get? b=some o->h.get? b=some o)->∀Q:O7->Ai->Prop,Q κ { s with heap:=h }->Ap (B0 prog w) A (O8 vs.toArray) Q (λ_ _=>False) { s with heap:=h })
  (hc:∀h:Cf,(∀b o,b≠a->s.heap.get? b=some o->h.get? b=some o)->∀i j,i<vs.length->j<vs.length->∀C:Bool->Ai->Prop,C (lt i j) { s with heap:=h } ->
   Ap (B0 prog w) A (keyLt' κ (vs.getD i Ca) (vs.getD j Ca)) C (λ_ _=>False) { s with heap:=h })
  (fin:∀p:Array Nat,p.size=vs.length->p.Perm (Bu (A9 vs.length))->Up lt p vs.length->P (.done (.ret .none)) { s with heap:=sortedHeap s.heap a vs (Bu (p.toList.map λi=>vs.getD i Ca)) }):
  Ap (B0 prog w) A (Cl.«list.sort» ⟨[.ref a],[]⟩) P E s:=by
 rw[list_sort_plain];have am:a<s.heap.objs.size:=Ao ho
 have hzz:vs.toArray.size<=sizeLine:=by rw[An,Bs];omega
 refine A3 (Kh ho rfl (A3 (Gp ho rfl ?_ hzz (Bg _))));obtain⟨e1,gT⟩:∃e1,(s.heap.update a (Ct λ_=>(#[]:Array Aa))).get? a=some (Bk "list" #[] e1):=⟨_,get?_update_seq ho (λ_=>#[])⟩;refine A3 (Mg gT rfl (A3 (wpAny_newTuple (A3 (Hv (Cp ?_) (Bg _))) (by show vs.length<=_;rw[Bs];omega))))
 generalize hS:({ s with heap:=((s.heap.update a (Ct λ_=>(#[]:Array Aa))).push (Bk "tuple" vs.toArray 0)).push (Bk "list" #[] 0) }:Ai)=S6
 have hh6:S6.heap=((s.heap.update a (Ct λ_=>(#[]:Array Aa))).push (Bk "tuple" vs.toArray 0)).push (Bk "list" #[] 0):=by rw[<-hS]
 have e6:S6={ s with heap:=S6.heap }:=by rw[<-hS]
 have ho6:S6.heap.get? a=some (Bk "list" #[] e1):=by
  rw[hh6,Cf.get?_push_ne _ _ _ (by rw[M1,Hg];exact Aq (C2 am)),Cf.get?_push_ne _ _ _ (by rw[Hg];exact Aq am)]
  exact gT
 have kept:∀b o,b≠a->s.heap.get? b=some o->S6.heap.get? b=some o:=λb o hb e=>by rw[hh6];exact A8 _ (A8 _ ((Bo _ _ (Ch hb)).trans e))
 show Ap (B0 prog w) A _ P E S6;dsimp only
 have dS:∀(aS:SortSt) (p:Array Nat),p.size=vs.length->p.Perm (Bu (A9 vs.length))->Up lt p vs.length->(arrOf aS).map (·.2)=Bu (p.toList.map λi=>vs.getD i Ca)->Ni aS=none ->
   Ap (B0 prog w) A (do
    let touched:=(<-seqEpoch a) != e1
    Cl.List.listUpdate (.ref a) λ_=>(arrOf aS).map (·.2)
    if let some e:=Ni aS then rule "list.sort.comparison-raised";throw e
    if touched then rule "list.sort.modified";raiseError "ValueError" "list modified during sort"
    ret .none) P E S6:=λaS p h1 h2 h3 h4 h5=>by
  refine A3 (Mg ho6 rfl ?_);refine A3 (Gp ho6 rfl ?_ (Bg _) ?_)
  .rw[h5,h4];simp only[bne_self_eq_false,Bj,if_false];have z:=fin p h1 h2 h3;unfold sortedHeap at z;rw[<-hh6]at z;refine w6 ?_;rw[e6];exact z
  .rw[h4];show (Bu (p.toList.map λi=>vs.getD i Ca)).size<=sizeLine+1;rw[An,A0,Au,h1,Bs];omega
 by_cases h2:vs.toArray.size<2
 .rw[z7 h2,z7 h2];refine A3 (w6 ?_);rw[StateT.run_pure];refine A3 (w6 ?_);dsimp only;refine dS (SortSt.mk' general' (vs.toArray.zip vs.toArray) #[] 7 none) (Bu (A9 vs.length)) (by simp) (Fi _) (λi j bE hj=>?_) ?_ rfl
  .have:i=j:=by rw[An]at h2;omega
   subst this;exact O.irr _
  .rw[show (Bu (A9 vs.length)).toList=A9 vs.length from rfl,Qa];apply Array.toList_inj.mp;show ((vs.toArray.zip vs.toArray).map (·.2)).toList=vs;apply Jm
   .simp
   .intro i g1 g2;simp
 .rw[y3 h2,y3 h2]
  have bn:2<=vs.length:=by rw[An]at h2;omega
  have zk:=hk bn S6.heap kept (λκ' s'=>κ'=κ/\s'=S6) ⟨rfl,e6.symm⟩;rw[<-e6]at zk;refine A3 (Cn zk (λκ' s' hq=>?_) λ_ _ x=>x.elim);obtain⟨ip,ju⟩:=hq;rw[ip,ju];obtain⟨p,ep,p1,p2,p3⟩:=Rx O (n:=vs.length) (by omega)
  refine A3 (Cn (kat_run (ks:=vs) (vs:=vs) (Q:=λaS s'=>∃q,q.size=vs.length/\arrOf aS=q.map (kas_item (vs.toArray.zip vs.toArray))/\Ni aS=none/\q=p/\s'=S6) rfl bn fB (λq aS s' a1 a2 a3 a4=>⟨q,a1,a2,a3,a4⟩)
   (GM (lt:=lt) (n:=vs.length) (Ok:=λs'=>s'=S6) (λi j C s' hi hj hs hC=>?_) _ S6 (Rw (by omega)) rfl (λs' hs=>⟨ep,hs⟩))) ?_ λ_ _ e=>e)
  .rw[hs];unfold kas_ask;have z0:=hC S6 rfl;rw[e6]at z0;have z:=hc S6.heap kept i j hi hj C z0;rw[<-e6]at z;exact z
  .rintro ⟨⟨⟩,aS⟩ s' ⟨q,q1,q2,q3,hqp,hqs⟩;rw[hqs];rw[hqp]at q2;exact dS aS p p1 p2 p3 (kat_snds rfl q2) q3
def PV{us:List Aa}{Q:List Aa->Ai->Prop}(ht:Na s.heap l us.toArray)(q:Q us { s with heap:=(s.heap.push (Bk "list" #[] 0)).update s.heap.objs.size (Ct (·++us.toArray)) })(hz:us.length<=sizeLine):Ap (B0 prog w) A (L4 (.ref l)) Q E s:=by
 obtain⟨ob,hob,ar,n,hdt⟩:=id ht;have jn:(s.heap.push (Bk "list" #[] 0)).get? l=some ob:=A8 _ hob;unfold L4;refine A3 (Kq (codeAny_builtin entry_proto_collect' (A3 (Hv (w6 ⟨Code.quiet_builtin _ (by decide +kernel),codeAny_builtin entry_list_iadd' ?_⟩)))));show Ap _ _ (F5 (.ref s.heap.objs.size) (.ref l) (.ref s.heap.objs.size)) _ _ { s with heap:=s.heap.push (Bk "list" #[] 0) }
 unfold F5;refine A3 (Iw (T:="tuple") ⟨ob,jn,ar⟩ ?_);rw[z7 (by rw[show (Cm "tuple"==Cm "tuple")=true by rfl];simp)]
 refine A3 (Kh jn hdt (A3 (Kh (xs:=#[]) (n:=0) (Ar _ rfl) rfl ?_)));rw[y3 (by simp)];refine A3 (Gp (xs:=#[]) (n:=0) (Ar _ rfl) rfl (w6 ?_) (Bg _) (by show (#[]++us.toArray).size<=sizeLine+1;simp only[Array.size_append,An,Dt];omega))
 refine A3 (N4 (get?_update_seq (Ar _ rfl) _) ?_);show Ap _ _ (Cr ((#[]:Array Aa)++us.toArray).toList) Q E _;rw[show ((#[]:Array Aa)++us.toArray).toList=us by simp];exact w6 q
def LS(prog:Bw)(w:Cg)(A:C1)(Q:VP)(us:List Aa)(s:Ai):Prop:=∃(κ:O7) (lt:Nat->Nat->Bool),mJ lt/\us.length<64 /\
  (2<=us.length->∀h:Cf,(∀b o,s.heap.get? b=some o->h.get? b=some o)->∀Q':O7->Ai->Prop,Q' κ { s with heap:=h }->Ap (B0 prog w) A.in1.in1 (O8 us.toArray) Q' (λ_ _=>False) { s with heap:=h }) /\
  (∀h:Cf,(∀b o,s.heap.get? b=some o->h.get? b=some o)->∀i j,i<us.length->j<us.length->∀C:Bool->Ai->Prop,C (lt i j) { s with heap:=h } ->
   Ap (B0 prog w) A.in1.in1 (keyLt' κ (us.getD i Ca) (us.getD j Ca)) C (λ_ _=>False) { s with heap:=h }) /\
  ∀(p:Array Nat) (h':Cf) (e:Nat),p.size=us.length->p.Perm (Bu (A9 us.length))->Up lt p us.length->(∀b o,s.heap.get? b=some o->h'.get? b=some o)->h'.get? s.heap.objs.size=some (Bk "list" (Bu (p.toList.map λi=>us.getD i Ca)) e)->Q (.ref s.heap.objs.size) { s with heap:=h' }
def QA(h:Ap (B0 prog w) A.in1 (L4 (.ref l)) (LS prog w A Q) E s):Ap (B0 prog w) A (call (.builtin "sorted") [.ref l]) Q E s:=by
 refine Calls.call_function_entry kind_sorted plain_sorted entry_sorted (args_sorted1 _) ?_;unfold Cl.«sorted»;refine A3 (m:=checkCount "sorted" 1 1 _) (w6 ?_);refine A3 (Cn h (λus s1 ⟨κ,lt,O,fB,hk,hc,fin⟩=>?_) λ_ _ z=>z)
 have hz:us.length<=sizeLine:=by rw[Bs];omega
 refine A3 (Hv ?_ hz);have g2:(s1.heap.push (Bk "list" us.toArray 0)).get? s1.heap.objs.size=some (Bk "list" us.toArray 0):=Ar _ rfl;have h3:∀(h:Cf),(∀b o,b≠s1.heap.objs.size->(s1.heap.push (Bk "list" us.toArray 0)).get? b=some o->h.get? b=some o)->∀b o,s1.heap.get? b=some o->h.get? b=some o:=λh k b o e=>k b o (Aq (Ao e)) (A8 _ e)
 refine A3 (Cp (Eu slot_list_sort ⟨_,g2,rfl⟩ entry_list_sort (Xw (κ:=κ) O g2 fB (λg h k Q' q'=>hk g h (h3 h k) Q' q') (λh k i j hi hj C hC=>hc h (h3 h k) i j hi hj C hC) (λp a1 a2 a3=>⟨_,rfl,w6 ⟨_,rfl,?_⟩⟩)) (args_list_sort _)));obtain⟨e,he⟩:=sortedHeap_at (out:=Bu (p.toList.map λi=>us.getD i Ca)) g2;refine fin p _ e a1 a2 a3 (λb o g=>?_) he
 have hb:=Ao g;exact(sortedHeap_old (Aq hb) (by rw[M1];exact C2 hb)).trans (A8 _ g)
theorem IQ{Q:Bool->Ai->Prop}:∀{us ws:List Aa} {ns ms:List Int},Ci us ns->Ci ws ms->∀(i:Nat) (fin:Bool),fin=decide (ns.length<ms.length)->Q (HT.lexLt ns ms) s ->
  KatLex prog w A b fin Q (us.zip ws) i s
 |_,_,_,_,.nil,.nil,i,fin,e,q=>by subst e;exact kat_nil q
 |_,_,_,_,.nil,.cons m t h,i,fin,e,q=>by
  have e':fin=true:=by rw[e];simp
  rw[e'];exact kat_nil q
 |_,_,_,_,.cons n t h,.nil,i,fin,e,q=>by
  have e':fin=false:=by rw[e];simp
  rw[e'];exact kat_nil q
 |_,_,_,_,.cons n t h,.cons m t' h',i,fin,e,q=>by
  rw[Et];refine kat_cons (G9.int_int n t m t' prog w _ _ ?_);rw[HT.lexLt_cons]at q;by_cases dP:n=m
  .rw[show (n==m)=true by simpa using dP];rw[z7 dP]at q;exact kat_yes (IQ h h' (i+1) fin (by rw[e];simp) q)
  .rw[show (n==m)=false by simpa using dP];rw[y3 dP]at q;refine kat_no ?_
   cases (b&&i==0) with
   |true=>exact oneLt_int q
   |false=>exact kat_one _ _ (lt_int q)
end
def mB:List D->Option (List (List Int))
 | []=>some []
 | .tup xs::r=>(match Z6 xs with|some (n::ns)=>(mB r).map ((n::ns)::·)|_=>none)
 |_::_=>none
theorem CV:∀{ds:List D} {nss:List (List Int)},mB ds=some nss->ds=nss.map (λns=>D.tup (ns.map D.int))/\∀ns∈nss,ns≠[]
 | [],nss,e=>by cases e;exact⟨rfl,λ_ h=>by simp at h⟩
 | .tup xs::r,nss,e=>by
  unfold mB at e;split at e
  .rename_i n ns h1;obtain⟨mss,h2,rfl⟩:=B9.mp e;obtain⟨h3,h4⟩:=CV h2;refine⟨by rw[h3,Z9 h1];rfl,λms hm=>?_⟩
   rcases Ad.mp hm with z|z
   .rw[z];simp
   .exact h4 ms z
  .cases e
 | .non::r,_,e=>by unfold mB at e;cases e
 | .bl _::r,_,e=>by unfold mB at e;cases e
 | .str _::r,_,e=>by unfold mB at e;cases e
 | .int _::r,_,e=>by unfold mB at e;cases e
 | .lst _::r,_,e=>by unfold mB at e;cases e
theorem CO:∀{nss:List (List Int)},(∀ns∈nss,ns≠[])->mB (nss.map λns=>D.tup (ns.map D.int))=some nss
 | [],_=>rfl
 |ns::nss,h=>by
  cases ns with
  |nil=>exact w9 rfl (h [] A6)
  |cons n ns=>rw[Af,mB,PZ];dsimp only;rw[CO λms hm=>h ms (A7 _ hm)];rfl
def lR(ds:List D):Option (List D):=if ds.length<64 then
  (match Z6 ds with
  |some ns=>some ((qR ns).map D.int)
  |none=>(match mB ds with|some nss=>some ((qS nss).map λns=>D.tup (ns.map D.int))|none=>none))
 else none
section
variable{X:Cx}
def MF{α:Type}{p:Array Nat}{us:List α}{d:α}(hp:p.Perm (Bu (A9 us.length))):(p.toList.map λi=>us.getD i d).Perm us:=by
 have h1:p.toList.Perm (A9 us.length):=Array.perm_iff_toList_perm.mp hp;have h2:=h1.map (λi=>us.getD i d)
 have h3:(A9 us.length).map (λi=>us.getD i d)=us:=by
  apply Jm
  .simp
  .intro i g1 g2;simp[List.getElem_map,g2]
 rw[h3]at h2;exact h2
theorem MH{K:A5}{H:Hp}{ds:List D}{xs:List V}(h:g9 K H ds xs):∀is:List Nat,(∀i∈is,i<ds.length)->g9 K H (is.map λi=>ds.getD i .non) (is.map λi=>xs.getD i .non)
 | [],_=>g9.nil
 |i::is,hi=>by have h1:i<ds.length:=hi i A6;obtain⟨v,e,r⟩:=h.get (A4 h1);rw[Af,Af];refine g9.cons ?_ (MH h is λj hj=>hi j (A7 _ hj));rw[J5 (A4 h1),J5 e];exact r
theorem MI(h:Y7 xs us):∀is:List Nat,(∀i∈is,i<xs.length)->Y7 (is.map λi=>xs.getD i .non) (is.map λi=>us.getD i Ca)
 | [],_=>.nil
 |i::is,hi=>by have h1:i<xs.length:=hi i A6;obtain⟨v,e,r⟩:=h.get (A4 h1);rw[Af,Af];refine .cons ?_ (MI h is λj hj=>hi j (A7 _ hj));rw[J5 (A4 h1),J5 e];exact r
def wF{p:Array Nat}(hp:p.Perm (Bu (A9 n))):∀i∈p.toList,i<n:=λi hi=>by
 have:=(Array.perm_iff_toList_perm.mp hp).mem_iff.mp hi
 simpa using this
def HD{p:Array Nat}{n:Nat}(hz:p.size=n)(h:Up lt p n):p.toList.Pairwise λi j=>lt j i=false:=by
 rw[Hm];intro i j hi hj bE
 have cu:i<p.size:=by simpa using hi
 have eD:j<p.size:=by simpa using hj
 have e:=h i j (D7 bE) (by omega);unfold gt at e
 have e1:p.getD i 0=p.toList[i]:=by simp[Eh,cu]
 have e2:p.getD j 0=p.toList[j]:=by simp[Eh,eD]
 rw[e1,e2]at e;exact e
theorem Pl:∀{its:List Aa} {ns:List Int},Ci its ns->2<=its.length->O8 its.toArray=Cr oneType'
 | [],_,_,h=>w9 h (by simp)
 | [_],_,_,h=>w9 h (by simp)
 |v1::v2::r,ns,hi,_=>keyKind_ints hi
def DM(hi:Ci its ns){i:Nat}(h:i<its.length):∃t,its.getD i Ca = .int (ns.getD i 0) t:=by
 have hl:=hi.length
 have h2:i<ns.length:=by omega
 obtain⟨t,e⟩:=hi.get i ns[i] (A4 h2);exact⟨t,by rw[J5 e,J5 (A4 h2)]⟩
def ϲ(ns:List Int):mJ (λi j=>decide (ns.getD i 0<ns.getD j 0)):=
 ⟨λi j h=>by
  have:=lC h
  exact Y1 (by omega),λi j k h1 h2=>by
  have:=pQ h1
  have:=pQ h2
  exact Y1 (by omega)⟩
def WZ(nss:List (List Int)):mJ (λi j=>HT.lexLt (nss.getD i []) (nss.getD j [])):=
 ⟨λi j h=>CK _ _ h,λi j k h1 h2=>wL _ _ _ h1 h2⟩
def Xa{ns:List Int}{p:Array Nat}(p1:p.size=ns.length)(p2:p.Perm (Bu (A9 ns.length)))(p3:Up (λi j=>decide (ns.getD i 0<ns.getD j 0)) p ns.length):
  (p.toList.map λi=>(ns.map D.int).getD i .non)=(qR ns).map D.int:=by
 have e:(p.toList.map λi=>(ns.map D.int).getD i .non)=(p.toList.map λi=>ns.getD i 0).map D.int:=by rw[B1];apply B4;intro i hi;have h2:i<ns.length:=wF p2 i hi;show (ns.map D.int).getD i .non=D.int (ns.getD i 0);rw[J5 (x:=D.int ns[i]) (by rw[Am,A4 h2];rfl),J5 (A4 h2)]
 rw[e];congr 1;refine zI (le:=λa b:Int=>a<=b) (λa b h1 h2=>by omega) ((MF p2).trans (Qg ns).symm) ?_ (Ox ns) (λa=>Il a);rw[Bd]
 exact(HD p1 p3).imp λh=>by
  have:=pQ h
  omega
def Xb{nss:List (List Int)}{p:Array Nat}(p1:p.size=nss.length)(p2:p.Perm (Bu (A9 nss.length)))(p3:Up (λi j=>HT.lexLt (nss.getD i []) (nss.getD j [])) p nss.length):
  (p.toList.map λi=>(nss.map λns=>D.tup (ns.map D.int)).getD i .non)=(qS nss).map λns=>D.tup (ns.map D.int):=by
 have e:(p.toList.map λi=>(nss.map λns=>D.tup (ns.map D.int)).getD i .non)=(p.toList.map λi=>nss.getD i []).map λns=>D.tup (ns.map D.int):=by rw[B1];apply B4;intro i hi;have h2:i<nss.length:=wF p2 i hi;show (nss.map λns=>D.tup (ns.map D.int)).getD i .non=D.tup ((nss.getD i []).map D.int);rw[J5 (x:=D.tup (nss[i].map D.int)) (by rw[Am,A4 h2];rfl),J5 (A4 h2)]
 rw[e];congr 1;refine zI (le:=λa b:List Int=>HT.lexLt b a=false) (λa b h1 h2=>BH a b h2 h1) ((MF p2).trans (zH nss).symm) ?_ (BO nss) (λa=>KC a);rw[Bd];exact(HD p1 p3).imp λh=>h
def sW(I:a9 X aa U H s){ns:List Int}(hr:d8 X.K H (D.tup (ns.map D.int)) x)(rv:e9 x u):
  ∃a o its n,u = .ref a/\s.heap.get? a=some o/\o.cls = .type "tuple"/\o.data = .seq its n/\Ci its.toList ns:=by
 obtain⟨a,xs,rfl,h1,h2⟩:=j5.mp hr;rw[Y2]at h2;subst h2;cases rv;obtain⟨its,r,p,_⟩:=I.tuple h1;obtain⟨o,ho,hc,n,hd⟩:=p;exact⟨a,o,its.toArray,n,rfl,ho,hc,hd,W4 r⟩
theorem LC(I:a9 X aa U H s){h:Cf}(hk:∀b o,s.heap.get? b=some o->h.get? b=some o):∀{nss:List (List Int)} {us:List V} {its:List Aa},(∀ns∈nss,ns≠[]) ->
  g9 X.K H (nss.map λns=>D.tup (ns.map D.int)) us->Y7 us its->∃fs,KatTups h its fs/\fs.length=its.length/\∀v∈fs,∃n t,v=If n t
 | [],us,its,_,hr,rv=>by rw[Gg,K3]at hr;subst hr;cases rv;exact⟨[],KatTups.nil,rfl,λv hv=>by simp at hv⟩
 |ns::nss,us,its,ah,hr,rv=>by
  rw[Af,j7]at hr;obtain⟨x,xs,rfl,h1,h2⟩:=hr
  cases rv with
  |cons r1 r2=>
   obtain⟨fs,t1,t2,t3⟩:=LC I hk (λms hm=>ah ms (A7 _ hm)) h2 r2;obtain⟨a,o,js,n,rfl,ho,hc,hd,hi⟩:=sW I h1 r1
   cases ns with
   |nil=>exact w9 rfl (ah [] A6)
   |cons m ms=>
    obtain⟨t,e⟩:=hi.get 0 m rfl
    have e':js[0]?=some (If m t):=by simpa using e
    refine⟨If m t::fs,KatTups.cons (hk _ _ ho) hc hd e' t1,by simp[t2],λv hv=>?_⟩;rcases Ad.mp hv with z|z
    .exact⟨m,t,z⟩
    .exact t3 v z
def SW(K:A5):List V->Hp->VK->Prop:=λxs H Q=>∃a us ds es Hh,xs=[.ref a]/\j8 Hh H/\(i5 K H a us\/i8 K H a us)/\g9 K Hh ds us/\lR ds=some es/\∀p ys,H p=none->g9 K Hh es ys->Q (.ref p) (upd H p (.lst ys))
def a9.laidD{a:Av}{h':Cf}{t':Nat}{d':Drawn}(I:a9 X aa U H s)(k:∀b u,s.heap.get? b=some u->h'.get? b=some u)(hp:s.heap.objs.size<=a)(new:kU X.prog X.w (upd H a o) h' a o):
  a9 X aa U (upd H a o) { s with heap:=h',toks:=t',drawn:=d' }:=by
 have hn:=I.hok.fresh hp;have sm:j8 H (upd H a o):=u9 hn;refine I.step (g':=s.gens) (d':=d') (ch:=[]) (λ_ z=>nomatch z) (λb o' _ _ _ e _=>k b o' e) (λb o' _ _ _ e _=>⟨o'.slots,k b o' e⟩) (λb o' _ e n=>?_) (λb o' _ e=>⟨o',k b o' e⟩) (λb xs e=>sm _ _ e) (λb o' u e=>sm _ _ e) (λb ps e=>⟨#[],by rw[sm _ _ e];simp⟩) (λm hm=>?_) (I.hok.laid k hp new) I.bare
 .rw[j6]
  .exact n
  .intro z
   have:=Ao e
   rw[z]at this;exact w9 (B8 this hp) (Dc _)
 .obtain⟨o',cI,dM,bJ,r'⟩:=hm;exact⟨o',cI,dM,k _ _ bJ,r'⟩
def Qh{Q:VK}{ds es:List D}{h1:Cf}{tk:Nat}{d:Drawn}(I:a9 X aa U H s)(sH:j8 Hh H)(fw:g9 X.K Hh ds us)(rv:Y7 us its)(hs:lR ds=some es)(k1:∀b o,s.heap.get? b=some o->h1.get? b=some o)(hsz:s.heap.objs.size<=h1.objs.size)(q:∀p ys,H p=none->g9 X.K Hh es ys->Q (.ref p) (upd H p (.lst ys))):LS X.prog X.w X.A (EP X aa U Q) its { s with heap:=h1,toks:=tk,drawn:=d }:=by
 have hr:=fw.mono sH;have l1:=hr.length;have l2:=rv.length;unfold lR at hs;split at hs
 .rename_i fB
  have fin:∀(p:Array Nat) (h':Cf) (e:Nat),p.size=its.length->p.Perm (Bu (A9 its.length))->(p.toList.map λi=>ds.getD i .non)=es->(∀b o,h1.get? b=some o->h'.get? b=some o)->h'.get? h1.objs.size=some (Bk "list" (Bu (p.toList.map λi=>its.getD i Ca)) e) ->
    EP X aa U Q (.ref h1.objs.size) { s with heap:=h',toks:=tk,drawn:=d }:=λp h' e p1 p2 p3 kp g=>by
   have pl:∀i∈p.toList,i<its.length:=wF p2
   have v1:Y7 (p.toList.map λi=>us.getD i .non) (p.toList.map λi=>its.getD i Ca):=MI rv _ λi hi=>by have:=pl i hi;omega
   have v2:g9 X.K Hh es (p.toList.map λi=>us.getD i .non):=by
    rw[<-p3]
    exact MH fw _ λi hi=>by have:=pl i hi;omega
   refine⟨.ref h1.objs.size,_,a9.laidD (s:=s) (t':=tk) (d':=d) (o:=.lst (p.toList.map λi=>us.getD i .non)) I (λb o hb=>kp _ _ (k1 _ _ hb)) hsz ?_,rfl,q _ _ (I.hok.fresh hsz) v2⟩;refine⟨?_,_,e,v1,g⟩;rw[A0,Au,p1,Bs];omega
  split at hs
  .rename_i ns hn;cases hs;have hd:=Z9 hn;subst hd;have hus:=Y2.mp hr;subst hus;have hi:Ci its ns:=W4 rv;have hz:its.length=ns.length:=hi.length;refine⟨oneType',_,ϲ ns,by omega,λg2 h gW Q' q'=>?_,λh gW i j cu eD C hC=>?_,λp h' e p1 p2 p3 kp g=>fin p h' e p1 p2 (Xa (by rw[p1,hz]) (by rw[<-hz];exact p2) (by rw[<-hz];exact p3)) kp g⟩
   .rw[Pl hi g2];exact w6 q'
   .obtain⟨ti,ei⟩:=DM hi cu;obtain⟨tj,ej⟩:=DM hi eD;rw[ei,ej,keyLt'_oneType];exact oneLt_int hC
  .split at hs
   .rename_i nss hn;cases hs;obtain⟨hd,ah⟩:=CV hn;subst hd
    have hz:its.length=nss.length:=by rw[<-l2,<-l1,A0]
    refine⟨tuples' (Cm "int" != Cm "tuple"),_,WZ nss,by omega,λg2 h gW Q' q'=>?_,λh gW i j cu eD C hC=>?_,λp h' e p1 p2 p3 kp g=>fin p h' e p1 p2 (Xb (by rw[p1,hz]) (by rw[<-hz];exact p2) (by rw[<-hz];exact p3)) kp g⟩
    .obtain⟨fs,t1,t2,t3⟩:=LC I (λb o e=>gW b o (k1 b o e)) ah hr rv;refine kat_kind (s:={ s with heap:=h,toks:=tk,drawn:=d }) t1 (by omega) (λv hv=>?_) rfl q';obtain⟨n,t,rfl⟩:=t3 v hv;exact Looks.of_pure rfl
    .have gi:i<nss.length:=by omega
     have gj:j<nss.length:=by omega
     obtain⟨xi,e1,r1⟩:=hr.get (i:=i) (d:=D.tup (nss[i].map D.int)) (by rw[Am,A4 gi];rfl)
     obtain⟨xj,e2,r2⟩:=hr.get (i:=j) (d:=D.tup (nss[j].map D.int)) (by rw[Am,A4 gj];rfl)
     obtain⟨ui,f1,s1⟩:=rv.get e1;obtain⟨uj,f2,s2⟩:=rv.get e2;obtain⟨ai,oi,ji,ni,rfl,jg,fQ,hdi,ii⟩:=sW I r1 s1;obtain⟨aj,oj,jj,nj,rfl,hoj,hcj,hdj,ij⟩:=sW I r2 s2;rw[J5 f1,J5 f2];rw[J5 (A4 gi),J5 (A4 gj)]at hC;refine kat_lt (s:={ s with heap:=h,toks:=tk,drawn:=d }) (gW _ _ (k1 _ _ jg)) hdi (gW _ _ (k1 _ _ hoj)) hdj (IQ ii ij 0 _ ?_ hC);have a1:=ii.length
     have a2:=ij.length;rw[Au]at a1 a2;rw[a1,a2]
   .cases hs
 .cases hs
def Vg:kT X (.builtin "sorted") (SW X.K):=by
 intro aa s U H xs vs Q I r h;obtain⟨a,us,ds,es,Hh,rfl,sH,hq,fw,hs,q⟩:=h;obtain⟨u,rfl,ru⟩:=l9 r;cases ru
 have l0:us.length<64:=by
  have:=fw.length
  unfold lR at hs;split at hs
  .omega
  .cases hs
 refine QA ?_
 have fin:∀{its:List Aa},Y7 us its->LS X.prog X.w X.A (EP X aa U Q) its { s with heap:=(s.heap.push (Bk "list" #[] 0)).update s.heap.objs.size (Ct (·++its.toArray)) }:=λ{its} rv=>Qh (tk:=s.toks) (d:=s.drawn) I sH fw rv hs (λb o e=>(Bo _ _ (Ch (Aq (Ao e)))).trans (A8 _ e)) (by rw[Hg,M1];exact Em _) q
 rcases hq with hq|hq
 .obtain⟨its,rv,pl,_⟩:=I.list hq;exact collect_list pl.isList (fin rv) (by rw[<-rv.length,Bs];omega)
 .obtain⟨its,rv,pl,_⟩:=I.tuple hq;exact PV pl (fin rv) (by rw[<-rv.length,Bs];omega)
end
end L3
namespace L3
open PySem PySem.Spec PyProof.Rows L2 PySem.SeqAt
def pE(K:A5)(r:List V->Hp->VK->Prop)(F:LD):Prop:=∀ds d,F ds=some d->∀(Z:List Av) (H:Hp) (vs:List V) (Q:VK),(∀z∈Z,∃o,H z=some o)->g9 K (K5 Z H) ds vs->(∀w' H',j8 H H'->d8 K (K5 Z H') d w'->Q w' H')->r vs H Q
def ML(K:A5)(r:List V->Hp->VK->Prop)(F:List D->Option (List D)):Prop:=
 ∀ds es,F ds=some es->∀(Z:List Av) (H:Hp) (a:Av) (xs:List V) (Q:VK),(∀z∈Z,∃o,H z=some o)->(i5 K H a xs\/i8 K (K5 Z H) a xs)->g9 K (K5 Z H) ds xs ->
  (∀l ys H',j8 H H'->H l=none->H' l=some (.lst ys)->g9 K (K5 (l::Z) H') es ys->Q (.ref l) H')->r [.ref a] H Q
def dQ(F:LD)(f:EL):ED:=λY=>match f Y with|some ds=>F ds|none=>none
def pY(F:List D->Option (List D))(f:EL):EL:=λY=>match f Y with|some ds=>F ds|none=>none
section
variable{X:Cx}{x:Bf}{p pos:Hq}{e:Expr}{es:List Expr}{id T:String}{r:List V->Hp->VK->Prop}{F:LD}{FL:List D->Option (List D)}{g f:EL}
def OV{K:A5}(hr:pE K r F):∀U H Q,tD K (x5 F g) U H Q->FR r (tL K g) U H Q:=λU H Q h_=>by
 refine f7 h_ λY d B H0 V0 Z e r' q=>?_;unfold x5 at e;split at e
 .rename_i ds aH;exact⟨Y,ds,B,H0,V0,Z,aH,r',λvs H1 s1 rr=>hr ds d e Z H1 vs Q (r'.mono s1).zs rr λw' H' s rw'=>q w' H' (s1.trans s) rw'⟩
 .cases e
def BN(hc:kT X (.builtin id) r)(hr:pE X.K r F)(hm:X.mg x=none)(hv:B5 x=some (.builtin id))(ha:SA X (e::es) g)(hg:Gl X x:=by rfl)(hn:x≠"__name__":=by decide)(br:(x==("__debug__":Bf))=false:=by decide)(he:Ab (e::es) X.env=(false,Ce e X.env)::Ab es X.env:=by exact u4 rfl)(af:(C8 pos (Ab es X.env)).any (·.1)=false:=by exact J3 rfl):SE X (.Call (.Name x p) (e::es) [] pos) (x5 F g):=j3 (rO hc hg hm hv ha hn br he af) (OV hr)
def YU(hc:kT X (.type T) r)(hr:pE X.K r F)(hm:X.mg x=none)(hv:B5 x=some (.type T))(ha:SA X (e::es) g)(hg:Gl X x:=by rfl)(hn:x≠"__name__":=by decide)(br:(x==("__debug__":Bf))=false:=by decide)(he:Ab (e::es) X.env=(false,Ce e X.env)::Ab es X.env:=by exact u4 rfl)(af:(C8 pos (Ab es X.env)).any (·.1)=false:=by exact J3 rfl):SE X (.Call (.Name x p) (e::es) [] pos) (x5 F g):=j3 (pK hc hg hm hv ha hn br he af) (OV hr)
def Zz{K:A5}(hr:ML K r FL):∀U H Q,tF K (pY FL f) U H Q->FR r (S0 (tQ K f) LQ) U H Q:=λU H Q h_=>by
 refine f7 h_ λY d B H0 V0 Z e r' q=>?_;unfold pY at e;split at e
 .rename_i ds aH;exact⟨Y,ds,B,H0,V0,Z,aH,r',λa xs H1 s1 hq rr=>hr ds d e Z H1 a xs Q (r'.mono s1).zs hq rr λl ys H' s hn hl rw'=>q l ys H' (s1.trans s) (s1.free hn) hl rw'⟩
 .cases e
def Xv(hc:kT X (.builtin id) r)(hr:ML X.K r FL)(hm:X.mg x=none)(hv:B5 x=some (.builtin id))(h:SQ X e f)(hg:Gl X x:=by rfl)(hn:x≠"__name__":=by decide)(br:(x==("__debug__":Bf))=false:=by decide)(he:Ab [e] X.env=(false,Ce e X.env)::Ab [] X.env:=by exact u4 rfl)(af:(C8 pos (Ab [] X.env)).any (·.1)=false:=by exact J3 rfl):SF X (.Call (.Name x p) [e] [] pos) (pY FL f):=j3 (rO hc hg hm hv (J4 h Y8 he) hn br he af) (Zz hr)
end
section
variable{X:Cx}{p pos:Hq}{e:Expr}{f:EL}
def Sa{Z:List Av}{H:Hp}(zs:∀z∈Z,∃o,H z=some o)(hl:H l=none):l∉Z:=λz=>by obtain⟨o,ho⟩:=zs _ z;rw[hl]at ho;cases ho
def YM{K:A5}:ML K (SW K) lR:=by intro ds es hs Z H a xs Q zs hq rr q;refine⟨a,xs,ds,es,K5 Z H,rfl,x8,hq.imp id (j9 x8),rr,hs,λl ys hl ry=>?_⟩;exact q l ys _ (u9 hl) hl v8 (ry.mono (qK hl (u9 hl)))
def GS(hm:X.mg "sorted" = none)(h:ZQ X e f)(hg:Gl X "sorted":=by rfl)(hv:B5 "sorted" = some (.builtin "sorted"):=by decide +kernel)(he:Ab [e] X.env=(false,Ce e X.env)::Ab [] X.env:=by exact u4 rfl)(af:(C8 pos (Ab [] X.env)).any (·.1)=false:=by exact J3 rfl):ZF X (.Call (.Name "sorted" p) [e] [] pos) (pY lR f):=
 ⟨have h:=h.h;
 Xv Vg YM hm hv h hg (by decide) (by decide) he af⟩
def Β(K:A5):List V->Hp->VK->Prop:=λxs H Q=>∃p,∃bs:List Bool,xs=[.ref p]/\i5 K H p (bs.map V.bl)/\Q (.bl (bs.all id)) H
theorem RH:∀{bs:List Bool} {us:List Aa},Y7 (bs.map V.bl) us->LSm.BoolsAre us bs
 | [],_,.nil=>.nil
 |b::bs,_,.cons r t=>by cases r;exact .cons _ (RH t)
def ϗ(hc:X.calm=true):kT X (.builtin "all") (Β X.K):=by
 intro aa s U H xs us Q I r h;obtain⟨l,bs,rfl,hq,q⟩:=h;obtain⟨u,rfl,rx⟩:=l9 r;cases rx;obtain⟨vs,rv,pl,hz⟩:=I.list hq;have hl:=pl.isList;have hb:=RH rv
 have am:l<s.heap.objs.size:=by obtain⟨_,e,_⟩:=hl;exact Ao e
 refine call_all_walk (Gq hl ?_)
 refine⟨s.heap.objs.size,[s.heap.objs.size,l],[s.heap.objs.size],vs.toArray.size,_,_,λi=>(bs[i]?).getD true,rfl,O9 (A:=X.A.in1) (I.ok.hd hc) _ l (Aq am) vs.toArray,
  ⟨⟨_,Ar _ rfl,rfl,rfl⟩,hl.push _⟩,λi v s' Q' E' hP hQ=>?_,λh' tk hk=>?_⟩
 .obtain⟨b,e,rfl⟩:=hb.get i v (by simpa using hP);simp only[e,Option.getD_some]at hQ;exact De hQ
 .have e:((A9 vs.toArray.size).all λi=>(bs[i]?).getD true)=bs.all id:=by rw[An,hb.length];exact LSm.range_all bs
  rw[e];exact⟨.bl _,H,I.kept (LSm.kept_iter hk),rfl,q⟩
def nX:List D->Option (List Bool)
 | []=>some []
 | .bl b::r=>(nX r).map (b::·)
 |_::_=>none
theorem PM:∀{ds:List D} {bs:List Bool},nX ds=some bs->ds=bs.map D.bl
 | [],bs,e=>by cases e;rfl
 | .bl b::r,bs,e=>by unfold nX at e;obtain⟨cs,h1,rfl⟩:=B9.mp e;rw[PM h1];rfl
 | .int _::r,_,e=>by unfold nX at e;cases e
 | .non::r,_,e=>by unfold nX at e;cases e
 | .str _::r,_,e=>by unfold nX at e;cases e
 | .tup _::r,_,e=>by unfold nX at e;cases e
 | .lst _::r,_,e=>by unfold nX at e;cases e
 | .dct _ _::r,_,e=>by unfold nX at e;cases e
theorem Ou{K:A5}{H:Hp}:∀{bs:List Bool} {xs:List V},g9 K H (bs.map D.bl) xs->xs=bs.map V.bl
 | [],xs,h=>K3.mp h
 |b::bs,xs,h=>by obtain⟨v,vs,rfl,h1,h2⟩:=j7.mp h;rw[K4.mp h1,Ou h2];rfl
def vJ(f:EL):ED:=λY=>match f Y with|some ds=>(match nX ds with|some bs=>some (.bl (bs.all id))|none=>none)|none=>none
def RD(hc:X.calm=true)(hm:X.mg "all" = none)(h:ZF X e f)(hg:Gl X "all":=by rfl)(hv:B5 "all" = some (.builtin "all"):=by decide +kernel)(he:Ab [e] X.env=(false,Ce e X.env)::Ab [] X.env:=by exact u4 rfl)(af:(C8 pos (Ab [] X.env)).any (·.1)=false:=by exact J3 rfl):ZE X (.Call (.Name "all" p) [e] [] pos) (vJ f):=
 ⟨have h:=h.h;
 j3 (rO (ϗ hc) hg hm hv (J4 h Y8 he) (by decide) (by decide) he af) λU H Q h_=>by
  refine f7 h_ λY d B H0 V0 Z e r q=>?_;unfold vJ at e;split at e
  .rename_i ds aH;split at e
   .rename_i bs hb;cases e
    have:=PM hb
    subst this;refine⟨Y,_,B,H0,V0,Z,aH,r,λa xs H' s hn ha rr=>⟨a,bs,rfl,?_,q _ H' s (K4.mpr rfl)⟩⟩;rw[<-Ou rr];exact i5.of ha
   .cases e
  .cases e⟩
def MY:D->String
 | .non=>"NoneType"
 | .bl _=>"bool"
 | .int _=>"int"
 | .str _=>"str"
 | .tup _=>"tuple"
 | .lst _=>"list"
 | .dct _ _=>"dict"
def pW(T:String)(d:D):Bool:=MY d==T||(T=="int"&&MY d=="bool")
def Γ(K:A5)(T:String):List V->Hp->VK->Prop:=λxs H Q=>∃x d,xs=[x,.ty T]/\d8 K H d x/\Q (.bl (pW T d)) H
def yC(T:String):Prop:=∀(K:A5) (d:D),Fa K (.type (MY d)) (.type T)=some (pW T d)
theorem LF (h:∀K:A5,Fa K (.type "NoneType") (.type T)=some (pW T .non)/\Fa K (.type "bool") (.type T)=some (pW T (.bl true))/\Fa K (.type "int") (.type T)=some (pW T (.int 0))/\Fa K (.type "str") (.type T)=some (pW T (.str ⟨#[]⟩)) /\
  Fa K (.type "tuple") (.type T)=some (pW T (.tup []))/\Fa K (.type "list") (.type T)=some (pW T (.lst []))/\Fa K (.type "dict") (.type T)=some (pW T (.dct [] []))):yC T:=λK d=>by
 obtain⟨h1,h2,h3,h4,h5,h6,h7⟩:=h K
 cases d with
 |non=>exact h1
 |bl _=>exact h2
 |int _=>exact h3
 |str _=>exact h4
 |tup _=>exact h5
 |lst _=>exact h6
 |dct _ _=>exact h7
def QR:yC "int":=LF λK=>⟨rfl,rfl,rfl,rfl,rfl,rfl,rfl⟩
def RW:yC "bool":=LF λK=>⟨rfl,rfl,rfl,rfl,rfl,rfl,rfl⟩
def Yo:yC "tuple":=LF λK=>⟨rfl,rfl,rfl,rfl,rfl,rfl,rfl⟩
theorem Ϙ(kt:yC T):kT X (.builtin "isinstance") (Γ X.K T):=by
 intro aa s U H xs us Q I r h;obtain⟨x,d,rfl,hx,q⟩:=h;obtain⟨u,w',rfl,ru,rw'⟩:=AM r;cases rw';have e:=kt X.K d;have fin:∀tk,EP X aa U Q (.bool (pW T d)) { s with toks:=tk }:=λtk=>⟨.bl _,H,I.tok tk,rfl,q⟩
 cases d with
 |non=>obtain rfl:=Z8.mp hx;cases ru;exact Fk PySem.W.kitx_none I.kIn Gi e (λz=>nomatch z) fin
 |bl b=>obtain rfl:=K4.mp hx;cases ru;exact Fk PySem.W.kitx_bool I.kIn Gi e (λz=>nomatch z) fin
 |int i=>obtain rfl:=v4.mp hx;obtain⟨t,rfl⟩:=ru;exact Fk PySem.W.kitx_int I.kIn Gi e (λz=>nomatch z) fin
 |str i=>obtain rfl:=Z4.mp hx;obtain⟨t,rfl⟩:=ru;exact Fk PySem.W.kitx_str I.kIn Gi e (λz=>nomatch z) fin
 |tup ds=>obtain⟨a,ys,rfl,h1,_⟩:=j5.mp hx;cases ru;obtain⟨its,_,⟨o,h1,h2,_⟩,_⟩:=I.tuple h1;exact Fk PySem.W.kitx_tuple I.kIn ⟨o,h1,h2⟩ e (λz=>nomatch z) fin
 |lst ds=>obtain⟨a,ys,rfl,h1,_⟩:=J6.mp hx;cases ru;obtain⟨its,_,⟨o,n,h1,h2,_⟩,_⟩:=I.list h1;exact Fk PySem.W.kitx_list I.kIn ⟨o,h1,h2⟩ e (λz=>nomatch z) fin
 |dct ks ds=>obtain⟨a,kvs,rfl,h1,_⟩:=l4.mp hx;cases ru;obtain⟨o,h1,h2⟩:=IJ I h1;exact Fk PySem.W.kitx_dict I.kIn ⟨o,h1,h2⟩ e (λz=>nomatch z) fin
def vL(T:String)(f:ED):ED:=λY=>match f Y with|some d=>some (.bl (pW T d))|none=>none
def yG{p1 p2:Hq}(kt:yC T)(hm:X.mg "isinstance" = none)(hmT:X.mg x=none)(h:ZE X e fe)(hvT:B5 x=some (.type T))(hg:Gl X "isinstance":=by rfl)(hgT:Gl X x:=by rfl)(hv:B5 "isinstance" = some (.builtin "isinstance"):=by decide +kernel)(hn:x≠"__name__":=by decide)(br:(x==("__debug__":Bf))=false:=by decide)(he:Ab [e,.Name x p1] X.env=(false,Ce e X.env)::Ab [.Name x p1] X.env:=by exact u4 rfl)(aZ:Ab [.Name x p1] X.env=(false,Ce (.Name x p1) X.env)::Ab [] X.env:=by exact u4 rfl)(af:(C8 pos (Ab [.Name x p1] X.env)).any (·.1)=false:=by exact J3 rfl):ZE X (.Call (.Name "isinstance" p2) [e,.Name x p1] [] pos) (vL T fe):=
 ⟨have h:=h.h;
 j3 (rO (Ϙ kt) hg hm hv (J4 h (J4 (Ú hgT hmT hvT (v:=.ty T) rfl hn br) Y8 aZ) he) (by decide) (by decide) he af) λU H Q h_=>by
  refine f7 h_ λY d B H0 V0 Z e r q=>?_;unfold vL at e;split at e
  .rename_i d' ed;cases e;exact⟨Y,d',B,H0,V0,Z,ed,r,λv H' s rr=>⟨v,d',rfl,rr.mono x8,q _ H' s (K4.mpr rfl)⟩⟩
  .cases e⟩
end
section
variable{X:Cx}{p p2 pos az:Hq}{a b e:Expr}{f:EL}{fa fb:ED}
def è:List V->Hp->VK->Prop:=λxs H Q=>∃j:Int,xs=[.int j]/\∀p,H p=none->Q (.ref p) (upd H p (.rng 0 j))
def GX:kT X (.type "range") è:=by intro aa s U H xs us Q I r h;obtain⟨j,rfl,q⟩:=h;obtain⟨u,rfl,ru⟩:=l9 r;obtain⟨t,rfl⟩:=ru;exact call_range_1 ⟨.ref s.heap.objs.size,_,I.laid (o:=.rng 0 j) (λb o e=>A8 _ e) (Aj _) ⟨_,_,_,Ar _ rfl⟩,rfl,q _ I.fresh⟩
def i4(lo:Int)(n:Nat):List Int:=(A9 n).map λ(k:Nat)=>lo+(k:Int)
def Xo:List V->Hp->VK->Prop:=λxs H Q=>∃p,∃j:Int,xs=[.ref p]/\H p=some (.rng 0 j)/\-(2 ^ 62)<=j/\j<=1000000/\∀l,H l=none->Q (.ref l) (upd H l (.lst ((i4 0 j.toNat).map V.int)))
def Wj(hc:X.calm=true):kT X (.type "list") Xo:=by
 intro aa s U H xs us Q I r h;obtain⟨p,j,rfl,hp,h1,h2,q⟩:=h;obtain⟨u,rfl,ru⟩:=l9 r;cases ru;obtain⟨t,u,v,ho⟩:=(show kU X.prog X.w H s.heap p (.rng 0 j) from I.hok p _ hp)
 have hn:Ig 0 j 1=((j.toNat:Nat):Int):=by rw[Mu];split<;>omega
 refine call_list_range (I.ok.hd hc) ho (small_one (by omega) (by omega) h1 (by omega)) hn (by omega) λh' tk aJ c' hk hS' aM=>?_;refine⟨.ref s.heap.objs.size,_,I.laid (o:=.lst ((i4 0 j.toNat).map V.int)) hk (Aj _) ⟨?_,aJ.toList,c',?_,?_⟩,rfl,q _ I.fresh⟩
 .unfold i4;rw[A0,A0,At,Bs];omega
 .have hv:∀(n:Nat) (acc:List Aa) (lo:Nat),acc.length=n->(∀(i:Nat) v,acc[i]?=some v->∃t,v = .int (0+((lo+i:Nat):Int)*1) t)->Y7 (((A9 n).map λ(k:Nat)=>(0:Int)+((lo+k:Nat):Int)).map V.int) acc:=by
   intro n
   induction n with
   |zero=>intro acc lo hl _;cases acc with|nil=>exact .nil|cons _ _=>cases hl
   |succ n ih=>
    intro acc lo hl hg
    cases acc with
    |nil=>cases hl
    |cons x acc=>
     rw[Gh,Af,Af];refine .cons ?_ ?_
     .obtain⟨t,e⟩:=hg 0 x rfl;exact⟨t,by rw[e];simp⟩
     .rw[B1,B1]
      have:=ih acc (lo+1) (by simpa using hl) λi v hv=>by obtain⟨t,e⟩:=hg (i+1) v (by simpa using hv);refine⟨t,?_⟩;rw[e];congr 3;omega
      rw[B1]at this;refine Eq.mp (lD (λl=>Y7 l acc) (B4 λk _=>?_)) this;simp only[Lh];congr 2;omega
  have:=hv j.toNat aJ.toList 0 (by simpa using aM.1) λi v e=>by obtain⟨t,e'⟩:=aM.2 i v (by simpa using e);exact⟨t,by rw[e'];simp⟩
  unfold i4;refine Eq.mp (lD (λl=>Y7 l aJ.toList) ?_) this;simp
 .simpa using hS'
def Z7(f:ED):EL:=λY=>match f Y with|some (.int j)=>if -(2 ^ 62)<=j/\j<=100000 then some ((i4 0 j.toNat).map D.int) else none|_=>none
def HE(hc:X.calm=true)(hm:X.mg "list" = none)(cA:X.mg "range" = none)(h:ZE X a fa)(hg:Gl X "list":=by rfl)(fZ:Gl X "range":=by rfl)(hv:B5 "list" = some (.type "list"):=by decide +kernel)(eO:B5 "range" = some (.type "range"):=by decide +kernel)(he:Ab [a] X.env=(false,Ce a X.env)::Ab [] X.env:=by exact u4 rfl)(af:(C8 az (Ab [] X.env)).any (·.1)=false:=by exact J3 rfl)(aZ:Ab [.Call (.Name "range" p2) [a] [] az] X.env=(false,Ce (.Call (.Name "range" p2) [a] [] az) X.env)::Ab [] X.env:=by exact u4 rfl)(cb:(C8 pos (Ab [] X.env)).any (·.1)=false:=by exact J3 rfl):ZF X (.Call (.Name "list" p) [.Call (.Name "range" p2) [a] [] az] [] pos) (Z7 fa):=
 ⟨have h:=h.h;
 j3 (pK (Wj hc) hg hm hv (J4 (pK GX fZ cA eO (J4 h Y8 he) (by decide) (by decide) he af) Y8 aZ) (by decide) (by decide) aZ cb) λU H Q h_=>by
  refine f7 h_ λY d B H0 V0 Z e r q=>?_;unfold Z7 at e;split at e
  .rename_i j ej;split at e
   .rename_i hj;cases e;refine⟨Y,_,B,H0,V0,Z,ej,r,λv H' s rr=>?_⟩
    obtain rfl:=v4.mp rr
    refine⟨j,rfl,λp1 dU=>⟨p1,j,rfl,v8,hj.1,by omega,λl hl=>?_⟩⟩;have s1:=u9 (o:=HO.rng 0 j) dU;have s2:=u9 (o:=HO.lst ((i4 0 j.toNat).map V.int)) hl;exact q l _ _ (s.trans (s1.trans s2)) ((s.trans s1).free hl) v8 (Y2.mpr rfl)
   .cases e
  .cases e⟩
def qW:LD:=λds=>match ds with|[.int i,.int j]=>some (.int (if j<i then j else i))|_=>none
def t8:LD:=λds=>match ds with|[.int i,.int j]=>some (.int (if j>i then j else i))|_=>none
def BM{K:A5}{H:Hp}{d e:D}{xs:List V}(h:g9 K H [d,e] xs):∃u v,xs=[u,v]/\d8 K H d u/\d8 K H e v:=by
 obtain⟨u,vs,rfl,h1,h2⟩:=j7.mp h;obtain⟨v,ws,rfl,h3,h4⟩:=j7.mp h2
 obtain rfl:=K3.mp h4
 exact⟨u,v,rfl,h1,h3⟩
def Ow{K:A5}{H:Hp}{d:D}{xs:List V}(h:g9 K H [d] xs):∃u,xs=[u]/\d8 K H d u:=by
 obtain⟨u,vs,rfl,h1,h2⟩:=j7.mp h
 obtain rfl:=K3.mp h2
 exact⟨u,rfl,h1⟩
def TX{K:A5}:pE K (λxs H Q=>∃i j,xs=[.int i,.int j]/\Q (.int (if j<i then j else i)) H) qW:=by
 intro ds d e Z H vs Q zs rr q;unfold qW at e;split at e
 .rename_i i j;cases e;obtain⟨u,v,rfl,h1,h2⟩:=BM rr
  obtain rfl:=v4.mp h1
  obtain rfl:=v4.mp h2
  exact⟨i,j,rfl,q _ H (j8.refl H) (v4.mpr rfl)⟩
 .cases e
def TW{K:A5}:pE K (λxs H Q=>∃i j,xs=[.int i,.int j]/\Q (.int (if j>i then j else i)) H) t8:=by
 intro ds d e Z H vs Q zs rr q;unfold t8 at e;split at e
 .rename_i i j;cases e;obtain⟨u,v,rfl,h1,h2⟩:=BM rr
  obtain rfl:=v4.mp h1
  obtain rfl:=v4.mp h2
  exact⟨i,j,rfl,q _ H (j8.refl H) (v4.mpr rfl)⟩
 .cases e
def JX(hc:X.calm=true)(hm:X.mg "min" = none)(ha:ZE X a fa)(hb:ZE X b fb)(hg:Gl X "min":=by rfl)(hv:B5 "min" = some (.builtin "min"):=by decide +kernel)(he:Ab [a,b] X.env=(false,Ce a X.env)::Ab [b] X.env:=by exact u4 rfl)(aZ:Ab [b] X.env=(false,Ce b X.env)::Ab [] X.env:=by exact u4 rfl)(af:(C8 pos (Ab [b] X.env)).any (·.1)=false:=by exact J3 rfl):ZE X (.Call (.Name "min" p) [a,b] [] pos) (x5 qW (y9 fa (y9 fb i3))):=
 ⟨have ha:=ha.h;
 have hb:=hb.h;
 BN (OY hc) TX hm hv (qF ha (qF hb xF aZ) he) hg (by decide) (by decide) he af⟩
def OH(hc:X.calm=true)(hm:X.mg "max" = none)(ha:ZE X a fa)(hb:ZE X b fb)(hg:Gl X "max":=by rfl)(hv:B5 "max" = some (.builtin "max"):=by decide +kernel)(he:Ab [a,b] X.env=(false,Ce a X.env)::Ab [b] X.env:=by exact u4 rfl)(aZ:Ab [b] X.env=(false,Ce b X.env)::Ab [] X.env:=by exact u4 rfl)(af:(C8 pos (Ab [b] X.env)).any (·.1)=false:=by exact J3 rfl):ZE X (.Call (.Name "max" p) [a,b] [] pos) (x5 t8 (y9 fa (y9 fb i3))):=
 ⟨have ha:=ha.h;
 have hb:=hb.h;
 BN (OW hc) TW hm hv (qF ha (qF hb xF aZ) he) hg (by decide) (by decide) he af⟩
def UH:LD:=λds=>match ds with|[.int i]=>some (.bl (i != 0))|[.bl b]=>some (.bl b)|_=>none
def t7:LD:=λds=>match ds with|[.int i]=>some (.int i)|[.bl b]=>some (.int (if b then 1 else 0))|_=>none
def Ũ{K:A5}:pE K (λxs H Q=>(∃i,xs=[.int i]/\Q (.int i) H)\/∃k,xs=[.bl k]/\Q (.int (if k then 1 else 0)) H) t7:=by
 intro ds d e Z H vs Q zs rr q;unfold t7 at e;split at e
 .cases e;obtain⟨u,rfl,h1⟩:=Ow rr
  obtain rfl:=v4.mp h1
  exact .inl ⟨_,rfl,q _ H (j8.refl H) (v4.mpr rfl)⟩
 .cases e;obtain⟨u,rfl,h1⟩:=Ow rr
  obtain rfl:=K4.mp h1
  exact .inr ⟨_,rfl,q _ H (j8.refl H) (v4.mpr rfl)⟩
 .cases e
def Zd(hm:X.mg "int" = none)(ha:ZE X a fa)(hg:Gl X "int":=by rfl)(hv:B5 "int" = some (.type "int"):=by decide +kernel)(he:Ab [a] X.env=(false,Ce a X.env)::Ab [] X.env:=by exact u4 rfl)(af:(C8 pos (Ab [] X.env)).any (·.1)=false:=by exact J3 rfl):ZE X (.Call (.Name "int" p) [a] [] pos) (x5 t7 (y9 fa i3)):=
 ⟨have ha:=ha.h;
 YU XZ Ũ hm hv (qF ha xF he) hg (by decide) (by decide) he af⟩
def sD(f:ED):ED:=λY=>match f Y with|some (.int i)=>some (.int (-i))|_=>none
def RE(h:ZE X a fa):ZE X (.UnaryOp .USub a pos) (sD fa):=
 ⟨have h:=h.h;
 j3 (v08 ŷ h) λU H Q h_=>by
  refine f7 h_ λY d B H0 V0 Z e r q=>?_;unfold sD at e;split at e
  .rename_i i ei;cases e;exact⟨Y,_,B,H0,V0,Z,ei,r,λv H' s rr=>⟨i,v4.mp rr,q _ H' s (v4.mpr rfl)⟩⟩
  .cases e⟩
def pU(i:Nat)(f:ED):EO:=λY=>match kX i Y with
 |some ds=>(match f Y with|some d=>if ds.length<d9 then some (.nx (Y.set i (some (.ow (ds++[d]))))) else none|none=>none)
 |none=>none
def qV(i:Nat)(f:EL):EO:=λY=>match kX i Y with
 |some ds=>(match f Y with|some es=>if ds.length+es.length<=d9 then some (.nx (Y.set i (some (.ow (ds++es))))) else none|none=>none)
 |none=>none
def JG{i:Nat}{x:Bf}{p1 p2 p3:Hq}(h:ZE X a fa)(hN:X.N[i]?=some x:=by rfl)(hv:mS X.env.scope x:=by first|exact E8 rfl|exact Db (E8 rfl)|exact Db (Db rfl))(hd:(x==("__debug__":Bf))=false:=by decide)(aT:(x==("__classdict__":Bf))=false:=by decide)(aG:Fx (.Name x p1) "append" X.env (Ce (.Name x p1) X.env)=Ce (.Name x p1) X.env:=by rfl) (bC:((C8 p3 (Ab [a] X.env)).all (λx=>!x.1)&&(Mf p3 (Jt [] X.env)).all (λx=>x.1.isSome)
   && decide (([a]:List Expr).length+([]:List Ix).length+(if ([]:List Ix).isEmpty then 0 else 1)<30))=true:=by rfl) (aE:(p2.endLine==p3.line)=true:=by rfl) (hs:Ab [a] X.env=(false,Ce a X.env)::Ab [] X.env:=by exact u4 rfl) (aF:(C8 p3 (Ab [] X.env)).any (·.1)=false:=by exact J3 rfl) (bW:Ej (.Call (.Attribute (.Name x p1) "append" p2) [a] [] p3) none pos.line X.env=Cr false:=by rfl):ZS X (.Expr (.Call (.Attribute (.Name x p1) "append" p2) [a] [] p3) pos) (pU i fa):=
 ⟨have h:=h.h;
 nA (Ax (AI Im PySem.F.slot_list_append PySem.F.type_list_append KF (nN hN hv hd aT) (J4 h Y8 hs) aG bC aE hs aF) bW) λE U H h_=>by
  refine f7 h_ λY o B H0 V0 Z e r q=>?_;unfold pU at e;split at e
  .rename_i ds aH;split at e
   .rename_i d ed;split at e
    .rename_i hl;cases e;obtain⟨n,xs,h1,h2,hb,h3,h4,h5⟩:=r.ow i ds (wR aH);refine⟨.ref n,h1,.inl ⟨rfl,xs,i5.of h4⟩,Y,_,B,H0,V0,Z,ed,r,λv H1 s1 r1=>?_⟩;have g5:=h5.mono (x6 s1);refine⟨n,xs,v,rfl,rfl,s1 _ _ h4,by rw[<-h5.length];exact EN (D7 hl),?_⟩
     exact q U _ Z ((r.mono s1).updO (wR aH) h1 (g9.append g5 (g9.one r1)))
    .cases e
   .cases e
  .cases e⟩
def JI{i:Nat}{x:Bf}{p1 p2 p3:Hq}(h:ZF X a f)(hN:X.N[i]?=some x:=by rfl)(hv:mS X.env.scope x:=by first|exact E8 rfl|exact Db (E8 rfl)|exact Db (Db rfl))(hd:(x==("__debug__":Bf))=false:=by decide)(aT:(x==("__classdict__":Bf))=false:=by decide)(aG:Fx (.Name x p1) "extend" X.env (Ce (.Name x p1) X.env)=Ce (.Name x p1) X.env:=by rfl) (bC:((C8 p3 (Ab [a] X.env)).all (λx=>!x.1)&&(Mf p3 (Jt [] X.env)).all (λx=>x.1.isSome)
   && decide (([a]:List Expr).length+([]:List Ix).length+(if ([]:List Ix).isEmpty then 0 else 1)<30))=true:=by rfl) (aE:(p2.endLine==p3.line)=true:=by rfl) (hs:Ab [a] X.env=(false,Ce a X.env)::Ab [] X.env:=by exact u4 rfl) (aF:(C8 p3 (Ab [] X.env)).any (·.1)=false:=by exact J3 rfl) (bW:Ej (.Call (.Attribute (.Name x p1) "extend" p2) [a] [] p3) none pos.line X.env=Cr false:=by rfl):ZS X (.Expr (.Call (.Attribute (.Name x p1) "extend" p2) [a] [] p3) pos) (qV i f):=
 ⟨have h:=h.h;
 nA (Ax (AI Im PySem.F.slot_list_extend PySem.F.type_list_extend Yv (nN hN hv hd aT) (J4 h Y8 hs) aG bC aE hs aF) bW) λE U H h_=>by
  refine f7 h_ λY o B H0 V0 Z e r q=>?_;unfold qV at e;split at e
  .rename_i ds aH;split at e
   .rename_i es ee;split at e
    .rename_i hl;cases e;obtain⟨n,xs,h1,h2,hb,h3,h4,h5⟩:=r.ow i ds (wR aH);refine⟨.ref n,h1,.inl ⟨rfl,xs,i5.of h4⟩,Y,_,B,H0,V0,Z,ee,r,λl ys H1 s1 hn ce r1=>?_⟩;have g5:=h5.mono (x6 s1);refine⟨n,l,xs,ys,rfl,rfl,s1 _ _ h4,ce,by rw[<-h5.length,<-r1.length];exact vG hl,?_⟩
     exact q U _ Z ((r.mono s1).updO (wR aH) h1 (g9.append g5 (r1.mono (qJ λb hb=>A7 _ hb))))
    .cases e
   .cases e
  .cases e⟩
end
def UP:fillsNumberSlot (.type "tuple") "mul" = Cr false:=PySem.fillsNumberSlot_seq (id:="tuple.__mul__") (r:=some (.builtin "tuple.__rmul__")) F.slot_tuple_mul.lookup (by decide +kernel) F.slot_tuple_rmul.lookup (by decide +kernel)
def VY:seqRepeat? (.type "tuple")=Cr (some (.builtin "tuple.__mul__")):=by unfold seqRepeat?;rw[PySem.seqSlot_of (T:="tuple") (name:="__mul__") (id:="tuple.__mul__") F.slot_tuple_mul.lookup (by decide +kernel),PySem.seqSlot_of (T:="tuple") (name:="__rmul__") (id:="tuple.__rmul__") F.slot_tuple_rmul.lookup (by decide +kernel)];rfl
def Ē(l:Av)(items:Array Aa)(n:Nat)(dd:Option Av)(sl:Array (Option Aa))(x:Int)(t:Tok)(h1:(decide (x < -(2 ^ 63))||decide (x>=2 ^ 63))=false)(h2:(items.isEmpty||x==1)=false)(h3:(decide (x<=0)||items.isEmpty)=true)(hz:¬(#[]:Array Aa).size>sizeLine):
  O2 (Cl.«tuple.__mul__» ⟨[.ref l,.int x t],[]⟩) (λ_ R s=>s.heap.get? l=some { cls:=.type "tuple",dict:=dd,data:=.seq items n,slots:=sl }/\R (.ok (.ret (.ref s.heap.objs.size))) { s with heap:=s.heap.push { cls:=Cm "tuple",data:=Ju #[] } }):=
 .of_wp λprog w A R s h=>by obtain⟨hp,g,d,tk,os⟩:=s;obtain⟨hl,h⟩:=h;wp_walk;refine M7 (Y1 (by rw[h1];exact B3)) ?_;wp_walk;exact⟨_,rfl,h⟩
def Ĕ(l:Av)(items:Array Aa)(n:Nat)(dd:Option Av)(sl:Array (Option Aa))(x:Int)(t:Tok)(h1:(decide (x < -(2 ^ 63))||decide (x>=2 ^ 63))=false)(h2:(items.isEmpty||x==1)=false)(h3:(decide (x<=0)||items.isEmpty)=false)(h4:¬(items.size:Int)*x>(2 ^ 63-1) / 8)(h5:Cl.Tuple.tupleTooMany ((items.size:Int)*x)=false)(h6:¬(N7 (λx1 x2=>x1++x2) #[] (Bh x.toNat items)).size>sizeLine):
  O2 (Cl.«tuple.__mul__» ⟨[.ref l,.int x t],[]⟩) (λ_ R s=>s.heap.get? l=some { cls:=.type "tuple",dict:=dd,data:=.seq items n,slots:=sl }/\R (.ok (.ret (.ref s.heap.objs.size))) { s with heap:=s.heap.push { cls:=Cm "tuple",data:=Ju (N7 (λx1 x2=>x1++x2) #[] (Bh x.toNat items)) } }):=
 .of_wp λprog w A R s h=>by obtain⟨hp,g,d,tk,os⟩:=s;obtain⟨hl,h⟩:=h;wp_walk;refine M7 (Y1 (by rw[h1];exact B3)) ?_;wp_walk;refine M7 (Y1 h4) ?_;wp_walk;exact⟨_,rfl,h⟩
def WE(a:Int)(t:Tok)(l:Av)(items:Array Aa)(n:Nat)(dd:Option Av)(sl:Array (Option Aa)):
  O2 (Cl.«int.__rmul__» ⟨[.int a t,.ref l],[]⟩) (λ_ R s=>s.heap.get? l=some { cls:=.type "tuple",dict:=dd,data:=.seq items n,slots:=sl }/\R (.ok (.ret Js)) s):=
 .of_wp λprog w A R s h=>by obtain⟨hp,g,d,tk,os⟩:=s;obtain⟨hl,h⟩:=h;wp_walk;exact⟨_,rfl,h⟩
def ē(l:Av)(items:Array Aa)(n:Nat)(dd:Option Av)(sl:Array (Option Aa))(t:Tok):
  O2 (Cl.«tuple.__mul__» ⟨[.ref l,.int 1 t],[]⟩) (λ_ R s=>s.heap.get? l=some { cls:=.type "tuple",dict:=dd,data:=.seq items n,slots:=sl }/\R (.ok (.ret (.ref l))) s):=
 .of_wp λprog w A R s h=>by obtain⟨hp,g,d,tk,os⟩:=s;obtain⟨hl,h⟩:=h;wp_walk;exact⟨_,rfl,h⟩
def SU(K:A5):R2:=λx y H Q=>∃a k xs,x = .ref a/\y = .int k/\i8 K H a xs/\xs≠[]/\-(2 ^ 63)<=k/\k<2 ^ 63/\xs.length*k.toNat<=1000000 /\
 (k=1->Q (.ref a) H)/\(k≠1->∀p,H p=none->Q (.ref p) (upd H p (.tup (Bh k.toNat xs).flatten)))
section
variable{X:Cx}
def Ø:kH X (Hs .Mult) (SU X.K):=by
 intro aa s U H x y v u Q I rx ry h;obtain⟨a,k,xs,rfl,rfl,ha,ah,h1,h2,hz,q1,q2⟩:=h;cases rx;obtain⟨t,rfl⟩:=ry;obtain⟨its,r,p,_⟩:=I.tuple ha;have hl:=r.length;obtain⟨⟨cls,dd,data,sl⟩,ho,hc,n,hd⟩:=id p;simp only at hc hd;subst hc hd;have hne':its≠[]:=λz=>ah (r.nil_iff.mp z)
 have he:its.toArray.isEmpty=false:=by
  cases its with
  |nil=>exact w9 rfl hne'
  |cons _ _=>rfl
 have b1:(decide (k < -(2 ^ 63))||decide (k>=2 ^ 63))=false:=by rw[Y1 (by omega),Y1 (by omega)];rfl
 refine wpAny_binaryOp_repeat_ref (T:="tuple") (U:="int") (by decide) ⟨_,ho,rfl⟩ (λs'=>typeIs_int s' k t) UP F.fills_int_mul F.slot_int_rmul VY F.slot_int_index.lookup
  (Ko F.slot_int_rmul (typeIs_int s k t) F.entry_int_rmul (F.args_int_rmul_2 _ _) (WE k t a its.toArray n dd sl) ⟨ho,rfl,⟨_,ho,rfl⟩,?_⟩)
 by_cases hk:k=1
 .subst hk;exact Ko F.slot_tuple_mul ⟨_,ho,rfl⟩ F.entry_tuple_mul (F.args_tuple_mul_2 _ _) (ē a its.toArray n dd sl t) ⟨ho,⟨.ref a,H,I,rfl,q1 rfl⟩⟩
 .have b2:(its.toArray.isEmpty||k==1)=false:=by rw[he,Li];exact beq_eq_false_iff_ne.mpr hk
  by_cases h0:k<=0
  .refine Ko F.slot_tuple_mul ⟨_,ho,rfl⟩ F.entry_tuple_mul (F.args_tuple_mul_2 _ _) (Ē a its.toArray n dd sl k t b1 b2 (by rw[K9 h0];rfl) (by simp)) ⟨ho,?_⟩
   have e0:k.toNat=0:=by omega
   have:=q2 hk s.heap.objs.size I.fresh
   rw[e0]at this;exact⟨.ref _,_,I.laid (o:=.tup []) (t':=s.toks) (λb o e=>A8 _ e) (Aj _) ⟨Bg _,[],.nil,pT.new _ _⟩,rfl,this⟩
  .have hsz:((its.toArray.size:Nat):Int)*k<=1000000:=by
    rw[An,<-hl]
    have e1:k=((k.toNat:Nat):Int):=by omega
    rw[e1]
    have:((xs.length*k.toNat:Nat):Int)<=1000000:=Int.ofNat_le.mpr hz
    rw[Int.natCast_mul]at this;exact this
   have f0:N7 (λx1 x2=>x1++x2) #[] (Bh k.toNat its.toArray)=(Bh k.toNat its).flatten.toArray:=by
    have:=Pd its k.toNat []
    rw[Kb]at this;exact this
   have ab:(Bh k.toNat xs).flatten.length<=sizeLine:=by rw[Ë,Nat.mul_comm,Bs];omega
   refine Ko F.slot_tuple_mul ⟨_,ho,rfl⟩ F.entry_tuple_mul (F.args_tuple_mul_2 _ _) (Ĕ a its.toArray n dd sl k t b1 b2 (by rw[Y1 h0,he];rfl) (by omega) (by unfold Cl.Tuple.tupleTooMany;rw[Bs];exact Y1 (by omega)) ?_) ⟨ho,?_⟩
   .rw[f0,An,<-(r.rep k.toNat).length];omega
   .rw[f0];exact⟨.ref _,_,I.laid (o:=.tup (Bh k.toNat xs).flatten) (t':=s.toks) (λb o e=>A8 _ e) (Aj _) ⟨ab,_,r.rep k.toNat,pT.new _ _⟩,rfl,q2 hk _ I.fresh⟩
def LV:D->D->Option D:=λx y=>match x,y with
 | .tup ds,.int k=>if ds≠[]/\-(2 ^ 63)<=k/\k<2 ^ 63/\ds.length*k.toNat<=d9 then some (.tup (Bh k.toNat ds).flatten) else none
 |_,_=>none
def î{K:A5}:lK K (SU K) LV:=by
 intro x y d e Z H u v Q zs hx hy q;unfold LV at e;split at e
 .rename_i ds k;split at e
  .rename_i hh;obtain⟨ah,h1,h2,hl⟩:=hh;cases e;obtain⟨a,us,rfl,g1,g2⟩:=j5.mp hx
   obtain rfl:=v4.mp hy
   have ab:=g2.length;refine⟨a,k,us,rfl,rfl,j9 x8 g1,λz=>ah (Ge (by rw[ab,z];rfl)),h1,h2,by rw[<-ab];unfold d9 at hl;omega,λe1=>?_,λe1 p hp=>?_⟩
   .subst e1
    have:(Bh (1:Int).toNat ds).flatten=ds:=by simp
    rw[this]at q;exact q _ H (j8.refl H) hx
   .have sn:=u9 (o:=HO.tup (Bh k.toNat us).flatten) hp;refine q _ _ sn (j5.mpr ⟨p,_,rfl,i8.of ?_,(g2.rep k.toNat).mono (x6 sn)⟩);rw[Q4 (Sa zs hp)];exact v8
  .cases e
 .cases e
def pV:D->D->Option D:=λx y=>match FK x y with|some d=>some d|none=>LV x y
variable{a b:Expr}{fa fb:ED}{pos:Hq}
def JE(ha:ZE X a fa)(hb:ZE X b fb):ZE X (.BinOp a .Mult b pos) (d2 pV fa fb):=
 ⟨have ha:=ha.h;
 have hb:=hb.h;
 DH (Ŏ.or Ø) (lK.or ū î) ha hb⟩
end
def nO(N:List Bf)(ds:List D):K6:=ds.map (λd=>some (Cell.sh d))++Bh (N.length-ds.length) none
def kY:Option Out->Option D
 |some (.rt d)=>some d
 |some (.nx _)=>some .non
 |_=>none
def JU{K:A5}{Z:List Av}{H:Hp}{N:List Bf}{ds:List D}{vs:List V}(zs:TB K H/\∀z∈Z,∃o,H z=some o)(rr:g9 K (K5 Z H) ds vs):SR K Z H (K5 Z H) H Z (start N vs) (nO N ds):=by
 have hl:=rr.length
 have get:∀{i:Nat} {c:Cell},(nO N ds)[i]?=some (some c)->∃d,ds[i]?=some d/\c = .sh d:=λ{i c} q=>by
  unfold nO at q;by_cases hi:i<ds.length
  .rw[Dg (by simpa using hi),Am]at q
   cases e:ds[i]? with
   |none=>rw[e]at q;cases q
   |some d=>rw[e]at q;cases q;exact⟨d,rfl,rfl⟩
  .rw[F9 (by simpa using hi),List.getElem?_replicate]at q;split at q<;>cases q
 refine⟨j8.refl H,zs.1,λ_ _ h=>h,λb hb=>hb,zs.2,λi d q=>?_,λi c q=>?_,λi j c e a q1 q2=>?_,?_⟩
 .obtain⟨d',e,z⟩:=get q;cases z;obtain⟨v,e1,r1⟩:=rr.get e;refine⟨v,?_,r1⟩;have hi:i<vs.length:=(B2.mp e1).1;unfold L2.start;rw[Dg (by simpa using hi),Am,e1];rfl
 .obtain⟨d',e,z⟩:=get q;exact(n8 z.symm).elim
 .obtain⟨d',e,z⟩:=get q1;exact(n8 z.symm).elim
 .unfold L2.start nO;rw[Ah,Ah,A0,A0,Jj,Jj,hl]
def QL{P:Bw}{w:Cg}{K:A5}{mg:Bf->Option Aa}{base:Cf}{x:Bf}{st:Do}{f:Av}{fd:Gu}{N ps:List Bf}{k:Nat}{g:EO}{F:LD}(G:rE K x x st f fd)(S:i7 N ps (v7 st))(len:∀ds d,F ds=some d->ds.length=ps.length)(hF:∀ds d,F ds=some d->kY (g (nO N ds))=some d)
  (ap:∀(ak:Aa) (A:C1) (outer:List Nq) (s:Ai) (H:Hp) (E:XK),d4 k (A.deeper (Jl x (v7 st) s.heap.objs.size f ak)) ->
   FY (nS lY P w K mg base N x (v7 st) f ak A outer s H E).nox (lX st) g):kJ P w K mg base lY (k+1) f fd ps (sJ K F):=by
 refine G.ok S (λvs H Q E h=>?_) λak A outer s H vs Q E hr h=>?_
 .obtain⟨Z,ds,d,zs,rr,e,q⟩:=h;rw[<-rr.length];exact len ds d e
 .obtain⟨Z,ds,d,zs,rr,e,q⟩:=h;have e2:=hF ds d e;refine⟨_,ap ak A outer s H E hr,?_⟩
  cases ho:g (nO N ds) with
  |none=>rw[ho]at e2;cases e2
  |some o=>
   refine⟨nO N ds,o,Z,H,K5 Z H,Z,ho,JU zs rr,?_⟩;rw[ho]at e2
   cases o with
   |rt d'=>cases e2;exact λv H' s' rv=>q v H' s' rv
   |nx Y=>cases e2;exact λU H' Z' r'=>q .non H' r'.same (Z8.mpr rfl)
   |bk _=>cases e2
   |ct _=>cases e2
def sR(sc outer:Scope)(N:List Bf)(cap:List (Option Nat))(M:List Bf):Bool:=
 (sc.kind==.function)&&(sc.names.all λy=>if y.2==.cell then sc.names.lookup y.1==some .cell else true)&&(sc.names.all λy=>if y.2==.local then sc.names.lookup y.1==some .local else true) &&
 (sc.names.all λy=>if y.2==.free then sc.names.lookup y.1==some .free&&(outer.names.lookup y.1==some .cell||outer.names.lookup y.1==some .free) else true) &&
 ((A9 cap.length).all λi=>match cap[i]? with|some (some j)=>(match N[i]? with|some x=>(match M[j]? with|some y=>x==y&&sc.names.lookup x==some .free|none=>false)|none=>false)|_=>true) &&
 (cap.length==N.length)&&((A9 cap.length).all λi=>(A9 cap.length).all λj=>match cap[i]? with|some (some k)=>(match cap[j]? with|some (some k')=>if k==k' then i==j else true|_=>true)|_=>true)
structure BC(sc outer:Scope)(N:List Bf)(cap:List (Option Nat))(M:List Bf):Prop where
 kind:sc.kind = .function
 cell:∀y∈sc.names,y.2 = .cell->sc.names.lookup y.1=some .cell
 loc:∀y∈sc.names,y.2 = .local->sc.names.lookup y.1=some .local
 fre:∀y∈sc.names,y.2 = .free->sc.names.lookup y.1=some .free
 out:∀y∈sc.names,y.2 = .free->outer.names.lookup y.1=some .cell\/outer.names.lookup y.1=some .free
 sel:∀(i j:Nat),cap[i]?=some (some j)->∃x,N[i]?=some x/\M[j]?=some x/\sc.names.lookup x=some .free
 len:cap.length=N.length
 inj:∀(i j k:Nat),cap[i]?=some (some k)->cap[j]?=some (some k)->i=j
def FJ(hok:sR sc outer N cap M=true):BC sc outer N cap M:=by
 unfold sR at hok;simp only[Bi]at hok;obtain⟨⟨⟨⟨⟨⟨h1,h2⟩,h3⟩,h4⟩,h5⟩,h6⟩,h7⟩:=hok;rw[Eb]at h2 h3 h4 h5 h7;refine⟨by simpa using h1,λy hy e=>by have z:=h2 y hy;rw[e]at z;simpa using z,λy hy e=>by have z:=h3 y hy;rw[e]at z;simpa using z,λy hy e=>?_,λy hy e=>?_,λi j e=>?_,by simpa using h6,λi j k e1 e2=>?_⟩
 .have z:=h4 y hy;rw[e]at z;simp only[beq_self_eq_true,if_true,Bi]at z;simpa using z.1
 .have z:=h4 y hy;rw[e]at z;simp only[beq_self_eq_true,if_true,Bi,M6]at z;simpa using z.2
 .have z:=h5 i (Ag.mpr (B2.mp e).1);rw[e]at z;dsimp only at z
  cases hn:N[i]? with
  |none=>rw[hn]at z;cases z
  |some x=>
   rw[hn]at z;dsimp only at z
   cases hm:M[j]? with
   |none=>rw[hm]at z;cases z
   |some y=>rw[hm]at z;simp only[Bi,beq_iff_eq]at z;obtain⟨rfl,z2⟩:=z;exact⟨x,rfl,rfl,z2⟩
 .have z:=h7 i (Ag.mpr (B2.mp e1).1);rw[Eb]at z;have z2:=z j (Ag.mpr (B2.mp e2).1);rw[e1,e2]at z2;simpa using z2
def xO(sc outer:Scope)(N:List Bf)(cap:List (Option Nat))(M:List Bf):Bool:=sR sc outer N cap M&&(sc.names.all λy=>y.2 != .cell)
section
variable{X:Cx}{pos:Hq}
def o7(N:List Bf)(cap:List (Option Nat))(hc:X.calm=true)(hi:FW X ae ag fi)(hg:N.Nodup->∀cl C fp s H,ZG (Y5 X N scope cl C fp s H) ae h)(ht:∀cl C fp s H,ZP (Y5 X N scope cl C fp s H) ba ft)(he:∀cl C fp s H,ZE (Y5 X N scope cl C fp s H) bh fe)(hok:sR scope X.env.scope N cap X.N=true:=by rfl)(hs:∀x,Cz ag X.env x=Cr x:=by intro _;rfl)(nd:N.Nodup:=by decide +kernel):ZF X (.ListComp bh [⟨ae,ag,ba,0⟩] scope pos) (W6 cap fi h ft fe):=by have hg:=hg nd;have hi:=hi.h;have hg:=λcl C fp s H=>(hg cl C fp s H).h;have ht:=λcl C fp s H=>(ht cl C fp s H).h;have he:=λcl C fp s H=>(he cl C fp s H).h;refine⟨?_⟩;have c:=FJ hok;exact ö (N:=N) (cap:=cap) hc hi hg ht he c.kind c.cell c.loc c.fre c.out c.sel c.len c.inj hs
def rJ:ZP X [] lV:=
 ⟨λaa s U H Q I h_=>by
 refine f7 h_ λY b B H0 V0 Z e r q=>?_;cases e
 exact Sh aa s U H Q I (q H (j8.refl H))⟩
def qC(h:ZT X c f):ZP X [c] f:=
 ⟨have h:=h.h;
 Xi h⟩
def tQL(K:A5)(f:EL):TE:=λU H Q=>∃Y ds B H0 V0 Z,f Y=some ds/\SR K B H0 V0 H Z U Y/\∀a xs H',j8 H H'->i5 K H' a xs->g9 K (K5 Z H') ds xs->Q (.ref a) H'
abbrev SQL(X:Cx)(e:Expr)(f:EL):Prop:=PE X e (tQL X.K f)
structure yA(X:Cx)(e:Expr)(f:EL):Prop where
 h:SQL X e f
def S5(h:ZF X e f):yA X e f:=
 ⟨have h:=h.h;
 j3 h λU H Q ⟨Y,ds,B,H0,V0,Z,e,r,q⟩=>
  ⟨Y,ds,B,H0,V0,Z,e,r,λa xs H' s hn ha hr=>q a xs H' s (i5.of ha) (hr.mono (qJ λb hb=>A7 _ hb))⟩⟩
def LM(h:ZE X e f):yA X e (oD f):=
 ⟨have h:=h.h;
 j3 h λU H Q h_=>by
  refine f7 h_ λY ds B H0 V0 Z e r q=>?_;unfold oD at e;split at e
  .rename_i es he;cases e;refine⟨Y,_,B,H0,V0,Z,he,r,λv H' s rr=>?_⟩;obtain⟨a,xs,rfl,h1,h2⟩:=J6.mp rr;exact q a xs H' s (x8.seq h1) h2
  .cases e⟩
def ό(ha:yA X a fa)(hb:yA X b fb):ZF X (.BinOp a .Add b pos) (AC fa fb):=
 ⟨have ha:=ha.h;
 have hb:=hb.h;
 j3 (SH Rf ha hb) λU H Q h_=>by
  refine f7 h_ λY ds B H0 V0 Z e r q=>?_;unfold AC at e;split at e
  .rename_i xs ex;split at e
   .rename_i ys ey;split at e
    .rename_i hl;cases e;refine⟨Y,xs,B,H0,V0,Z,ex,r,λn us H1 s1 ip r1=>⟨Y,ys,B,H0,V0,Z,ey,r.mono s1,λm ws H2 s2 ju r2=>⟨n,m,us,ws,rfl,rfl,s2.seq ip,ju,by rw[<-r1.length,<-r2.length];exact vG hl,λl cw=>?_⟩⟩⟩
     exact q l _ _ (s1.trans (s2.trans (u9 cw))) ((s1.trans s2).free cw) v8 ((g9.append (r1.mono (x6 s2)) r2).mono (qK cw (u9 cw)))
    .cases e
   .cases e
  .cases e⟩
end
structure jO(P:Bw)(w:Cg)(K:A5)(mg:Bf->Option Aa)(base:Cf)(k:Nat)(x:Bf)(ps:List Bf)(F:LD):Prop where
 ex:∃f fd,kJ P w K mg base lY k f fd ps (sJ K F)/\mg x=some (.ref f)/\F8 K (.ref f)=true/\tM K fd ps []
def u8{X:Cx}{e:Expr}{es:List Expr}(G:jO X.prog X.w X.K X.mg X.base j x ps F)(hr:d4 k X.A)(ha:ZA X (e::es) g)(hjk:j<=k:=by decide)(hg:Gl X x:=by rfl)(br:(x==("__debug__":Bf))=false:=by decide)(he:Ab (e::es) X.env=(false,Ce e X.env)::Ab es X.env:=by exact u4 rfl)(af:(C8 pos (Ab es X.env)).any (·.1)=false:=by exact J3 rfl):ZE X (.Call (.Name x p) (e::es) [] pos) (x5 F g):=by have ha:=ha.h;refine⟨?_⟩;obtain⟨f,fd,h1,h2,h3,h4⟩:=G.ex;exact ñ h1 (hr.mono hjk) h2 h3 h4 ha hg br he af
structure b8(K:A5)(mg:Bf->Option Aa)(x:Bf)(st:Do):Prop where
 ex:∃f fd,rE K x x st f fd/\mg x=some (.ref f)
def Ye{P:Bw}{w:Cg}{K:A5}{mg:Bf->Option Aa}{base:Cf}{x:Bf}{st:Do}{N ps:List Bf}{k:Nat}{g:EO}{F:LD}(G:b8 K mg x st)(S:i7 N ps (v7 st))(len:∀ds d,F ds=some d->ds.length=ps.length)(hF:∀ds d,F ds=some d->kY (g (nO N ds))=some d)(hb:∀(kV ay pm:Aa) (an:Option Av) (ak ct:Aa) (us:List Aa),us.length=ps.length->Gk (Dx x x (o5 st) (lX st) (v7 st) .none kV ay pm an ak ct) ⟨us,[]⟩=Cr (ps.zip us))
  (ap:∀(f:Av) (ak:Aa) (A:C1) (outer:List Nq) (s:Ai) (H:Hp) (E:XK),d4 k (A.deeper (Jl x (v7 st) s.heap.objs.size f ak)) ->
   FY (nS lY P w K mg base N x (v7 st) f ak A outer s H E).nox (lX st) g):jO P w K mg base (k+1) x ps F:=by
 obtain⟨f,fd,G1,G2⟩:=G.ex;exact⟨f,fd,QL G1 S len hF (ap f),G2,G1.kp,G1.binds hb⟩
section
variable{X:Cx}{pos:Hq}
def SR.base{K:A5}{B Z:List Av}{H0 V0 H:Hp}{U:St}{Y:K6}(r:SR K B H0 V0 H Z U Y){l:Av}{o:HO}(hl:H l=some o)(hn:H0 l=none)(bG:∀(j:Nat) (es:OC) a,Y[j]?=some (some es.cell)->U[j]?=some (some (.ref a))->a≠l):SR K B (upd H0 l o) V0 H Z U Y:=
 ⟨λb u e=>by
   by_cases z:b=l
   .subst z;rw[v8]at e;cases e;exact hl
   .rw[j6 z]at e;exact r.same b u e,
  r.tb,r.vis,r.sub,r.zs,r.sh,λj es hj=>by
   obtain⟨a,xs,t1,t2,tb,t3,t4,t5⟩:=r.own j es hj
   exact⟨a,xs,t1,t2,tb,by rw[j6 (bG j es a hj t1)];exact t3,t4,t5⟩,r.inj,r.len⟩
end
section
variable{X:Cx}{pos p p2 az:Hq}{a b c e tg:Expr}{fa fb fc f:ED}
def SJ(h1:PI X tg e w1)(h2:PI X tg e w2):PI X tg e (λU H R=>w1 U H R\/w2 U H R):=λaa s U H R I h=>by
 rcases h with h|h
 .exact h1 aa s U H R I h
 .exact h2 aa s U H R I h
def Z3(h:ZE X e f):ZI X tg e (b9 f):=
 ⟨have h:=h.h;
 sY (SJ (Ű h) (ű h)) λU H R h_=>by
 refine f7 h_ λY ds B H0 V0 Z e r q=>?_;unfold b9 at e;split at e
 .rename_i es he;cases e;exact .inl ⟨Y,_,B,H0,V0,Z,by unfold oD;rw[he],r,q⟩
 .rename_i es he;cases e;exact .inr ⟨Y,_,B,H0,V0,Z,by unfold KR;rw[he],r,q⟩
 .cases e⟩
def uH(hu:X.A.units<D4)(ha:ZE X a fa)(hb:ZE X b fb):ZT X (.Compare a [.Lt] [b] pos) (v5 (d2 mZ fa fb)):=
 ⟨have ha:=ha.h;
 have hb:=hb.h;
 xG (Sy.or (Ō hu)) (lK.or zS Ū) ha hb (sT _)⟩
end
def Ϧ:K5 [] H=H:=by funext b;unfold K5;rw[y3 (by simp)]
def jG(n:Nat)(N:List Bf)(g:EO):LD:=λds=>if ds.length=n then kY (g (nO N ds)) else none
def Ī{P:Bw}{w:Cg}{K:A5}{mg:Bf->Option Aa}{base:Cf}{x:Bf}{st:Do}{N ps:List Bf}{k n:Nat}{g:EO}(G:b8 K mg x st)(S:i7 N ps (v7 st))(hb:∀(kV ay pm:Aa) (an:Option Av) (ak ct:Aa) (us:List Aa),us.length=ps.length->Gk (Dx x x (o5 st) (lX st) (v7 st) .none kV ay pm an ak ct) ⟨us,[]⟩=Cr (ps.zip us))(hn:ps.length=n) (ap:∀(f:Av) (ak:Aa) (A:C1) (outer:List Nq) (s:Ai) (H:Hp) (E:XK),d4 k (A.deeper (Jl x (v7 st) s.heap.objs.size f ak)) ->
   ZB (nS lY P w K mg base N x (v7 st) f ak A outer s H E).nox (lX st) g):jO P w K mg base (k+1) x ps (jG n N g):=
 have ap:=λf ak A outer s H E hr=>(ap f ak A outer s H E hr).h;
 Ye G S (λds d e=>by
  unfold jG at e;split at e
  .rename_i h;rw[h,hn]
  .cases e) (λds d e=>by
  unfold jG at e;split at e
  .exact e
  .cases e) hb ap
section
variable{prog:Bw}{w:Cg}{A:C1}{E:VP}{s:Ai}
def V8{x:Aa}{Q:VP}(bc:s.heap.IsTupleIter it t i)(ht:s.heap.IsTuple t items)(hx:items[i]?=some x)(hQ:∀h',h'.IsTupleIter it t (i+1)->Dh it s.heap h'->Q x { s with heap:=h' }):Ap (B0 prog w) A (Ff (.ref it)) Q E s:=by
 rcases id bc with⟨ob,eo,ec,ed⟩;rcases ht with⟨ot,et,_,nt,edt⟩;unfold Ff;refine A3 (F0 (name:=Bt "__next__") bc.typeIs F.slot_tuple_iterator_next (Eu F.slot_tuple_iterator_next bc.typeIs F.entry_tuple_iterator_next ?_ (F.args_tuple_iterator_next_1 _)));show Ap _ _ (field (.ref it) 0 >>= _) _ _ s;refine A3 (Ij eo ed (x:=.ref t) rfl ?_)
 show Ap _ _ (if (D3 t==Ca)=true then _ else _) _ _ s;rw[y3 (show ¬((D3 t==Ca)=true) from B3)];show Ap _ _ (field (.ref it) 1 >>= _) _ _ s;refine A3 (Ij eo ed (x:=.int i 0) rfl ?_);show Ap _ _ (Jn (.ref t) >>= _) _ _ s;refine A3 (Ei et edt ?_);simp only[Ay,hx];refine A3 (Iy eo ed (by simp) (w6 ⟨x,rfl,w6 (hQ _ ?_ (By ..))⟩))
 exact⟨_,D6 _ eo (Jy.isFreed_of_fields (Jy.data_mapFields ed _)),(Jy.cls_mapFields ..).trans ec,by rw[Jy.data_mapFields ed];simp[rawInt]⟩
def VA(hh:A.handled=none)(bc:s.heap.IsTupleIter it t i)(ht:s.heap.IsTuple t items)(hx:items[i]?=none)(hE:∀h' e,Cf.ExtBut it s.heap h'->(∃o,h'.get? e=some o/\o.cls = .type "StopIteration")->E (.ref e) { s with heap:=h' }):Ap (B0 prog w) A (Ff (.ref it)) Q E s:=by
 rcases id bc with⟨ob,eo,ec,ed⟩;rcases ht with⟨ot,et,_,nt,edt⟩;unfold Ff;refine A3 (F0 (name:=Bt "__next__") bc.typeIs F.slot_tuple_iterator_next (Eu F.slot_tuple_iterator_next bc.typeIs F.entry_tuple_iterator_next ?_ (F.args_tuple_iterator_next_1 _)));show Ap _ _ (field (.ref it) 0 >>= _) _ _ s;refine A3 (Ij eo ed (x:=.ref t) rfl ?_)
 show Ap _ _ (if (D3 t==Ca)=true then _ else _) _ _ s;rw[y3 (show ¬((D3 t==Ca)=true) from B3)];show Ap _ _ (field (.ref it) 1 >>= _) _ _ s;refine A3 (Ij eo ed (x:=.int i 0) rfl ?_);show Ap _ _ (Jn (.ref t) >>= _) _ _ s;refine A3 (Ei et edt ?_);simp only[Ay,hx];refine A3 (Kr (A3 (Iy eo ed (by simp) ?_)))
 show Ap _ _ (newExc (.type "StopIteration") [] >>= _) _ _ _;refine A3 ?_;simp only[newExc,Oa];refine A3 (Cb ?_ (by size_fits));refine A3 (m:=Ks _ _) (Ey (a:=Ca) (by first|rfl|(simp only[Ks];rfl)) (Cb ?_ (by size_fits)))
 simp only[raiseNew];refine A3 (wpAny_handled ?_)
 first|rw[show A.in1.handled=none from hh]|rw[hh]
 refine A3 (w6 (wpAny_throw ?_));exact hE _ _ (((By ..).extBut.push _).push _) ⟨_,Ar _ rfl,rfl⟩
def Vi(hh:A.handled=none)(it t:Av)(ah:t≠it)(items:Array Aa):
  Draws prog w A it [it,t] items.size (λi v=>items[i]?=some v) (λi h=>h.IsTupleIter it t i/\h.IsTuple t items) where
 live:=λ_ _ st=>by obtain⟨⟨o,ho,_⟩,_⟩:=st;exact⟨o,ho⟩
 frame:=λ_ _ _ st hk=>by obtain⟨⟨o,ho,z⟩,⟨o2,cp,z2⟩⟩:=st;exact⟨⟨o,hk it (by simp) o ho,z⟩,⟨o2,hk t (by simp) o2 cp,z2⟩⟩
 item:=λi s Q E hi st hQ=>V8 st.1 st.2 (x:=items[i]) (by simp[hi]) λh' a b=>hQ _ h' s.toks (by simp[hi]) ⟨a,st.2.extBut b.extBut ah⟩ b
 done:=λs Q E st hE=>VA hh st.1 st.2 (by simp) hE
def Vj(l:Av)(items:Array Aa)(n:Nat)(dct:Option Av)(sl:Array (Option Aa)):
  O2 (Cl.«enumerate.__new__» ⟨[.type "enumerate",.ref l],[]⟩) (λ_ R s=>s.heap.get? l=some { cls:=.type "tuple",dict:=dct,data:=.seq items n,slots:=sl } /\
   R (.ok (.ret (.ref (s.heap.push { cls:=.type "tuple_iterator",data:=.fields #[.ref l,.int 0 0] }).objs.size)))
    { s with heap:=(s.heap.push { cls:=.type "tuple_iterator",data:=.fields #[.ref l,.int 0 0] }).push { cls:=.type "enumerate",data:=.fields #[.none,.bool false,.ref s.heap.objs.size,rawInt 0,.none,.none] } }):=
 .of_wp λprog w A R s h=>by
  obtain⟨hp,g,d,tk,os⟩:=s;obtain⟨hl,h⟩:=h;have bY:=sub_enumerate;have hL:Cf.IsTuple (Ai.heap ⟨hp,g,d,tk,os⟩) l items:=⟨_,hl,rfl,n,rfl⟩
  wp_walk using Fy hl;refine wpAny_stack_any λst=>w6 ?_
  split
  .rename_i c _ _ _ _ _;cases (c==Cm "enumerate")<;>(wp_walk using Fy hl,Ep hL;exact⟨_,rfl,h⟩)
  .wp_walk using Fy hl,Ep hL;exact⟨_,rfl,h⟩
def Wi{Q:VP}(hL:s.heap.IsTuple l items)(h:∀h',IsEnum h' (s.heap.objs.size+1) s.heap.objs.size 0 .none->h'.IsTupleIter s.heap.objs.size l 0->(∀b o,s.heap.get? b=some o->h'.get? b=some o)->Q (.ref (s.heap.objs.size+1)) { s with heap:=h' }):
  Ap (B0 prog w) A (call (.type "enumerate") [.ref l]) Q E s:=by
 rcases hL with⟨⟨c,dct,dt,sl⟩,hl,hc,n,hd⟩;have bS:c = .type "tuple":=hc;have bZ:dt = .seq items n:=hd;subst bS bZ;refine callType_new F.called_enumerate (by decide) (F.typeCall_enumerate_1 _) (F.newCall_enumerate_1 _) (λobj=>F.args_object_init_2 obj _) F.entry_enumerate_new (Vj l items n dct sl) ⟨hl,?_⟩;have hz:(s.heap.push { cls:=.type "tuple_iterator",data:=.fields #[.ref l,.int 0 0] }).objs.size=s.heap.objs.size+1:=Dr ..
 have he:IsEnum ((s.heap.push { cls:=.type "tuple_iterator",data:=.fields #[.ref l,.int 0 0] }).push { cls:=.type "enumerate",data:=.fields #[.none,.bool false,.ref s.heap.objs.size,rawInt 0,.none,.none] }) (s.heap.objs.size+1) s.heap.objs.size 0 .none:=by
  have z:=Ar (s.heap.push { cls:=.type "tuple_iterator",data:=.fields #[.ref l,.int 0 0] }) (o:={ cls:=.type "enumerate",data:=.fields #[.none,.bool false,.ref s.heap.objs.size,rawInt 0,.none,.none] }) rfl
  rwa [hz]at z
 show _/\_;rw[hz];exact⟨⟨_,he,rfl⟩,h _ he ⟨_,A8 _ (Ar _ rfl),rfl,rfl⟩ λb o x=>A8 _ (A8 _ x)⟩
end
def ZY{h':Cf}{t':Nat}{ch:List Av}{a:Av}(I:a9 X aa U H s)(k:∀b ob,b∉ch->s.heap.get? b=some ob->h'.get? b=some ob)(hf:∀b∈ch,pR X aa H b)(ha:s.heap.objs.size<=a)(new:kU X.prog X.w (upd H a o) h' a o):a9 X aa U (upd H a o) { s with heap:=h',toks:=t' }:=by
 have hn:H a=none:=I.hok.fresh ha;have lt:∀b ob,s.heap.get? b=some ob->b≠a:=λb ob e=>Aq (B8 (Ao e) ha)
 have fF:∀b u,H b=some u->b∉ch:=λb u e z=>by
  have:=(hf b z).1
  rw[e]at this;cases this
 refine I.call (g':=s.gens) (d':=s.drawn) (ch:=ch) ⟨λb ob e n _ hx=>k b ob hx e,λb ob e n _ hx=>⟨ob.slots,k b ob hx e⟩,λb ob e n _=>by rw[j6 (lt b ob e)];exact n,λb ob e hx=>⟨ob,k b ob hx e⟩,
  λb xs e=>by rw[j6 (W3 e hn)];exact e,λb ob u e=>by rw[j6 (W3 e hn)];exact e,λb ps e=>⟨#[],by rw[j6 (W3 e hn),e];simp⟩⟩ (λb u e=>?_) I.bare λb hb=>?_
 .by_cases hb:b=a
  .subst hb;rw[v8]at e;cases e;exact new
  .rw[j6 hb]at e
   refine(I.hok b u e).stay (λc v hc q=>k c v ?_ q) (λc q=>by rw[j6 (W3 q hn)];exact q) (λc xs q=>by rw[j6 (W3 q hn)];exact q) λc ob xs q=>by rw[j6 (W3 q hn)];exact q
   rcases hc with z|z
   .rw[z];exact fF b u e
   .exact fF c _ z
 .obtain⟨_,f1,_,f3,f5,f6⟩:=hf b hb;exact⟨f3,f1,f5,f6⟩
def FZ(Sq:Hp->List V->Prop):It:=
 ⟨λi H=>∃xs x,Sq H xs/\xs[i]?=some x,λi H x H'=>∃p y,H p=none/\x = .ref p/\H'=upd H p (.tup [.int (i:Nat),y])/\∀xs,Sq H xs->xs[i]?=some y,λi H=>∃xs,Sq H xs/\xs.length=i⟩
structure vZ(P:Bw)(w:Cg)(K:A5)(a it:Av)(Sq:Hp->List V->Prop)(Sr:Cf->Array Aa->Prop)(gC:Nat->Cf->Prop):Prop where
 src:∀(X:Cx) aa U H s,X.K=K->a9 X aa U H s->∀xs,Sq H xs->∃its:List Aa,Y7 xs its/\Sr s.heap its.toArray
 inj:∀(X:Cx) aa U H s,X.K=K->a9 X aa U H s->∀xs ys,Sq H xs->Sq H ys->xs=ys
 draw:∀(A:C1) (items:Array Aa),A.handled=none->Draws P w A it [it,a] items.size (λi v=>items[i]?=some v) (λi h=>gC i h/\Sr h items)
 obj:∀i h,gC i h->∃o,h.get? it=some o/\∀v,o.data≠.cell v
 keep:∀i h h',gC i h->(∀o,h.get? it=some o->h'.get? it=some o)->gC i h'
 cls:∀h items,Sr h items->∃o,h.get? a=some o/\o.cls≠.type "enumerate"
def PD{P:Bw}{w:Cg}{K:A5}{dY:List Expr}{x1:Nat}{cX:Hq}{a it e:Av}{Sq:Hp->List V->Prop}{Sr:Cf->Array Aa->Prop}{gC:Nat->Cf->Prop}(D:vZ P w K a it Sq Sr gC)(hei:e≠it):
  p6 P w K (.Tuple dY x1 cX) (FZ Sq) [e,it] e (λi h=>(∃old,IsEnum h e it ((i:Nat):Int) old)/\gC i h) where
 mem:=by simp
 obj:=λi h st b hb=>by
  obtain⟨⟨old,he⟩,hi⟩:=st;rcases Ad.mp hb with z|z
  .subst z;exact⟨_,he,λv q=>by cases q⟩
  .rw[Ae.mp z];exact D.obj i h hi
 keep:=λi h h' st k=>by obtain⟨⟨old,he⟩,hi⟩:=st;exact⟨⟨old,k e (by simp) _ he⟩,D.keep i h h' hi λo q=>k it (by simp) o q⟩
 item:=by
  intro X hP hw hK hc i aa s U H E I hf st hg;subst hP hw;obtain⟨xs,x,hq,hx⟩:=hg;obtain⟨⟨old,he⟩,hi⟩:=st;obtain⟨its,rv,sr⟩:=D.src X aa U H s hK I xs hq;obtain⟨u,hu,ru⟩:=rv.get hx
  have am:i<its.toArray.size:=by rw[An];exact(B2.mp hu).1
  have hea:e≠a:=λz=>by obtain⟨o,h1,h2⟩:=D.cls _ _ sr;rw[<-z,he]at h1;cases h1;exact h2 rfl
  have hef:e∉[it,a]:=by simp[hei,hea]
  have heL:e<s.heap.objs.size:=Ao he;obtain⟨oi,jg,_⟩:=D.obj i _ hi;have hiL:it<s.heap.objs.size:=Ao jg;refine wpAny_pyNext_enum_itemD (D.draw X.A.in1 its.toArray (I.ok.hd hc)) he ⟨hi,sr⟩ am hei hef λv h1 tk hv ho hs hT hz hk=>?_
  have ev:v=u:=by
   have:its.toArray[i]?=some v:=hv
   rw[show its.toArray[i]?=its[i]? by simp,hu]at this;exact(Ba this).symm
  subst ev;refine⟨_,rfl,wpAny_letOwnedTupleGo_enum ho λh2 aZ bH=>?_⟩
  have kk:∀b ob,b∉[e,it]->s.heap.get? b=some ob->h2.get? b=some ob:=λb ob hb q=>by have n1:b≠e:=λz=>hb (by simp[z]);have n2:b≠it:=λz=>hb (by simp[z]);exact(bH.2 b n1).trans (hk b ob n1 n2 q)
  have hT2:h2.get? s.heap.objs.size=some { cls:=.type "tuple",data:=.seq #[.int i tk,v] }:=(bH.2 _ (D8 heL)).trans hT;refine⟨.ref s.heap.objs.size,upd H s.heap.objs.size (.tup [.int (i:Nat),x]),ZY (s:=s) (t':=tk+1) I kk hf (Aj _) ⟨by rw[Bs];simp,[.int i tk,v],.cons ⟨tk,rfl⟩ (.cons ru .nil),⟨_,hT2,rfl,⟨_,rfl⟩,rfl⟩⟩,rfl,⟨_,x,I.fresh,rfl,rfl,λys hy=>by rw[D.inj X aa U H s hK I ys xs hy hq];exact hx⟩,⟨⟨v,?_⟩,?_⟩,λb hb=>?_⟩
  .have:(((i+1:Nat):Nat):Int)=(i:Int)+1:=by omega
   rw[this];exact aZ
  .exact D.keep _ _ _ hs.1 λo q=>(bH.2 it (Ch hei)).trans q
  .have aI:b<s.heap.objs.size:=by
    rcases Ad.mp hb with z|z
    .rw[z];exact heL
    .rw[Ae.mp z];exact hiL
   rw[j6 (Aq aI)];exact(hf b hb).1
 done:=by
  intro X hP hw hK hc i aa s U H E I hf st hg;subst hP hw;obtain⟨xs,hq,hx⟩:=hg;obtain⟨⟨old,he⟩,hi⟩:=st;obtain⟨its,rv,sr⟩:=D.src X aa U H s hK I xs hq
  have hn:i=its.toArray.size:=by rw[An,<-rv.length,hx]
  obtain⟨f0,f1,f2,f3,f4,f5⟩:=hf it (by simp);refine wpAny_pyNext_enum_endD (D.draw X.A.in1 its.toArray (I.ok.hd hc)) he ⟨hn▸hi,sr⟩ λh' eb=>⟨rfl,I.turned (t':=s.toks) (λb o hb q=>eb b o hb q) f0 f1 f3 f4 f5⟩
 self:=λ_ _ _ _ _ st h=>by obtain⟨⟨old,he⟩,_⟩:=st;exact L5 he h
def Ya{P:Bw}{w:Cg}{K:A5}{a it:Av}(ah:a≠it):vZ P w K a it (λH xs=>i5 K H a xs) (λh items=>h.IsList a items) (λi h=>h.IsListIter it a i) where
 src:=λX aa U H s hK I xs hq=>by subst hK;obtain⟨its,rv,p,_⟩:=I.list hq;exact⟨its,rv,p.isList⟩
 inj:=λX aa U H s hK I xs ys h1 h2=>by subst hK;exact I.list_inj h1 h2
 draw:=λA items hh=>Draws.list hh it a ah items
 obj:=λi h st=>by obtain⟨o,e,c,d⟩:=st;exact⟨o,e,λv z=>by rw[d]at z;cases z⟩
 keep:=λi h h' st k=>by obtain⟨o,e,z⟩:=st;exact⟨o,k o e,z⟩
 cls:=λh items st=>by obtain⟨o,e,c,_⟩:=st;exact⟨o,e,by rw[c];decide⟩
def ϡ{P:Bw}{w:Cg}{K:A5}{a it:Av}(ah:a≠it):vZ P w K a it (λH xs=>i8 K H a xs) (λh items=>h.IsTuple a items) (λi h=>h.IsTupleIter it a i) where
 src:=λX aa U H s hK I xs hq=>by subst hK;obtain⟨its,rv,p,_⟩:=I.tuple hq;exact⟨its,rv,p⟩
 inj:=λX aa U H s hK I xs ys h1 h2=>by subst hK;exact I.tuple_inj h1 h2
 draw:=λA items hh=>Vi hh it a ah items
 obj:=λi h st=>by obtain⟨o,e,c,d⟩:=st;exact⟨o,e,λv z=>by rw[d]at z;cases z⟩
 keep:=λi h h' st k=>by obtain⟨o,e,z⟩:=st;exact⟨o,k o e,z⟩
 cls:=λh items st=>by obtain⟨o,e,c,_⟩:=st;exact⟨o,e,by rw[c];decide⟩
section
variable{X:Cx}{dY:List Expr}{x1:Nat}{cX pos p:Hq}{a:Expr}{f:ED}
def Ϸ(K:A5)(ta:TA):TI:=λU H R=>ta U H λvs H1=>∃a,vs=[.ref a]/\(∃xs,i5 K H1 a xs)/\R (FZ λH xs=>i5 K H a xs) H1
def ϸ(K:A5)(ta:TA):TI:=λU H R=>ta U H λvs H1=>∃a,vs=[.ref a]/\(∃xs,i8 K H1 a xs)/\R (FZ λH xs=>i8 K H a xs) H1
def ś{ta:TA}(hg:Gl X "enumerate")(hm:X.mg "enumerate" = none)(ha:PA X [a] ta)(hv:B5 "enumerate" = some (.type "enumerate"))(he:Ab [a] X.env=(false,Ce a X.env)::Ab [] X.env)(af:(C8 pos (Ab [] X.env)).any (·.1)=false):PI X (.Tuple dY x1 cX) (.Call (.Name "enumerate" p) [a] [] pos) (Ϸ X.K ta):=by
 intro aa s U H R I h;refine Call_ (oE I hg hm hv (Ee (kQ (ha pos aa s U H _ I h) λus s1 ⟨vs,H1,I1,r1,l,ev,⟨xs,hq⟩,q1⟩=>?_) he af));subst ev;obtain⟨u,rfl,ru⟩:=l9 r1;cases ru;obtain⟨its,rv,pl,_⟩:=I1.list hq;refine call_enumerate_list pl.isList λh' e1 e2 hz kk=>L5 e1 ?_;have I2:a9 X aa U H1 { s1 with heap:=h' }:=I1.kept (t':=s1.toks) kk
 have hll:l<s1.heap.objs.size:=by obtain⟨o,e,_⟩:=pl.isList;exact Ao e
 refine⟨s1.heap.objs.size+1,[s1.heap.objs.size+1,s1.heap.objs.size],_,_,H1,rfl,I2,PD (Ya (Aq hll)) (Nat.succ_ne_self _),⟨⟨_,e1⟩,e2⟩,λb hb=>?_,q1⟩
 have aI:s1.heap.objs.size<=b:=by
  rcases Ad.mp hb with z|z
  .rw[z];exact Em _
  .rw[Ae.mp z];exact Aj _
 exact I1.fpOk aI (I1.hok.fresh aI)
def Ŝ{ta:TA}(hg:Gl X "enumerate")(hm:X.mg "enumerate" = none)(ha:PA X [a] ta)(hv:B5 "enumerate" = some (.type "enumerate"))(he:Ab [a] X.env=(false,Ce a X.env)::Ab [] X.env)(af:(C8 pos (Ab [] X.env)).any (·.1)=false):PI X (.Tuple dY x1 cX) (.Call (.Name "enumerate" p) [a] [] pos) (ϸ X.K ta):=by
 intro aa s U H R I h;refine Call_ (oE I hg hm hv (Ee (kQ (ha pos aa s U H _ I h) λus s1 ⟨vs,H1,I1,r1,l,ev,⟨xs,hq⟩,q1⟩=>?_) he af));subst ev;obtain⟨u,rfl,ru⟩:=l9 r1;cases ru;obtain⟨its,rv,pl,_⟩:=I1.tuple hq;refine Wi (show s1.heap.IsTuple l its.toArray from pl) λh' e1 e2 kk=>L5 e1 ?_;have I2:a9 X aa U H1 { s1 with heap:=h' }:=I1.kept (t':=s1.toks) kk
 have hll:l<s1.heap.objs.size:=by obtain⟨o,e,_⟩:=id pl;exact Ao e
 refine⟨s1.heap.objs.size+1,[s1.heap.objs.size+1,s1.heap.objs.size],_,_,H1,rfl,I2,PD (ϡ (Aq hll)) (Nat.succ_ne_self _),⟨⟨_,e1⟩,e2⟩,λb hb=>?_,q1⟩
 have aI:s1.heap.objs.size<=b:=by
  rcases Ad.mp hb with z|z
  .rw[z];exact Em _
  .rw[Ae.mp z];exact Aj _
 exact I1.fpOk aI (I1.hok.fresh aI)
def lL:Nat->List D->List D
 |_,[]=>[]
 |k,d::ds=>.tup [.int (k:Int),d]::lL (k+1) ds
theorem Pc:∀(ds:List D) (k i:Nat),(lL k ds)[i]?=(ds[i]?).map λd=>.tup [.int ((k+i:Nat):Int),d]
 | [],k,i=>by simp[lL]
 |d::ds,k,0=>by simp[lL]
 |d::ds,k,i+1=>by rw[lL,Ec,Pc ds (k+1) i,Ec,show k+1+i=k+(i+1) by omega]
theorem KB:∀(ds:List D) (k:Nat),(lL k ds).length=ds.length
 | [],_=>rfl
 |d::ds,k=>by rw[lL,As,As,KB ds]
def PH{K:A5}{W0:Hp}{Sq:Hp->List V->Prop}{xs:List V}{ds:List D}(h1:∀H',j8 W0 H'->Sq H' xs)(h2:g9 K W0 ds xs):pZ K W0 (FZ Sq) (lL 0 ds) where
 go:=λH' s i hi=>by rw[KB]at hi;obtain⟨v,hv,_⟩:=h2.get (A4 hi);exact⟨xs,v,h1 H' s,hv⟩
 yld:=λH' s i x H3 hy=>by
  obtain⟨p,y,hp,rfl,rfl,hx⟩:=hy;refine⟨u9 hp,λd hd Z hz hs=>?_⟩;rw[Pc]at hd
  cases e:ds[i]? with
  |none=>rw[e]at hd;cases hd
  |some d0=>
   rw[e]at hd;cases hd;obtain⟨v,hv,rv⟩:=h2.get e
   have:=hx xs (h1 H' s)
   rw[hv]at this
   obtain rfl:=Ba this
   have sn:=u9 (o:=HO.tup [.int (i:Nat),v]) hp;refine j5.mpr ⟨p,[.int (i:Nat),v],rfl,i8.of ?_,g9.cons (v4.mpr (by simp)) (g9.one ((rv.mono hs).mono (x6 sn)))⟩;rw[Q4 (Sa hz hp)];exact v8
 stop:=λH' s=>⟨xs,h1 H' s,by rw[KB,h2.length]⟩
def rZ(f:ED):EL:=λY=>match f Y with|some (.lst ds)=>some (lL 0 ds)|some (.tup ds)=>some (lL 0 ds)|_=>none
def yX(hm:X.mg "enumerate" = none)(h:ZE X a f)(hg:Gl X "enumerate":=by rfl)(hv:B5 "enumerate" = some (.type "enumerate"):=by decide +kernel)(he:Ab [a] X.env=(false,Ce a X.env)::Ab [] X.env:=by exact u4 rfl)(af:(C8 pos (Ab [] X.env)).any (·.1)=false:=by exact J3 rfl):ZI X (.Tuple dY x1 cX) (.Call (.Name "enumerate" p) [a] [] pos) (rZ f):=
 ⟨have h:=h.h;
 sY (SJ (ś hg hm (J4 h Y8 he) hv he af) (Ŝ hg hm (J4 h Y8 he) hv he af)) λU H R h_=>by
  refine f7 h_ λY ds B H0 V0 Z e r q=>?_;unfold rZ at e;split at e
  .rename_i es he;cases e;refine .inl ⟨Y,_,B,H0,V0,Z,he,r,λv H' s rr=>?_⟩;obtain⟨l,xs,rfl,h1,h2⟩:=J6.mp rr;exact⟨l,rfl,⟨xs,x8.seq h1⟩,q _ H' s (PH (λiM bz=>bz.seq h1) h2)⟩
  .rename_i es he;cases e;refine .inr ⟨Y,_,B,H0,V0,Z,he,r,λv H' s rr=>?_⟩;obtain⟨l,xs,rfl,h1,h2⟩:=j5.mp rr;exact⟨l,rfl,⟨xs,j9 x8 h1⟩,q _ H' s (PH (λiM bz=>j9 bz h1) h2)⟩
  .cases e⟩
end
end L3
namespace L2
open PySem PySem.Spec PyProof.Rows
section
variable{κ:Type}[DecidableEq κ]
def lT(kvs:List (κ×V))(k:κ):Option V:=(kvs.find? λkv=>decide (kv.1=k)).map (·.2)
def lQ(kvs:List (κ×V))(k:κ)(v:V):List (κ×V):=if (kvs.any λkv=>decide (kv.1=k))=true then kvs.map (λkv=>if kv.1=k then (kv.1,v) else kv) else kvs++[(k,v)]
def yU{p:κ×V}{r:List (κ×V)}{k:κ}(e:p.1=k):lT (p::r) k=some p.2:=by simp[lT,Gn,e]
def yT{p:κ×V}{r:List (κ×V)}{k:κ}(e:¬p.1=k):lT (p::r) k=lT r k:=by simp[lT,Gn,e]
theorem OD(k:κ):∀kvs:List (κ×V),(kvs.any λkv=>decide (kv.1=k))=(lT kvs k).isSome
 | []=>rfl
 |p::r=>by
  rw[Ex];by_cases e:p.1=k
  .simp only[yU e,decide_eq_true e,Nj,Option.isSome_some]
  .rw[yT e,Y1 e,Li];exact OD k r
def CT(kvs:List (κ×V))(k:κ)(v:V):(lQ kvs k v).length<=kvs.length+1:=by
 unfold lQ;split
 .rw[A0];omega
 .rw[Ah,As,Dt];omega
theorem o9.isSome_eq(r:o9 o u):o.isSome=u.isSome:=by
 cases o with
 |none=>cases u with
  |none=>rfl
  |some _=>exact(show False from r).elim
 |some _=>cases u with
  |none=>exact(show False from r).elim
  |some _=>rfl
theorem o9.getD(r:o9 o u)(rd:e9 d d'):e9 (o.getD d) (u.getD d'):=by
 cases o with
 |none=>cases u with
  |none=>exact rd
  |some _=>exact(show False from r).elim
 |some _=>cases u with
  |none=>exact(show False from r).elim
  |some _=>exact r
theorem KV.val(r:KV kvs vs)(k:κ):o9 (lT kvs k) (Ms vs k):=by
 unfold KV at r
 induction r with
 |nil=>exact Gi
 | @cons p q ps qs h t ih=>
  obtain⟨h1,h2⟩:=h;by_cases e:p.1=k
  .have e':q.1=k:=h1.symm.trans e
   have b:Ms (q::qs) k=some q.2:=by simp[Ms,Gn,e']
   rw[yU e,b];exact h2
  .have e':¬q.1=k:=λz=>e (h1.trans z)
   have b:Ms (q::qs) k=Ms qs k:=by simp[Ms,Gn,e']
   rw[yT e,b];exact ih
theorem KV.any(r:KV kvs vs)(k:κ):(kvs.any λkv=>decide (kv.1=k))=vs.any λkv=>decide (kv.1=k):=by
 unfold KV at r
 induction r with
 |nil=>rfl
 |cons h t ih=>rw[Ex,Ex,ih,h.1]
theorem KV.repl(r:KV kvs vs)(k:κ)(ry:e9 y u):
  KV (kvs.map λkv=>if kv.1=k then (kv.1,y) else kv) (vs.map λkv=>if kv.1=k then (kv.1,u) else kv):=by
 unfold KV at r ⊢
 induction r with
 |nil=>exact .nil
 | @cons p q ps qs h t ih=>
  rw[Af,Af];refine .cons ?_ ih;obtain⟨h1,h2⟩:=h;by_cases e:p.1=k
  .rw[z7 e,z7 (h1.symm.trans e)];exact⟨h1,ry⟩
  .rw[y3 e,y3 (λz=>e (h1.trans z))];exact⟨h1,h2⟩
def KV.put(r:KV kvs vs)(k:κ)(ry:e9 y u):KV (lQ kvs k y) (stored vs k u):=by
 unfold lQ stored;rw[r.any k];by_cases e:(vs.any λkv=>decide (kv.1=k))=true
 .rw[z7 e,z7 e];exact r.repl k ry
 .rw[y3 e,y3 e];exact Kl.snoc r ⟨rfl,ry⟩
def KV.length{kvs:List (κ×V)}{vs:List (κ×Aa)}(r:KV kvs vs):kvs.length=vs.length:=Le r
end
theorem xM(r:e9 (kV k) u):(mM P w).is k u=true:=by
 cases k with
 |inl i=>obtain⟨t,e⟩:=(show ∃t,u=If i t from r);subst e;exact Vm P w i t
 |inr x=>obtain⟨t,e⟩:=(show ∃t,u=Mk x t from r);subst e;exact Vn P w x t
theorem Pj:∀{ks:List d3} {us:List Aa},Y7 (ks.map kV) us->ItemsAre (mM P w) ks us
 | [],_,r=>by rw[Gg]at r;cases r;exact .nil
 |k::ks,_,r=>by
  rw[Af]at r
  cases r with
  |cons h t=>exact .cons (xM h) (Pj t)
abbrev KT(H:Hp):List (List d3×V)->List (List d3×Av×Aa)->Prop:=Kl λp q=>p.1=q.1/\H q.2.1=some (.tup (p.1.map kV))/\e9 p.2 q.2.2
theorem KT.val(r:KT H kvs xs)(k:List d3):o9 (lT kvs k) ((Nu xs k).map (·.2)):=by
 induction r with
 |nil=>exact Gi
 | @cons p q ps qs h t ih=>
  obtain⟨h1,_,h2⟩:=h;by_cases e:p.1=k
  .have e':q.1=k:=h1.symm.trans e
   have b:Nu (q::qs) k=some q.2:=by simp[Nu,Gn,e']
   rw[yU e,b];exact h2
  .have e':¬q.1=k:=λz=>e (h1.trans z)
   have b:Nu (q::qs) k=Nu qs k:=by simp[Nu,Gn,e']
   rw[yT e,b];exact ih
theorem KT.repl(r:KT H kvs xs)(k:List d3)(ry:e9 y u):
  KT H (kvs.map λkv=>if kv.1=k then (kv.1,y) else kv) (xs.map (putAt k u)):=by
 induction r with
 |nil=>exact .nil
 | @cons p q ps qs h t ih=>
  rw[Af,Af];refine .cons ?_ ih;obtain⟨h1,h2,h3⟩:=h;unfold putAt;by_cases e:p.1=k
  .rw[z7 e,z7 (h1.symm.trans e)];exact⟨h1,h2,ry⟩
  .rw[y3 e,y3 (λz=>e (h1.trans z))];exact⟨h1,h2,h3⟩
def KT.put(r:KT H kvs xs)(k:List d3)(hb:H b=some (.tup (k.map kV)))(ry:e9 y u):
  KT H (lQ kvs k y) (storedH xs k b u):=by
 have e:(kvs.any λkv=>decide (kv.1=k))=(Nu xs k).isSome:=by rw[OD,(r.val k).isSome_eq,Fs]
 unfold lQ storedH;rw[e];by_cases q:(Nu xs k).isSome=true
 .rw[z7 q,z7 q];exact r.repl k ry
 .rw[y3 q,y3 q];exact Kl.snoc r ⟨rfl,hb,ry⟩
def KT.keeps{H H':Hp}(r:KT H kvs xs)(ht:∀b ys,H b=some (.tup ys)->H' b=some (.tup ys)):KT H' kvs xs:=Kl.mapP r λ_ _ z=>⟨z.1,ht _ _ z.2.1,z.2.2⟩
section
variable{P:Bw}{w:Cg}{H:Hp}{h:Cf}{a:Av}
def SX(ok:kR P w H h)(e:Rd H a u):kU P w H h a u:=e.ok ok
def xK(ok:kR P w H h)(e:Rd H a (.dK kvs)):kvs.length<=sizeLine/\(a==Fv)=false/\∃vs,KV kvs vs/\h.DictOf (mM P w) a vs:=show kU P w H h a (.dK kvs) from SX ok e
def vA(ok:kR P w H h)(e:H a=some (.dK kvs)):kvs.length<=sizeLine/\(a==Fv)=false/\∃vs,KV kvs vs/\h.DictOf (mM P w) a vs:=xK ok (.inl e)
def zP{ks:List d3}(ok:kR P w H h)(e:H a=some (.tup (ks.map kV))):(Ml (mM P w)).is h ks a:=by obtain⟨_,its,r,o,h1,h2,⟨n,h3⟩,_⟩:=(show kU P w H h a (.tup (ks.map kV)) from ok a _ e);exact⟨o,its.toArray,n,h1,h2,h3,by simpa using Pj r⟩
def AE(ok:kR P w H h)(e:Rd H a (.dT kvs)):kvs.length<=sizeLine/\(a==Fv)=false /\
  ∃xs,KT H kvs xs/\h.DictOfH (Ml (mM P w)) a xs:=by
 obtain⟨z,y,xs,r,o,es,ep,h1,h2,h3,h4,h5⟩:=(show kU P w H h a (.dT kvs) from SX ok e);refine⟨z,y,xs,r,o,es,ep,h1,h2,h3,h4,λx hx=>?_,h5⟩
 have all:∀{l:List (List d3×V)} {m:List (List d3×Av×Aa)},KT H l m->∀x∈m,(Ml (mM P w)).is h x.1 x.2.1:=by
  intro l m q
  induction q with
  |nil=>intro x hx;exact nomatch hx
  | @cons p q ps qs hq t ih=>
   intro x hx;rcases Ad.mp hx with e|hx
   .subst e;exact zP ok (by rw[<-hq.1];exact hq.2.1)
   .exact ih x hx
 exact all r x hx
def v0Q(ok:kR P w H h)(e:H a=some (.dT kvs)):kvs.length<=sizeLine/\(a==Fv)=false /\
  ∃xs,KT H kvs xs/\h.DictOfH (Ml (mM P w)) a xs:=AE ok (.inl e)
end
def nE(H:Hp)(a:Av)(y:V)(r:Option V):Prop:=(∃kvs k,Rd H a (.dK kvs)/\y=kV k/\r=lT kvs k)\/∃kvs k b,Rd H a (.dT kvs)/\y = .ref b/\H b=some (.tup (k.map kV))/\r=lT kvs k
def vH(H:Hp)(a:Av)(y v:V)(H':Hp):Prop:=
 (∃kvs k,H a=some (.dK kvs)/\y=kV k/\kvs.length<sizeLine/\H'=upd H a (.dK (lQ kvs k v))) \/
 ∃kvs k b,H a=some (.dT kvs)/\y = .ref b/\H b=some (.tup (k.map kV))/\kvs.length<sizeLine/\H'=upd H a (.dT (lQ kvs k v))
def nE.k{H:Hp}{a:Av}{kvs:List (d3×V)}{k:d3}(e:H a=some (.dK kvs)):nE H a (kV k) (lT kvs k):=.inl ⟨kvs,k,.inl e,rfl,rfl⟩
def nE.t{H:Hp}{a b:Av}{kvs:List (List d3×V)}{k:List d3}(e:H a=some (.dT kvs))(eb:H b=some (.tup (k.map kV))):nE H a (.ref b) (lT kvs k):=.inr ⟨kvs,k,b,.inl e,rfl,eb,rfl⟩
def vH.k{H:Hp}{a:Av}{kvs:List (d3×V)}{k:d3}{v:V}(e:H a=some (.dK kvs))(hl:kvs.length<sizeLine):vH H a (kV k) v (upd H a (.dK (lQ kvs k v))):=.inl ⟨kvs,k,e,rfl,hl,rfl⟩
def vH.t{H:Hp}{a b:Av}{kvs:List (List d3×V)}{k:List d3}{v:V}(e:H a=some (.dT kvs))(eb:H b=some (.tup (k.map kV)))(hl:kvs.length<sizeLine):
  vH H a (.ref b) v (upd H a (.dT (lQ kvs k v))):=.inr ⟨kvs,k,b,e,rfl,eb,hl,rfl⟩
section
variable{X:Cx}{aa:f8}{U:St}{H:Hp}{s:Ai}{a:Av}{y v:V}{u r:Aa}{o:Option V}{A:C1}{E:VP}
def a9.big(I:a9 X aa U H s):Fv<s.heap.objs.size:=by have h:D5<s.heap.objs.size:=(I.mod.glob.keeps I.bk).lt;exact Dp (by decide) h
def X6{Q:VP}(hu:A.units+1<D4)(I:a9 X aa U H s)(g:nE H a y (some v))(ry:e9 y u)(h:∀w' s',a9 X aa U H s'->e9 v w'->Q w' s'):
  Ap (B0 X.prog X.w) A (M0 (.ref a) u) Q E s:=by
 rcases g with⟨kvs,k,e,ey,l⟩|⟨kvs,k,b,e,ey,eb,l⟩
 .subst ey;obtain⟨z,hd,vs,aP,dd⟩:=xK I.hok e;obtain⟨w',hw,rw'⟩:=o9.some_of (v:=v) (o:=Ms vs k) (by rw[l];exact aP.val k)
  exact wpAny_getItem_of (xM ry) dd.mapOf hw (h w' _ (I.tok _) rw')
 .subst ey;cases (show u=D3 b from ry);obtain⟨z,hd,xs,aP,dd⟩:=AE I.hok e;obtain⟨w',hw,rw'⟩:=o9.some_of (v:=v) (o:=(Nu xs k).map (·.2)) (by rw[l];exact aP.val k)
  obtain⟨p,hp,fX⟩:=B9.mp hw;refine wpAny_getItem_heap (Ic hu) (zP I.hok eb) dd hp ?_;rw[fX];exact h w' _ (I.tok _) rw'
def ϶{Q:VP}(hu:A.units+1<D4)(I:a9 X aa U H s)(g:nE H a y o)(ry:e9 y u)(h:∀s',a9 X aa U H s'->Q (.bool o.isSome) s'):
  Ap (B0 X.prog X.w) A (Da .In u (.ref a)) Q E s:=by
 rcases g with⟨kvs,k,e,ey,l⟩|⟨kvs,k,b,e,ey,eb,l⟩
 .subst ey;obtain⟨z,hd,vs,aP,dd⟩:=xK I.hok e;refine wpAny_in_of (xM ry) hd dd.mapOf ?_;rw[<-(aP.val k).isSome_eq,<-l];exact h _ (I.tok _)
 .subst ey;cases (show u=D3 b from ry);obtain⟨z,hd,xs,aP,dd⟩:=AE I.hok e;refine wpAny_in_heap (Ic hu) (zP I.hok eb) hd dd ?_;have q:=(aP.val k).isSome_eq;rw[Fs]at q;rw[<-q,<-l];exact h _ (I.tok _)
def Â{Q:VP}(hu:A.units+1<D4)(I:a9 X aa U H s)(g:nE H a y o)(ry:e9 y u)(h:∀s',a9 X aa U H s'->Q (.bool (!o.isSome)) s'):
  Ap (B0 X.prog X.w) A (Da .NotIn u (.ref a)) Q E s:=by
 rcases g with⟨kvs,k,e,ey,l⟩|⟨kvs,k,b,e,ey,eb,l⟩
 .subst ey;obtain⟨z,hd,vs,aP,dd⟩:=xK I.hok e;refine wpAny_notIn_of (xM ry) hd dd.mapOf ?_;rw[<-(aP.val k).isSome_eq,<-l];exact h _ (I.tok _)
 .subst ey;cases (show u=D3 b from ry);obtain⟨z,hd,xs,aP,dd⟩:=AE I.hok e;refine wpAny_notIn_heap (Ic hu) (zP I.hok eb) hd dd ?_;have q:=(aP.val k).isSome_eq;rw[Fs]at q;rw[<-q,<-l];exact h _ (I.tok _)
def DP{t':Nat}(I:a9 X aa U H s)(mu:AY (H a))(hs:Dh a s.heap h')(he:∃q,h'.get? a=some q)(new:kU X.prog X.w (upd H a ob) h' a ob):
  a9 X aa U (upd H a ob) { s with heap:=h',toks:=t' }:=
 I.write (x:=a) (e:=a) mu (.inl rfl) (λb q hb z=>(hs.2 b hb).trans z) he new
def EJ{h':Cf}{kvs:List (d3×V)}(z:kvs.length<=sizeLine)(hd:(a==Fv)=false)(aP:KV kvs vs)(dd:h'.DictOf (mM P w) a vs):
  kU P w H' h' a (.dK kvs):=⟨z,hd,vs,aP,dd⟩
def X7{Q:Unit->Ai->Prop}(hu:A.units+1<D4)(I:a9 X aa U H s)(g:vH H a y v H')(ry:e9 y u)(rv:e9 v r)(h:∀s',a9 X aa U H' s'->Q () s'):
  Ap (B0 X.prog X.w) A (setItem (.ref a) u r) Q E s:=by
 rcases g with⟨kvs,k,e,ey,l,eH⟩|⟨kvs,k,b,e,ey,eb,l,eH⟩
 .subst ey eH;obtain⟨z,hd,vs,aP,dd⟩:=vA I.hok e
  have hz:vs.length<=sizeLine:=by rw[<-aP.length];exact z
  have hl:(lQ kvs k v).length<=sizeLine:=by have:=CT kvs k v;omega
  refine wpAny_setItem_pairs (hsz:=hz) (xM ry) dd λh' dq hs=>h _ ?_
  have he:∃q,h'.get? a=some q:=let ⟨q,_,_,hq,_⟩:=dq;⟨q,hq⟩
  exact DP I (by rw[e];exact Gi) hs he (EJ hl hd (aP.put k rv) dq)
 .subst ey eH;cases (show u=D3 b from ry);obtain⟨z,hd,xs,aP,dd⟩:=v0Q I.hok e
  have hz:xs.length<=sizeLine:=by rw[<-Le aP];exact z
  have hl:(lQ kvs k v).length<=sizeLine:=by have:=CT kvs k v;omega
  refine wpAny_setItem_heap (hsz:=hz) (Ic hu) (zP I.hok eb) dd λh' dq hs=>h _ ?_;obtain⟨q,es,ep,hq,h2,h3,h4,_,h5⟩:=dq;refine DP I (by rw[e];exact Gi) hs ⟨q,hq⟩ ⟨hl,hd,_,(aP.put k eb rv).keeps λc ys ec=>?_,q,es,ep,hq,h2,h3,h4,h5⟩
  rw[j6 (v0C ec e (λz=>nomatch z))];exact ec
end
section
variable{X:Cx}{aa:f8}{U:St}{H:Hp}{s:Ai}{a:Av}{kvs:List (d3×V)}{k:d3}{u:Aa}{A:C1}{E:VP}
def v0R{Q:VP}(I:a9 X aa U H s)(e:Rd H a (.dK kvs))(h:∀t s',a9 X aa U H s'->Q (.int kvs.length t) s'):Ap (B0 X.prog X.w) A (call (.builtin "len") [.ref a]) Q E s:=by
 obtain⟨z,hd,vs,aP,dd⟩:=xK I.hok e;refine call_len_dict hd dd (by rw[<-aP.length];rw[Bs]at z;omega) ?_
 rw[<-aP.length];exact h _ _ (I.tok _)
end
def AQ(i:Expr):Prop:=∀ov iv,Me i false ov iv=operate [ov,iv] (M0 ov iv)
def Rz{prog:Bw}{w:Cg}{A:C1}{E:VP}{s:Ai}{env:Nq}{value aL:Expr}{pos:Hq}{T id:String}{Q:VP}(hl:N6 (.type T) "__getitem__" = Cr (some (.builtin id)))(hs:AQ aL)(h:Ap (B0 prog w) A (Ce value env) (λo s₁=>Ap (B0 prog w) A (Ce aL env) (λi s₂=>s₂.TypeIs o T/\Ap (B0 prog w) A (M0 o i) Q E s₂) E s₁) E s):
  Ap (B0 prog w) A (Ce (.Subscript value aL pos) env) Q E s:=by
 refine O4 (Cn h (λo s₁ h₁=>Cn h₁ (λi s₂ h₂=>?_) λ_ _ x=>x) λ_ _ x=>x);obtain⟨hT,h₂⟩:=h₂;unfold Mw;refine A3 ?_;rw[getitemInPython_of_ne hT.not_modules];refine A3 (M8 hT hl ?_)
 have fin:Ap (B0 prog w) A (Me aL false o i) (λr s₃=>Ap (B0 prog w) A (letTemporaryGo value o r >>= λ_=>Cr r) Q E s₃) E s₂:=by rw[hs o i];exact wpAny_operating (Cn h₂ (λr s₃ h₃=>A3 (wpAny_letTemporaryGo (w6 h₃))) λ_ _ x=>x)
 first
  |exact w6 (A3 fin)
  |exact A3 (w6 (A3 fin))
  |exact A3 fin
def Vh(I:a9 X aa U H s)(g:nE H a y o):s.TypeIs (.ref a) "dict":=by
 rcases g with⟨kvs,k,e,_,_⟩|⟨kvs,k,b,e,_,_,_⟩
 .obtain⟨_,_,vs,_,dd⟩:=xK I.hok e;exact dd.typeIs
 .obtain⟨_,_,xs,_,dd⟩:=AE I.hok e;exact dd.typeIs
def ĥ(td ty:TE):TE:=λU H Q=>td U H λx H1=>ty U H1 λy H2=>∃a v,x = .ref a/\nE H2 a y (some v)/\Q v H2
def Uz(ty td:TE):TE:=λU H Q=>ty U H λy H1=>td U H1 λx H2=>∃a o,x = .ref a/\nE H2 a y o/\Q (.bl o.isSome) H2
def JA(ty td:TE):TE:=λU H Q=>ty U H λy H1=>td U H1 λx H2=>∃a o,x = .ref a/\nE H2 a y o/\Q (.bl (!o.isSome)) H2
def ğ(td ty tv:TE):TS:=λD U H=>tv U H λv H1=>td U H1 λx H2=>ty U H2 λy H3=>∃a H4,x = .ref a/\vH H3 a y v H4/\D.nx U H4
section
variable{X:Cx}{o i e value:Expr}{pos aU cX:Hq}{td ty tv:TE}
def Ü(hu:X.A.units+1<D4)(ho:PE X o td)(hi:PE X i ty)(hs:AQ i):PE X (.Subscript o i pos) (ĥ td ty):=by
 intro aa s U H Q I h;refine Rz PySem.F.slot_dict_getitem.lookup hs (jE (ho aa s U H _ I h) λu s1 x H1 I1 rx q1=>jE (hi aa s1 U H1 _ I1 q1) λiv s2 y H2 I2 ry ⟨a,v,ex,g,q2⟩=>?_);subst ex
 obtain rfl:u=D3 a:=rx
 exact⟨Vh I2 g,X6 hu I2 g ry λw' s3 I3 rw'=>⟨v,H2,I3,rw',q2⟩⟩
def ő(hu:X.A.units+1<D4)(hi:PE X i ty)(ho:PE X o td):PC X .In i o (Uz ty td):=by
 intro aa s U H Q I h;refine jE (hi aa s U H _ I h) λiv s1 y H1 I1 ry q1=>jE (ho aa s1 U H1 _ I1 q1) λu s2 x H2 I2 rx ⟨a,ov,ex,g,q2⟩=>?_;subst ex
 obtain rfl:u=D3 a:=rx
 exact ϶ hu I2 g ry λs3 I3=>⟨.bl ov.isSome,H2,I3,rfl,q2⟩
def Pr(hu:X.A.units+1<D4)(hi:PE X i ty)(ho:PE X o td):PC X .NotIn i o (JA ty td):=by
 intro aa s U H Q I h;refine jE (hi aa s U H _ I h) λiv s1 y H1 I1 ry q1=>jE (ho aa s1 U H1 _ I1 q1) λu s2 x H2 I2 rx ⟨a,ov,ex,g,q2⟩=>?_;subst ex
 obtain rfl:u=D3 a:=rx
 exact Â hu I2 g ry λs3 I3=>⟨.bl (!ov.isSome),H2,I3,rfl,q2⟩
def á(hu:X.A.units+1<D4)(ho:PE X o td)(hi:PE X i ty)(hv:PE X value tv)(hs:Ej value (some (.Subscript o i aU)) pos.line X.env=Cr false):
  PS X (.Assign [.Subscript o i aU] value pos) (ğ td ty tv):=by
 intro aa s U H D I h;refine wpAny_Assign_Subscript (jE (hv aa s U H _ I h) λr s1 v H1 I1 rv q1=>jE (ho aa s1 U H1 _ I1 q1) λu s2 x H2 I2 rx q2=>jE (hi aa s2 U H2 _ I2 q2) λiv s3 y H3 I3 ry ⟨a,H4,ex,g,q3⟩=>?_) hs;subst ex
 obtain rfl:u=D3 a:=rx
 exact X7 hu I3 g ry rv λs4 I4=>⟨U,H4,I4,q3⟩
end
def ϟ(h:Cf)(hb:Fv<h.objs.size):kU P w H (h.push { cls:=.type "dict",data:=.dict #[] }) h.objs.size (.dK []):=
 ⟨Bg _,beq_eq_false_iff_ne.mpr (Ch (Aq hb)),[],.nil,Cf.DictOf.new h⟩
def Ŵ:TE:=λ_ H Q=>∀p,H p=none->Q (.ref p) (upd H p (.dK []))
section
variable{X:Cx}{pos:Hq}
def Xe:PE X (.Dict [] [] pos) Ŵ:=λaa s U H Q I h=>wpAny_Dict_empty ⟨.ref s.heap.objs.size,_,I.laid (a:=s.heap.objs.size) (o:=.dK []) (t':=s.toks) (λ_ _ q=>A8 _ q) (Aj _) (ϟ s.heap I.big),rfl,h _ (I.hok.fresh (Aj _))⟩
end
end L2
namespace L3
open PySem PySem.Spec PyProof.Rows L2 PySem.SeqAt
def qX:D->Option d3
 | .int i=>some (.inl i)
 | .str x=>some (.inr x)
 |_=>none
def kF:List d3->List D->d3->Option D
 |k::ks,v::vs,j=>if k=j then some v else kF ks vs j
 |_,_,_=>none
def kP:List d3->List D->d3->D->List d3×List D
 |k::ks,v::vs,j,d=>if k=j then (k::ks,d::vs) else (k::(kP ks vs j d).1,v::(kP ks vs j d).2)
 |_,_,j,d=>([j],[d])
def nT:List (d3×V)->d3->V->List (d3×V)
 | [],j,d=>[(j,d)]
 |p::r,j,d=>if p.1=j then (p.1,d)::r else p::nT r j d
theorem BZ(j:d3)(d:V):∀kvs:List (d3×V),(kvs.map (·.1)).Nodup->lQ kvs j d=nT kvs j d
 | [],_=>rfl
 |p::r,hn=>by
  rw[Af,Bq]at hn;have ih:=BZ j d r hn.2;unfold nT;by_cases e:p.1=j
  .rw[z7 e];unfold lQ
   have ha:((p::r).any λkv=>decide (kv.1=j))=true:=by rw[Ex,K9 e,Nj]
   rw[z7 ha,Af,z7 e];congr 1
   have:∀kv∈r,(if kv.1=j then (kv.1,d) else kv)=kv:=λkv hkv=>y3 λz=>hn.1 (by rw[e,<-z];exact C3 hkv)
   exact(B4 this).trans (Io _)
  .rw[y3 e,<-ih];unfold lQ;rw[Ex,Y1 e,Li];by_cases h:(r.any λkv=>decide (kv.1=j))=true
   .rw[z7 h,z7 h,Af,y3 e]
   .rw[y3 h,y3 h];rfl
section
variable{K:A5}{H:Hp}
theorem R5:∀{kvs:List (d3×V)} {vs:List D} {j:d3} {d:D},g9 K H vs (kvs.map (·.2))->kF (kvs.map (·.1)) vs j=some d->∃v,lT kvs j=some v/\d8 K H d v
 | [],vs,j,d,_,e=>by cases vs<;>cases e
 |p::r,vs,j,d,h,e=>by
  cases vs with
  |nil=>cases e
  |cons x xs=>
   obtain⟨v,ws,e1,h1,h2⟩:=j7.mp h;rw[Af]at e1;cases e1;rw[Af]at e;unfold kF at e;by_cases z:p.1=j
   .rw[z7 z]at e;cases e;exact⟨_,yU z,h1⟩
   .rw[y3 z]at e;obtain⟨v,q1,q2⟩:=R5 h2 e;exact⟨v,by rw[yT z];exact q1,q2⟩
theorem zC:∀{kvs:List (d3×V)} {vs:List D} {j:d3},g9 K H vs (kvs.map (·.2))->(kF (kvs.map (·.1)) vs j).isSome=(lT kvs j).isSome
 | [],vs,j,_=>by cases vs<;>rfl
 |p::r,vs,j,h=>by
  cases vs with
  |nil=>cases K3.mp h
  |cons x xs=>
   obtain⟨v,ws,e1,h1,h2⟩:=j7.mp h;rw[Af]at e1;cases e1;rw[Af];unfold kF;by_cases z:p.1=j
   .rw[z7 z,yU z];rfl
   .rw[y3 z,yT z];exact zC h2
theorem DX:∀{kvs:List (d3×V)} {vs:List D} {j:d3} {d:D} {v:V},g9 K H vs (kvs.map (·.2))->d8 K H d v->(nT kvs j v).map (·.1)=(kP (kvs.map (·.1)) vs j d).1/\g9 K H (kP (kvs.map (·.1)) vs j d).2 ((nT kvs j v).map (·.2))
 | [],vs,j,d,v,h,hd=>by
  obtain rfl:vs=[]:=by cases vs with|nil=>rfl|cons _ _=>obtain⟨_,_,e,_⟩:=j7.mp h;cases e
  exact⟨rfl,g9.one hd⟩
 |p::r,vs,j,d,v,h,hd=>by
  cases vs with
  |nil=>cases K3.mp h
  |cons x xs=>
   obtain⟨y,ws,e1,h1,h2⟩:=j7.mp h;rw[Af]at e1;cases e1;rw[Af];unfold nT kP;by_cases z:p.1=j
   .rw[z7 z,z7 z];exact⟨rfl,g9.cons hd h2⟩
   .rw[y3 z,y3 z];obtain⟨q1,q2⟩:=DX (j:=j) (d:=d) (v:=v) h2 hd;exact⟨by rw[Af,q1],g9.cons h1 q2⟩
end
theorem wK{K:A5}{H:Hp}{d:D}{k:d3}{v:V}(e:qX d=some k)(h:d8 K H d v):v=kV k:=by
 cases d with
 |int i=>cases e;exact v4.mp h
 |str x=>cases e;exact Z4.mp h
 |_=>cases e
section
variable{X:Cx}{a b e o:Expr}{pos aU p:Hq}{f fa fb:ED}
def v06(h1:PT X e t1)(h2:PT X e t2):PT X e (λU H Q=>t1 U H Q\/t2 U H Q):=λaa s U H Q I h=>by
 rcases h with h|h
 .exact h1 aa s U H Q I h
 .exact h2 aa s U H Q I h
def sE{α:Type}(f g:K6->Option α):K6->Option α:=λY=>match f Y with|some d=>some d|none=>g Y
def T4(h1:vW X e ga)(h2:vW X e gb):vW X e (sE ga gb):=pH (v06 h1 h2) λU H Q h_=>by
 refine f7 h_ λY d B H0 V0 Z e r q=>?_;unfold sE at e;split at e
 .rename_i d' h;cases e;exact .inl ⟨Y,_,B,H0,V0,Z,h,r,q⟩
 .exact .inr ⟨Y,_,B,H0,V0,Z,e,r,q⟩
def rQ:AW X (.Dict [] [] pos) (λ_=>some ([],[])):=
 ⟨j3 Xe λU H Q ⟨Y,ds,B,H0,V0,Z,e,r,q⟩ p hp=>by
 cases e
 exact q p [] _ (u9 hp) hp v8 rfl g9.nil⟩
def nL(fa fb:ED):ED:=λY=>match fa Y with
 |some (.dct ks vs)=>(match fb Y with|some kd=>(match qX kd with|some k=>kF ks vs k|none=>none)|none=>none)
 |_=>none
def ò(hu:X.A.units+64<D4)(ho:SE X o fa)(hi:SE X a fb)(hs:AQ a:=by exact λ_ _=>rfl):SE X (.Subscript o a pos) (nL fa fb):=
 j3 (Ü (by omega) ho hi hs) λU H Q h_=>by
  refine f7 h_ λY d B H0 V0 Z e r q=>?_;unfold nL at e;split at e
  .rename_i ks vs ed;split at e
   .rename_i kd ek;split at e
    .rename_i k hk;refine⟨Y,_,B,H0,V0,Z,ed,r,λx H1 s1 r1=>⟨Y,kd,B,H0,V0,Z,ek,r.mono s1,λy H2 s2 r2=>?_⟩⟩;obtain⟨n,kvs,rfl,h1,h2,h3⟩:=l4.mp (r1.mono (x6 s2));subst h2;obtain⟨v,q1,q2⟩:=R5 h3 e
     obtain rfl:=wK hk r2
     refine⟨n,v,rfl,?_,q v H2 (s1.trans s2) q2⟩;rw[<-q1];exact nE.k (W8 h1).2
    .cases e
   .cases e
  .cases e
def pN(i:Nat):K6->Option (List d3×List D):=λY=>match Y[i]? with|some (some (.od ks vs))=>some (ks,vs)|_=>none
def uV{d:List d3×List D}(e:pN i Y=some d):Y[i]?=some (some (.od d.1 d.2)):=by
 unfold pN at e;split at e
 .rename_i h;cases e;exact h
 .cases e
def NE(i:Nat)(fb:ED):ED:=λY=>match pN i Y with
 |some d=>(match fb Y with|some kd=>(match qX kd with|some k=>kF d.1 d.2 k|none=>none)|none=>none)
 |_=>none
def sA(neg:Bool)(fb fa:ED):ED:=λY=>match fb Y with
 |some kd=>(match fa Y with|some (.dct ks vs)=>(match qX kd with|some k=>some (.bl (if neg then !(kF ks vs k).isSome else (kF ks vs k).isSome))|none=>none)|_=>none)
 |none=>none
def xI(neg:Bool)(fb:ED)(i:Nat):ED:=λY=>match fb Y with
 |some kd=>(match pN i Y with|some d=>(match qX kd with|some k=>some (.bl (if neg then !(kF d.1 d.2 k).isSome else (kF d.1 d.2 k).isSome))|none=>none)|_=>none)
 |none=>none
def Ã{K:A5}:∀U H Q,tD K (sA false fb fa) U H Q->Uz (tD K fb) (tD K fa) U H Q:=λU H Q h_=>by
 refine f7 h_ λY d B H0 V0 Z e r q=>?_;unfold sA at e;split at e
 .rename_i kd ek;split at e
  .rename_i ks vs ed;split at e
   .rename_i k hk;cases e;refine⟨Y,kd,B,H0,V0,Z,ek,r,λy H1 s1 r1=>⟨Y,_,B,H0,V0,Z,ed,r.mono s1,λx H2 s2 r2=>?_⟩⟩;obtain⟨n,kvs,rfl,h1,h2,h3⟩:=l4.mp r2;subst h2
    obtain rfl:=wK hk r1
    refine⟨n,lT kvs k,rfl,nE.k (W8 h1).2,?_⟩;rw[zC h3]at q;exact q _ H2 (s1.trans s2) (K4.mpr rfl)
   .cases e
  .cases e
 .cases e
def Ϡ{K:A5}:∀U H Q,tD K (sA true fb fa) U H Q->JA (tD K fb) (tD K fa) U H Q:=λU H Q h_=>by
 refine f7 h_ λY d B H0 V0 Z e r q=>?_;unfold sA at e;split at e
 .rename_i kd ek;split at e
  .rename_i ks vs ed;split at e
   .rename_i k hk;cases e;refine⟨Y,kd,B,H0,V0,Z,ek,r,λy H1 s1 r1=>⟨Y,_,B,H0,V0,Z,ed,r.mono s1,λx H2 s2 r2=>?_⟩⟩;obtain⟨n,kvs,rfl,h1,h2,h3⟩:=l4.mp r2;subst h2
    obtain rfl:=wK hk r1
    refine⟨n,lT kvs k,rfl,nE.k (W8 h1).2,?_⟩;rw[zC h3]at q;exact q _ H2 (s1.trans s2) (K4.mpr rfl)
   .cases e
  .cases e
 .cases e
def X9{K:A5}{i:Nat}:∀U H Q,tD K (xI true fb i) U H Q->JA (tD K fb) (FH i) U H Q:=λU H Q h_=>by
 refine f7 h_ λY d B H0 V0 Z e r q=>?_;unfold xI at e;split at e
 .rename_i kd ek;split at e
  .rename_i dd ed;split at e
   .rename_i k hk;cases e;obtain⟨n,kvs,h1,h2,hb,h3,h4,h5,h6⟩:=r.od i dd.1 dd.2 (uV ed);refine⟨Y,kd,B,H0,V0,Z,ek,r,λy H1 s1 r1=>⟨.ref n,h1,?_⟩⟩
    obtain rfl:=wK hk r1
    refine⟨n,lT kvs k,rfl,nE.k (s1 _ _ h4),?_⟩;rw[<-h5,zC h6]at q;exact q _ H1 s1 (K4.mpr rfl)
   .cases e
  .cases e
 .cases e
def Zi(i:Nat){x:Bf}(hu:X.A.units+64<D4)(hi:ZE X a fb)(hN:X.N[i]?=some x:=by rfl)(hv:mS X.env.scope x:=by first|exact E8 rfl|exact Db (E8 rfl)|exact Db (Db rfl))(hd:(x==("__debug__":Bf))=false:=by decide)(aT:(x==("__classdict__":Bf))=false:=by decide):ZT X (.Compare a [.NotIn] [.Name x p] pos) (v5 (xI true fb i)):=
 ⟨have hi:=hi.h;
 pH (LL (Pr (by omega) hi (nN hN hv hd aT)) rfl) λU H Q h=>X9 _ _ _ (tE U H Q h)⟩
def ϑ(hu:X.A.units+64<D4)(ha:ZE X a fb)(hb:ZE X b fa)(hm:Dd .In b=false:=by with_unfolding_all rfl):ZT X (.Compare a [.In] [b] pos) (sE (v5 (jX false fb (b9 fa))) (v5 (sA false fb fa))):=
 ⟨have ha:=ha.h;
 have hb:=hb.h;
 T4 (SZ hu ha (MV hb) hm) (pH (LL (ő (by omega) ha hb) hm) λU H Q h=>Ã _ _ _ (tE U H Q h))⟩
def XJ(hu:X.A.units+64<D4)(ha:ZE X a fb)(hb:ZE X b fa)(hm:Dd .NotIn b=false:=by with_unfolding_all rfl):ZT X (.Compare a [.NotIn] [b] pos) (sE (v5 (jX true fb (b9 fa))) (v5 (sA true fb fa))):=
 ⟨have ha:=ha.h;
 have hb:=hb.h;
 T4 (T1 hu ha (MV hb) hm) (pH (LL (Pr (by omega) ha hb) hm) λU H Q h=>Ϡ _ _ _ (tE U H Q h))⟩
def mQ(i:Nat)(fk fv:ED):EO:=λY=>match fv Y with
 |some v=>(match pN i Y with
  |some d=>(match fk Y with
   |some kd=>(match qX kd with|some k=>if d.1.Nodup/\d.1.length<d9 then some (.nx (Y.set i (some (.od (kP d.1 d.2 k v).1 (kP d.1 d.2 k v).2)))) else none|none=>none)
   |none=>none)
  |none=>none)
 |none=>none
def yI{i:Nat}{x:Bf}(hu:X.A.units+64<D4)(hi:ZE X a fb)(cM:ZE X b fa)(hN:X.N[i]?=some x:=by rfl)(hv:mS X.env.scope x:=by first|exact E8 rfl|exact Db (E8 rfl)|exact Db (Db rfl))(hd:(x==("__debug__":Bf))=false:=by decide)(aT:(x==("__classdict__":Bf))=false:=by decide)(hs:Ej b (some (.Subscript (.Name x p) a aU)) pos.line X.env=Cr false:=by rfl):ZS X (.Assign [.Subscript (.Name x p) a aU] b pos) (mQ i fb fa):=
 ⟨have hi:=hi.h;
 have cM:=cM.h;
 nA (á (by omega) (nN hN hv hd aT) hi cM hs) λE U H h_=>by
  refine f7 h_ λY o B H0 V0 Z e r q=>?_;unfold mQ at e;split at e
  .rename_i v ev;split at e
   .rename_i dd ed;split at e
    .rename_i kd ek;split at e
     .rename_i k hk;split at e
      .rename_i hz;cases e;obtain⟨n,kvs,h1,h2,hb,h3,h4,h5,h6⟩:=r.od i dd.1 dd.2 (uV ed);refine⟨Y,v,B,H0,V0,Z,ev,r,λy H1 s1 r1=>⟨.ref n,h1,Y,kd,B,H0,V0,Z,ek,r.mono s1,λz H2 s2 r2=>?_⟩⟩
       obtain rfl:=wK hk r2
       have ab:kvs.length<sizeLine:=by
        have:kvs.length=dd.1.length:=by rw[<-h5,A0]
        rw[this];exact EN (D7 hz.2)
       refine⟨n,_,rfl,vH.k (s2 _ _ (s1 _ _ h4)) ab,?_⟩;rw[BZ k y kvs (by rw[h5];exact hz.1)]
       have R2:=(r.mono s1).mono s2;obtain⟨p1,p2⟩:=DX (j:=k) (h6.mono (x6 (s1.trans s2))) (r1.mono (x6 s2));rw[h5]at p1 p2;exact q U _ Z (R2.updC (c:=.d dd.1 dd.2) (e:=.d (kP dd.1 dd.2 k v).1 (kP dd.1 dd.2 k v).2) (uV ed) h1 ⟨_,rfl,p1,p2⟩)
      .cases e
     .cases e
    .cases e
   .cases e
  .cases e⟩
end
section
variable{prog:Bw}{w:Cg}{A:C1}{E:VP}{s:Ai}{R:Lf->Ai->Prop}
def Kp(it S:Av)(h h':Cf):Prop:=∀b o,b≠it->b≠S->h.get? b=some o->h'.get? b=some o
def Kp.trans(a:Kp it S h h1)(b:Kp it S h1 h2):Kp it S h h2:=λc o n1 n2 e=>b c o n1 n2 (a c o n1 n2 e)
abbrev mmL:String->Nx->Cl:=(λ(f:String->Nx->Cl) (_:f "max" .Gt=Cl.«max.loop»)=>f) _ rfl
abbrev mmB:String->Cl:=(λ(f:String->Cl) (_:f "max" = Cl.max)=>f) _ rfl
structure MM(nm nl:String)(op:Nx):Prop where
 el:Nk table nl=some (mmL nm op)
 pl:plainId nl=true
 hn:(Kt nm++Kt ".loop":String)=nl
 k:builtinKind nm=none
 p:plainId nm=true
 e:Nk table nm=some (mmB nm)
 a:∀a b:Aa,Lj nm { pos:=[a,b] }
def v0F:MM "max" "max.loop" .Gt:=⟨F.entry_max_loop,F.plain_max_loop,by decide,F.kind_max,F.plain_max,F.entry_max,F.args_max2⟩
def v0E:MM "min" "min.loop" .Lt:=⟨F.entry_min_loop,F.plain_min_loop,by decide,F.kind_min,F.plain_min,F.entry_min,F.args_min2⟩
variable{nm nl:String}{op:Nx}
def Tz(M:MM nm nl op){it T S:Av}{u v x:Aa}{c:Nat}(hh:A.handled=none)(bc:s.heap.IsTupleIter it T 2)(ht:s.heap.IsTuple T #[u,v])(ah:S≠it)(hS:s.heap.get? S=some { cls:=.type "list",dict:=none,data:=.seq #[x,x] c,slots:=#[] })(hR:∀h',Kp it S s.heap h'->R (.ok (.ret x)) { s with heap:=h' }):Ew (B0 prog w) A (.builtin nl ⟨[.ref it,.none,.ref S],[]⟩) R s:=by
 refine codeAny_builtin M.el ?_;rw[C6 M.pl _];show Ap _ A.in1 (Jn (.ref S) >>= _) _ _ s;refine A3 (Ei hS rfl ?_);show Ap _ A.in1 (Ga (Ir (.ref it)) _ >>= _) _ _ s;refine A3 (E5 (Is hh bc ht (by simp) λh1 k1=>?_));have eA:=k1 S _ ah hS;show Ap _ A.in1 (Hi S (λ_=>#[]) >>= _) _ _ _;refine A3 (F2 eA rfl (A3 (Gf (w6 (hR _ λb o n1 n2 e=>?_)))))
 exact(Bo _ _ (Ch n2)).trans (k1 b o n1 e)
theorem ň(M:MM nm nl op){it T S:Av}{u v:Aa}{c:Nat}(hh:A.handled=none)(bc:s.heap.IsTupleIter it T 1)(ht:s.heap.IsTuple T #[u,v])(ah:S≠it)(hJ:T≠it)(hTS:T≠S)(hS:s.heap.get? S=some { cls:=.type "list",dict:=none,data:=.seq #[u,u] c,slots:=#[] })(hc:∀h' (Q:VP) (E:VP),Kp it S s.heap h'->Q (.bool bb) { s with heap:=h' }->Ap (B0 prog w) A.in1 (Gd op v u) Q E { s with heap:=h' })(hR:∀h',Kp it S s.heap h'->R (.ok (.ret (if bb=true then v else u))) { s with heap:=h' }):Ew (B0 prog w) A (.builtin nl ⟨[.ref it,.none,.ref S],[]⟩) R s:=by
 refine codeAny_builtin M.el ?_;rw[C6 M.pl _];show Ap _ A.in1 (Jn (.ref S) >>= _) _ _ s;refine A3 (Ei hS rfl ?_);show Ap _ A.in1 (Ga (Ir (.ref it)) _ >>= _) _ _ s;refine A3 (E5 (G6 bc ht (x:=v) (by simp) λh1 i1 k1=>?_));have hU:Kp it S s.heap h1:=λb o n1 _ e=>(k1.2 b n1).trans e;have eA:=(k1.2 S ah).trans hS
 have hT1:h1.IsTuple T #[u,v]:=ht.extBut k1.extBut hJ;show Ap _ A.in1 (Ga (Hd [v,v] (Gd op v u >>= _)) _ >>= _) _ _ _;refine A3 (E5 (Cp (A3 (hc h1 _ _ hU ?_))));refine A3 (Cp (De (A3 (Gf (w6 ?_)))))
 cases bb with
 |true=>
  simp only[if_true];refine A3 (F2 eA rfl (A3 (Gf ?_)));rw[M.hn];refine w6 ⟨plainId_quiet M.pl _,Tz M (u:=u) (v:=v) (T:=T) hh ?_ ?_ ah (D6 _ eA rfl) λh2 k2=>hR h2 (hU.trans (Kp.trans (λb o n1 n2 e=>(Bo _ _ (Ch n2)).trans e) k2))⟩
  .obtain⟨o,e,z⟩:=i1;exact⟨o,(Bo _ _ ah).trans e,z⟩
  .obtain⟨o,e,z⟩:=hT1;exact⟨o,(Bo _ _ (Ch hTS)).trans e,z⟩
 |false=>simp only[Bj,if_false];refine A3 (Gf ?_);rw[M.hn];exact w6 ⟨plainId_quiet M.pl _,Tz M (u:=u) (v:=v) hh i1 hT1 ah eA λh2 k2=>hR h2 (hU.trans k2)⟩
def Ň(M:MM nm nl op){it T S:Av}{u v:Aa}{c:Nat}(hh:A.handled=none)(bc:s.heap.IsTupleIter it T 0)(ht:s.heap.IsTuple T #[u,v])(ah:S≠it)(hJ:T≠it)(hTS:T≠S)(hS:s.heap.get? S=some { cls:=.type "list",dict:=none,data:=.seq #[] c,slots:=#[] })(hc:∀h' (Q:VP) (E:VP),Kp it S s.heap h'->Q (.bool bb) { s with heap:=h' }->Ap (B0 prog w) A.in1 (Gd op v u) Q E { s with heap:=h' })(hR:∀h',Kp it S s.heap h'->R (.ok (.ret (if bb=true then v else u))) { s with heap:=h' }):Ew (B0 prog w) A (.builtin nl ⟨[.ref it,.none,.ref S],[]⟩) R s:=by
 refine codeAny_builtin M.el ?_;rw[C6 M.pl _];show Ap _ A.in1 (Jn (.ref S) >>= _) _ _ s;refine A3 (Ei hS rfl ?_);show Ap _ A.in1 (Ga (Ir (.ref it)) _ >>= _) _ _ s;refine A3 (E5 (G6 bc ht (x:=u) (by simp) λh1 i1 k1=>?_));have hU:Kp it S s.heap h1:=λb o n1 _ e=>(k1.2 b n1).trans e;have eA:=(k1.2 S ah).trans hS
 have hT1:h1.IsTuple T #[u,v]:=ht.extBut k1.extBut hJ;show Ap _ A.in1 (Hi S (λ_=>#[u,u]) >>= _) _ _ _;refine A3 (F2 eA rfl ?_);rw[M.hn];have ku:Kp it S h1 _:=λb o n1 n2 e=>(Bo h1 (Ct λ_=>#[u,u]) (Ch n2)).trans e;refine w6 ⟨plainId_quiet M.pl _,ň M (u:=u) (v:=v) (T:=T) (bb:=bb) hh ?_ ?_ ah hJ hTS (D6 _ eA rfl) (λh' Q E k q=>hc h' Q E (hU.trans (ku.trans k)) q) λh2 k2=>hR h2 (hU.trans (ku.trans k2))⟩
 .obtain⟨o,e,z⟩:=i1;exact⟨o,(Bo _ _ ah).trans e,z⟩
 .obtain⟨o,e,z⟩:=hT1;exact⟨o,(Bo _ _ (Ch hTS)).trans e,z⟩
def TC(M:MM nm nl op){Q:VP}(hh:A.handled=none)(hc:∀h' (Q:VP) (E:VP),(∀b o,s.heap.get? b=some o->h'.get? b=some o)->Q (.bool bb) { s with heap:=h' }->Ap (B0 prog w) A.in1 (Gd op v u) Q E { s with heap:=h' })(hQ:∀h',(∀b o,s.heap.get? b=some o->h'.get? b=some o)->Q (if bb=true then v else u) { s with heap:=h' }):Ap (B0 prog w) A (call (.builtin nm) [u,v]) Q E s:=by
 refine call_function_tree M.k M.p M.e (M.a _ _) ?_;show Ap _ A.in1 (C7 nm ["key","default"] 0 ⟨[],[]⟩ >>= _) _ _ s;refine A3 (Ey (show C7 nm ["key","default"] 0 ⟨[],[]⟩=Cr [none,none] from rfl) ?_);show Ap _ A.in1 (Oa [u,v] >>= _) _ _ s;refine A3 (Cb ?_);generalize h1e:s.heap.push { cls:=Cm "tuple",data:=Ju #[u,v] }=h1
 have k1:∀b o,s.heap.get? b=some o->h1.get? b=some o:=λb o e=>by rw[<-h1e];exact A8 _ e
 have t1:h1.IsTuple s.heap.objs.size #[u,v]:=by rw[<-h1e];exact⟨_,Ar _ rfl,rfl,_,rfl⟩
 have z1:h1.objs.size=s.heap.objs.size+1:=by rw[<-h1e,Dr]
 refine A3 (Ep (s:={ s with heap:=h1 }) t1 (A3 (Cb ?_)));generalize h2e:(h1.push { cls:=Cm "tuple_iterator",data:=Data.fields #[.ref s.heap.objs.size,.int 0 0] })=h2
 have k2:∀b o,h1.get? b=some o->h2.get? b=some o:=λb o e=>by rw[<-h2e];exact A8 _ e
 have i2:h2.IsTupleIter h1.objs.size s.heap.objs.size 0:=by rw[<-h2e];exact⟨_,Ar _ rfl,rfl,rfl⟩
 have z2:h2.objs.size=h1.objs.size+1:=by rw[<-h2e,Dr]
 rw[M.hn]
 have hs0:s.heap.objs.size<h1.objs.size:=by rw[z1];exact Dy _
 have fA:h1.objs.size<h2.objs.size:=by rw[z2];exact Dy _
 have k3:∀b o,h2.get? b=some o->(h2.push { cls:=Cm "list",data:=Ju ([]:List Aa).toArray }).get? b=some o:=λb o e=>A8 _ e
 have all:∀{h'},Kp h1.objs.size h2.objs.size (h2.push { cls:=Cm "list",data:=Ju ([]:List Aa).toArray }) h'->∀b o,s.heap.get? b=some o->h'.get? b=some o:=λ{h'} k b o e=>k b o (Aq (Dp (Ao e) hs0)) (Aq (Dp (Ao e) (Dp hs0 fA))) (k3 b o (k2 b o (k1 b o e)))
 refine w6 ⟨plainId_quiet M.pl _,Ň M (u:=u) (v:=v) (T:=s.heap.objs.size) (bb:=bb) (s:={ s with heap:=h2.push { cls:=Cm "list",data:=Ju ([]:List Aa).toArray } }) hh ?_ ?_ (D8 fA) (Aq hs0) (Aq (Dp hs0 fA)) (Ar _ rfl) (λh' Q E k q=>hc h' Q E (all k) q) λh' k=>hQ h' (all k)⟩
 .obtain⟨o,e,z⟩:=i2;exact⟨o,k3 _ _ e,z⟩
 .obtain⟨o,e,z⟩:=t1;exact⟨o,k3 _ _ (k2 _ _ e),z⟩
end
section
open HT
def Ot(A:C1)(s:Ai)(a:Int)(t:Tok)(c:Int)(u:Tok)(prog:Bw)(w:Cg)(E:VP)(Q:VP)(h:Q (.bool (decide (c<a))) s):
  Ap (B0 prog w) A (Gd .Gt (.int a t) (.int c u)) Q E s:=
 (PyProof.Rows.gt_int h:Ap (B0 prog w) A (Da .Gt (.int a t) (.int c u)) Q E s)
open PySem.SeqAt
open PySem.AutoSeq1 (wpAny_loadPart')
open PySem.MeetsSeq PySem.MeetsSeq2 PySem.MeetsSeq3
def Wx(l b:Av)(items ao:Array Aa)(n n2:Nat)(dd cK:Option Av)(sl cO:Array (Option Aa))(ns ms:List Int)(hi:Ci items.toList ns)(hj:Ci ao.toList ms):
  O2 (Cl.«tuple.__gt__» ⟨[.ref l,.ref b],[]⟩)
   (λ_ R s=>s.heap.get? l=some { cls:=.type "tuple",dict:=dd,data:=.seq items n,slots:=sl }/\s.heap.get? b=some { cls:=.type "tuple",dict:=cK,data:=.seq ao n2,slots:=cO } /\
    R (.ok (.ret (.bool (lexLt ms ns)))) s):=
 .of_wp λprog w A R s h=>by
  obtain⟨hp,g,d,tk,os⟩:=s;obtain⟨hl,hb,h⟩:=h;have f2:=AutoSeq1.sub_tuple_tuple
  have z1:items.size=ns.length:=by rw[<-hi.length];simp
  have z2:ao.size=ms.length:=by rw[<-hj.length];simp
  wp_walk using Gm hl,Gm hb,G7 _ (λrest b s'=>b.1=none/\s'=⟨hp,g,d,tk,os⟩/\∃(vs ws:List Aa) (bK aQ:List Int),rest=vs.zip ws /\
   Ci vs bK/\Ci ws aQ/\bK.length+ao.size=aQ.length+items.size/\R (.ok (.ret (.bool (lexLt aQ bK)))) ⟨hp,g,d,tk,os⟩) _
  case turn=>
   rintro ⟨y,x⟩ rest b s' ⟨aI,rfl,vs,ws,bK,aQ,hz,gq,eS,ab,hR⟩
   cases gq with
   |nil=>rw[List.zip_nil_left]at hz;cases hz
   |cons a t hvi'=>
    cases eS with
    |nil=>rw[Kn]at hz;cases hz
    |cons c u hwi'=>
     rw[Et]at hz;injection hz with hyx bO;injection hyx with hy hx;subst hy hx;rw[lexLt_cons]at hR;simp only[As]at ab;obtain⟨e,he,dF⟩:=RM A.in1 ⟨hp,g,d,tk,os⟩ a t c u;refine A3 (he prog w _ _ ?_)
     cases e with
     |true=>
      rw[z7 (dF.mp rfl).symm]at hR
      wp_walk
      exact⟨rfl,rfl,_,_,_,_,bO,hvi',hwi',by omega,hR⟩
     |false=>
      rw[y3 (λq=>w9 (dF.mpr q.symm) B3)]at hR;have hri:=Ot A.in1 ⟨hp,g,d,tk,os⟩ a t c u prog w
      wp_walk using hri
      exact⟨_,rfl,by simpa using hR⟩
  case fin=>
   rintro ⟨b1,b2⟩ s' ⟨aI,rfl,vs,ws,bK,aQ,hz,gq,eS,ab,hR⟩;simp only at aI;subst aI
   have hv:lexLt aQ bK=decide (ao.size<items.size):=by
    cases gq with
    |nil=>
     cases eS with
     |nil=>simp only[Dt]at ab;rw[lexLt_nil_nil];exact(Y1 (by omega)).symm
     |cons c u hw=>simp only[Dt,As]at ab;rw[Oh];exact(Y1 (by omega)).symm
    |cons a t hv=>
     cases eS with
     |nil=>simp only[Dt,As]at ab;rw[Oi];exact(K9 (by omega)).symm
     |cons c u hw=>rw[Et]at hz;cases hz
   rw[hv]at hR
   wp_walk
   exact⟨_,rfl,by simpa [Cl.Tuple.tupleCompareSizes] using hR⟩
  case h=>exact⟨rfl,rfl,items.toList,ao.toList,ns,ms,rfl,hi,hj,by omega,h⟩
end
section
variable{prog:Bw}{w:Cg}{A:C1}{E:VP}{s:Ai}
def PX{Q:VP}(hl:Na s.heap l items)(hb:Na s.heap b ao)(hi:Ci items.toList ns)(hj:Ci ao.toList ms)(hu:A.units<D4)(h:Q (.bool (HT.lexLt ms ns)) s):Ap (B0 prog w) A (Gd .Gt (.ref l) (.ref b)) Q E s:=by
 rcases id hl with⟨⟨cls,dd,data,sl⟩,ho,hc,n,hd⟩;rcases id hb with⟨⟨fm,cK,data2,cO⟩,cp,aX,n2,bB⟩;simp only at hc hd aX bB;subst hc hd aX bB
 exact richCompare_meets_room (op:=.Gt) ⟨_,ho,rfl⟩ ⟨_,cp,rfl⟩ PySem.F.slot_tuple_gt PySem.F.entry_tuple_gt (PySem.F.args_tuple_gt_2 _ _) (Wx l b items ao n n2 dd cK sl cO ns ms hi hj)
  ⟨ho,cp,show N2 (HT.lexLt ms ns)≠Js/\Q (.bool (HT.lexLt ms ns)) s from ⟨(λx=>nomatch x),h⟩⟩ hu
end
section
variable{X:Cx}{a b:Expr}{fa fb:ED}{p pos:Hq}
def TR(K:A5):List V->Hp->VK->Prop:=λxs H Q=>∃a b ns ms,xs=[.ref a,.ref b]/\i8 K H a (ns.map V.int)/\i8 K H b (ms.map V.int)/\Q (if HT.lexLt ns ms=true then .ref b else .ref a) H
def TU(K:A5):List V->Hp->VK->Prop:=λxs H Q=>∃a b ns ms,xs=[.ref a,.ref b]/\i8 K H a (ns.map V.int)/\i8 K H b (ms.map V.int)/\Q (if HT.lexLt ms ns=true then .ref b else .ref a) H
def ZH(hc:X.calm=true)(hu:X.A.units+64<D4):kT X (.builtin "max") (TR X.K):=by
 intro aa s U H xs us Q I r h;obtain⟨a,b,ns,ms,rfl,ha,hb,q⟩:=h;obtain⟨u,v,rfl,ru,rv⟩:=AM r;cases ru;cases rv;refine TC v0F (bb:=HT.lexLt ns ms) (I.ok.hd hc) (λh' Q' E' k q'=>?_) λh' k=>?_
 .have I':a9 X aa U H { s with heap:=h' }:=I.kept (t':=s.toks) k;obtain⟨its,r1,p1,_⟩:=I'.tuple ha;obtain⟨aq,r2,p2,_⟩:=I'.tuple hb;exact PX (s:={ s with heap:=h' }) p2 p1 (show Ci aq.toArray.toList ms from W4 r2) (show Ci its.toArray.toList ns from W4 r1) (by show X.A.units+1<D4;omega) q'
 .refine⟨_,H,I.kept (t':=s.toks) k,?_,q⟩
  split<;>rfl
def ZL(hc:X.calm=true)(hu:X.A.units+64<D4):kT X (.builtin "min") (TU X.K):=by
 intro aa s U H xs us Q I r h;obtain⟨a,b,ns,ms,rfl,ha,hb,q⟩:=h;obtain⟨u,v,rfl,ru,rv⟩:=AM r;cases ru;cases rv;refine TC v0E (bb:=HT.lexLt ms ns) (I.ok.hd hc) (λh' Q' E' k q'=>?_) λh' k=>?_
 .have I':a9 X aa U H { s with heap:=h' }:=I.kept (t':=s.toks) k;obtain⟨its,r1,p1,_⟩:=I'.tuple ha;obtain⟨aq,r2,p2,_⟩:=I'.tuple hb
  have:=HT.lt_tupInts (prog:=X.prog) (w:=X.w) (A:=X.A.in1) (E:=E') (Q:=Q') (s:={ s with heap:=h' }) p2 p1 (show Ci aq.toArray.toList ms from W4 r2) (show Ci its.toArray.toList ns from W4 r1) (by show X.A.units+1<D4;omega) q'
  exact this
 .refine⟨_,H,I.kept (t':=s.toks) k,?_,q⟩
  split<;>rfl
def AG:D->Option (List Int)
 | .tup ds=>Z6 ds
 |_=>none
def LY:LD:=λds=>match ds with|[x,y]=>(match AG x,AG y with|some ns,some ms=>some (if HT.lexLt ns ms=true then y else x)|_,_=>none)|_=>none
def MA:LD:=λds=>match ds with|[x,y]=>(match AG x,AG y with|some ns,some ms=>some (if HT.lexLt ms ns=true then y else x)|_,_=>none)|_=>none
theorem CJ{K:A5}{H:Hp}{d:D}{ns:List Int}{v:V}(e:AG d=some ns)(h:d8 K H d v):∃a,v = .ref a/\i8 K H a (ns.map V.int):=by
 cases d with
 |tup ds=>have e':Z6 ds=some ns:=e;obtain⟨a,xs,rfl,h1,h2⟩:=j5.mp h;rw[Z9 e',Y2]at h2;subst h2;exact⟨a,rfl,h1⟩
 |_=>cases e
def ì{K:A5}:pE K (TR K) LY:=by
 intro ds d e Z H vs Q zs rr q;unfold LY at e;split at e
 .rename_i x y;split at e
  .rename_i ns ms e1 e2;cases e;obtain⟨u,v,rfl,h1,h2⟩:=BM rr;obtain⟨a,rfl,g1⟩:=CJ e1 h1;obtain⟨b,rfl,g2⟩:=CJ e2 h2;refine⟨a,b,ns,ms,rfl,j9 x8 g1,j9 x8 g2,q _ H (j8.refl H) ?_⟩;split
   .exact h2
   .exact h1
  .cases e
 .cases e
def í{K:A5}:pE K (TU K) MA:=by
 intro ds d e Z H vs Q zs rr q;unfold MA at e;split at e
 .rename_i x y;split at e
  .rename_i ns ms e1 e2;cases e;obtain⟨u,v,rfl,h1,h2⟩:=BM rr;obtain⟨a,rfl,g1⟩:=CJ e1 h1;obtain⟨b,rfl,g2⟩:=CJ e2 h2;refine⟨a,b,ns,ms,rfl,j9 x8 g1,j9 x8 g2,q _ H (j8.refl H) ?_⟩;split
   .exact h2
   .exact h1
  .cases e
 .cases e
def pE.or{K:A5}{r r':List V->Hp->VK->Prop}{F F':LD}(h:pE K r F)(h':pE K r' F'):pE K (λxs H Q=>r xs H Q\/r' xs H Q) (λds=>match F ds with|some d=>some d|none=>F' ds):=by
 intro ds d e Z H vs Q zs rr q;dsimp only at e;split at e
 .rename_i d' hd;cases e;exact .inl (h ds d hd Z H vs Q zs rr q)
 .exact .inr (h' ds d e Z H vs Q zs rr q)
def LX:LD:=λds=>match t8 ds with|some d=>some d|none=>LY ds
def LZ:LD:=λds=>match qW ds with|some d=>some d|none=>MA ds
def XE(hc:X.calm=true)(hu:X.A.units+64<D4)(hm:X.mg "max" = none)(ha:ZE X a fa)(hb:ZE X b fb)(hg:Gl X "max":=by rfl)(hv:B5 "max" = some (.builtin "max"):=by decide +kernel)(he:Ab [a,b] X.env=(false,Ce a X.env)::Ab [b] X.env:=by exact u4 rfl)(aZ:Ab [b] X.env=(false,Ce b X.env)::Ab [] X.env:=by exact u4 rfl)(af:(C8 pos (Ab [b] X.env)).any (·.1)=false:=by exact J3 rfl):ZE X (.Call (.Name "max" p) [a,b] [] pos) (x5 LX (y9 fa (y9 fb i3))):=
 ⟨have ha:=ha.h;
 have hb:=hb.h;
 BN ((OW hc).or (ZH hc hu)) (TW.or ì) hm hv (qF ha (qF hb xF aZ) he) hg (by decide) (by decide) he af⟩
def XF(hc:X.calm=true)(hu:X.A.units+64<D4)(hm:X.mg "min" = none)(ha:ZE X a fa)(hb:ZE X b fb)(hg:Gl X "min":=by rfl)(hv:B5 "min" = some (.builtin "min"):=by decide +kernel)(he:Ab [a,b] X.env=(false,Ce a X.env)::Ab [b] X.env:=by exact u4 rfl)(aZ:Ab [b] X.env=(false,Ce b X.env)::Ab [] X.env:=by exact u4 rfl)(af:(C8 pos (Ab [b] X.env)).any (·.1)=false:=by exact J3 rfl):ZE X (.Call (.Name "min" p) [a,b] [] pos) (x5 LZ (y9 fa (y9 fb i3))):=
 ⟨have ha:=ha.h;
 have hb:=hb.h;
 BN ((OY hc).or (ZL hc hu)) (TX.or í) hm hv (qF ha (qF hb xF aZ) he) hg (by decide) (by decide) he af⟩
def v01(K:A5)(nm:Bool):List V->Hp->VK->Prop:=λxs H Q=>∃a n ns,xs=[.ref a]/\i5 K H a ((n::ns).map V.int)/\∀m,m∈(n::ns)->(∀x∈(n::ns),if nm=true then x<=m else m<=x)->Q (.int m) H
def X1(hc:X.calm=true):kT X (.builtin "min") (v01 X.K false):=by
 intro aa s U H xs us Q I r h;obtain⟨a,n,ns,rfl,ha,q⟩:=h;obtain⟨u,rfl,ru⟩:=l9 r;cases ru;obtain⟨its,r1,p1,_⟩:=I.list ha;have i1:Ci its (n::ns):=W4 r1;obtain⟨zs,e⟩:=i1.allInts.items
 have bQ:(n::ns)=zs.toList.map (·.1):=by rw[<-i1.numsOf,<-nums_intItems,<-e]
 have hsz:0<zs.size:=by
  have:=lD Ih bQ
  rw[A0,Au]at this;simp at this;omega
 have hl:=p1.isList;rw[e]at hl;refine min_intList (I.ok.hd hc) hl hsz λv h' tk hv hk=>?_;obtain⟨t,rfl⟩:=intItems_at hv;obtain⟨h1,h2⟩:=argBest_lt (numAt zs) (zs.size-1);refine⟨.int _,H,I.kept hk,⟨t,rfl⟩,q _ ?_ λx hx=>?_⟩
 .rw[bQ,numAt_eq];exact getD_mem (by rw[A0,Au];omega)
 .rw[bQ]at hx;obtain⟨j,hj,rfl⟩:=mem_getD hx;rw[A0,Au]at hj;rw[y3 B3,<-numAt_eq];exact h2 j (by omega)
end
def qZ(l:Av)(items:Array Aa)(n:Nat)(dd:Option Av)(sl:Array (Option Aa))(x:Aa)(e:Aa->Bool)(j:Nat)(hj:j<items.size)(bc:e items[j]=true)(bG:∀m (hm:m<items.size),m<j->e items[m]=false):
  O2 (Cl.«tuple.index» ⟨[.ref l,x],[]⟩)
   (λA R s=>s.heap.get? l=some { cls:=.type "tuple",dict:=dd,data:=.seq items n,slots:=sl }/\(∀y,y∈items->G9 A.in1 s y x (e y))/\R (.ok (.ret (.int j s.toks))) { s with toks:=s.toks+1 }):=
 .of_wp λprog w A R s h=>by
  obtain⟨hp,g,d,tk,os⟩:=s;obtain⟨hl,he,h⟩:=h
  wp_walk using Fy hl
  change Ap _ _ (forIn [:Jq items.size items.size] (none,()) (λ(i:Nat) __s=>match items[i]? with
    |some y=>do
     let __do_lift <-eqBool y x
     if __do_lift=true then do
       let __do_lift <-retInt (i:Int)
       Cr (ForInStep.done (some __do_lift,()))
      else Cr (F1 (none,()))
    |x=>Cr (F1 (none,())))) _ _ _
  rw[Std.Legacy.Range.forIn_eq_forIn_range'];refine G7 _ (λrest b s'=>s'=⟨hp,g,d,tk,os⟩/\∃i,i<=j/\rest=L6 i (items.size-i)) _ ?turn ?fin _ _ ⟨rfl,0,Bg _,by simp[Std.Legacy.Range.size]⟩
  case turn=>
   rintro i0 rest b s' ⟨rfl,i,bE,hr⟩
   have am:i<items.size:=by omega
   have e0:items.size-i=(items.size-(i+1))+1:=by omega
   rw[e0,List.range'_succ]at hr;cases hr;rw[En am];refine A3 (he _ (Array.getElem_mem am) prog w _ _ ?_);by_cases eD:i0=j
   .subst eD;rw[bc]
    wp_walk
    exact⟨_,rfl,h⟩
   .rw[bG i0 am (by omega)]
    wp_walk
    exact⟨rfl,i0+1,by omega,rfl⟩
  case fin=>
   rintro ⟨b1,b2⟩ s' ⟨rfl,i,bE,hr⟩
   have:=lD Ih hr
   simp at this;omega
section
variable{X:Cx}{a b:Expr}{fa fb:ED}{p pos df:Hq}
def sS:Int->List Int->Int
 |n,[]=>n
 |n,m::r=>sS (Jq n m) r
theorem BU:∀(ns:List Int) (n:Int),sS n ns∈n::ns/\∀x∈n::ns,sS n ns<=x
 | [],n=>by simp[sS]
 |m::r,n=>by
  obtain⟨h1,h2⟩:=BU r (Jq n m);show sS (Jq n m) r∈_/\∀x∈_,sS (Jq n m) r<=x;have hm:=h2 (Jq n m) A6;constructor
  .rcases Ad.mp h1 with z|z
   .rw[z];rcases Ki n m with q|q
    .rw[E7 q];exact A6
    .rw[Ev q];exact A7 _ A6
   .exact A7 _ (A7 _ z)
  .intro x hx;rcases Ad.mp hx with z|z
   .omega
   .rcases Ad.mp z with z|z
    .omega
    .exact h2 x (A7 _ z)
def tP(f:EL):ED:=λY=>match f Y with|some ds=>(match Z6 ds with|some (n::ns)=>some (.int (sS n ns))|_=>none)|none=>none
def OI(hc:X.calm=true)(hm:X.mg "min" = none)(h:yA X a f)(hg:Gl X "min":=by rfl)(hv:B5 "min" = some (.builtin "min"):=by decide +kernel)(he:Ab [a] X.env=(false,Ce a X.env)::Ab [] X.env:=by exact u4 rfl)(af:(C8 pos (Ab [] X.env)).any (·.1)=false:=by exact J3 rfl):ZE X (.Call (.Name "min" p) [a] [] pos) (tP f):=
 ⟨have h:=h.h;
 j3 (rO (X1 hc) hg hm hv (J4 h Y8 he) (by decide) (by decide) he af) λU H Q h_=>by
  refine f7 h_ λY d B H0 V0 Z e r q=>?_;unfold tP at e;split at e
  .rename_i ds aH;split at e
   .rename_i n ns hn;cases e;refine⟨Y,ds,B,H0,V0,Z,aH,r,λl xs H' s hq rr=>⟨l,n,ns,rfl,?_,λm hm hb=>?_⟩⟩
    .rw[Z9 hn,Y2]at rr;rw[<-rr];exact hq
    .obtain⟨h1,h2⟩:=BU ns n;have e1:=hb _ h1;have e2:=h2 _ hm;rw[y3 B3]at e1
     have:m=sS n ns:=by omega
     rw[this];exact q _ H' s (v4.mpr rfl)
   .cases e
  .cases e⟩
def FN(f:EL):EB:=λY=>match f Y with|some ds=>some (!ds.isEmpty)|none=>none
def XI(h:yA X a f)(he:∀whole,isTrue a X.env whole=(do let v <-whole;L0 a.pos;Hd [v] (Ny v)):=by intro _;rfl):ZT X a (FN f):=
 ⟨have h:=h.h;
 pH (Xm h he) λU H Q h_=>by
  refine f7 h_ λY d B H0 V0 Z e r q=>?_;unfold FN at e;split at e
  .rename_i ds aH;cases e;refine⟨Y,ds,B,H0,V0,Z,aH,r,λl xs H' s hq rr=>?_⟩;refine⟨!xs.isEmpty,.inl ⟨xs,hq,rfl⟩,?_⟩;have hl:=rr.length
   have:ds.isEmpty=xs.isEmpty:=by cases ds<;>cases xs<;>first|rfl|cases hl
   rw[<-this];exact q H' s
  .cases e⟩
end
end L3
namespace L3
open PySem PySem.Spec PyProof.Rows L2 PySem.SeqAt PySem.W
end L3
namespace L3
open PySem PySem.Spec PyProof.Rows L2 PySem.SeqAt
def MK(K:A5)(w:Cg)(a:Av)(kvs:List (Bf×Bf)):Prop:=∃es n,K.lookup a=some ⟨.type "dict",none,.dict es n,#[]⟩/\PySem.W.KeysLit w.params es.toList/\∀kv∈kvs,∃t,Iz K a kv.1=some (some (.str kv.2 t))
def LU(kvs:List (Bf×Bf))(f:ED):ED:=λY=>match f Y with
 |some (.str x)=>(match kvs.lookup x with|some y=>some (.str y)|none=>none)
 |_=>none
theorem P4{x y:Bf}:∀{kvs:List (Bf×Bf)},kvs.lookup x=some y->(x,y)∈kvs
 | [],h=>by cases h
 | (a,b)::r,h=>by
  rw[Bm]at h;split at h
  .rename_i e;cases h;rw[eq_of_beq e];exact A6
  .exact A7 _ (P4 h)
section
variable{X:Cx}{i:Expr}{p pos:Hq}{f:ED}
def XD(hm:X.mg x=some (.ref a))(ht:MK X.K X.w a kvs)(hi:ZE X i f)(hg:Gl X x:=by rfl)(hd:(x==("__debug__":Bf))=false:=by decide)(hs:AQ i:=by exact λ_ _=>rfl):ZE X (.Subscript (.Name x p) i pos) (LU kvs f):=
 ⟨have hi:=hi.h;
 λaa s U H Q I h_=>by
 refine f7 h_ λY d B H0 V0 Z e r q=>?_;unfold LU at e;split at e
 .rename_i k hk;split at e
  .rename_i y hy;cases e;obtain⟨es,n,hl,bN,hv⟩:=ht;obtain⟨t,ht⟩:=hv _ (P4 hy);have h0:tC (.ref a) U H (λx H1=>x=V.ref a/\H1=H):=⟨rfl,rfl⟩;refine Rz PySem.F.slot_dict_getitem.lookup hs (jE (Ý (pos:=p) hg hm (v:=.ref a) rfl hd aa s U H _ I h0) λu s1 x' H1 I1 rx ⟨ex,eH⟩=>?_);subst ex eH
   obtain rfl:u=D3 a:=rx
   refine jE (hi aa s1 U H1 (λv H'=>j8 H1 H'/\v=V.str k) I1 ⟨Y,_,B,H0,V0,Z,hk,r,λv H' sm rv=>⟨sm,Z4.mp rv⟩⟩) λiv s2 y' H2 I2 ry ⟨sm,ey⟩=>?_;subst ey;obtain⟨tk,rfl⟩:=ry;have hm:=PySem.W.mapOf_K (prog:=X.prog) (w:=X.w) I2.kIn hl bN;refine⟨hm.typeIs,wpAny_getItem_of (strKind_is X.prog X.w k tk) hm (PySem.W.find_K hl ht) ⟨.str y,H2,I2.tok _,⟨t,rfl⟩,q _ _ sm (Z4.mpr rfl)⟩⟩
  .cases e
 .cases e⟩
end
end L3
namespace L3
open PySem PySem.Spec PyProof.Rows L2
section
variable{X:Cx}
def Ro{i:Nat}{y:Bf}{py aY:Hq}{cap:List (Option Nat)}(hc:X.calm=true)(hi:PI X ae ag wi)(hg:∀cl C fp s H,PG (Y5 X N scope cl C fp s H) ae g)(ht:∀cl C fp s H,r8 (Y5 X N scope cl C fp s H) ba tt)(he:∀cl C fp s H,PE (Y5 X N scope cl C fp s H) bh te)(hk:scope.kind = .function)(au:∀y∈scope.names,y.2 = .cell->scope.names.lookup y.1=some .cell)(aW:∀x∈scope.names,x.2 = .local->scope.names.lookup x.1=some .local)(bT:∀x∈scope.names,x.2 = .free->scope.names.lookup x.1=some .free)(bq:∀x∈scope.names,x.2 = .free->X.env.scope.names.lookup x.1=some .cell\/X.env.scope.names.lookup x.1=some .free)(be:∀(i j:Nat),cap[i]?=some (some j)->∃x,N[i]?=some x/\X.N[j]?=some x/\scope.names.lookup x=some .free)(ab:cap.length=N.length)(hN:X.N.Nodup)(eJ:X.N[i]?=some y)(hy:mT X.env.scope y)(hf:X.fn y=true\/X.env.scope.names.lookup y=some .local)(bW:Ej (.ListComp bh [⟨ae,ag,ba,0⟩] scope pos) (some (.Name y py)) aY.line X.env=Cr true)(hs:∀x,Cz ag X.env x=Cr x:=by intro _;rfl):
  PS X (.Assign [.Name y py] (.ListComp bh [⟨ae,ag,ba,0⟩] scope pos) aY) (FG (xR cap wi g tt te) (r0 i)):=by
 intro aa s U H D I h;rw[exec_Assign_Name_used _ _ _ _ bW];refine A3 (Go (A3 ?_));show Ap _ X.A (do let _ <-comprehension (.ListComp bh [⟨ae,ag,ba,0⟩] scope pos) scope X.env _ (Nf []) false (Ce ag X.env) (some (Md (.Name y py) X.env))) _ _ s;refine A3 (Cn (OZ (use:=some (Md (.Name y py) X.env)) (Qf:=λ_ s'=>SP X aa D .next s') hc hi hg ht he hk au aW bT bq be ab hs I h λ{s3 s6 H3 H5 U5 cs fp l r} I3 I6 fu q=>?_) (λ_ s' hq=>w6 (w6 hq)) λ_ _ e=>e)
 obtain⟨m6,hn6,_⟩:=I6.loc
 have IX:a9 X aa U H5 s6:=by
  refine I3.call' (s':=s6) (ch:=fp) I6.os ?_ (λb u e=>I6.hok b u e) I6.bare (λb hb=>?_)
  .have u6:Un (nU X.stack) fp H3 H5 s3.heap s6.heap:=I6.base;exact u6
  .obtain⟨_,f1,_,f3,f5,f6⟩:=fu b hb;exact⟨f3,f1,f5,f6⟩
 have ltL:X.env.locals<s3.heap.objs.size:=by obtain⟨m3,hn3,_⟩:=I3.loc;obtain⟨o,_,_,ho,_⟩:=hn3;exact Ao ho
 have iP:∀x c,X.env.cells.lookup x=some c->c<s3.heap.objs.size:=λx c e=>by obtain⟨v,o,ho,_⟩:=I3.cell x c e;exact Ao ho
 show Ap _ X.A (Md (.Name y py) X.env (.ref l)) _ _ s6;refine wpAny_assign_Name (Py IX hN eJ hy (v:=.ref l) rfl (λs7 I7 hsb7=>?_) hf);obtain⟨a7,sb7,ha7⟩:=hsb7
 have neA:s3.heap.objs.size≠a7:=by
  rcases ha7 with rfl|ha7
  .exact Ch (Aq ltL)
  .exact Ch (Aq (iP _ _ ha7))
 refine⟨m6,hn6.sameBut sb7 neA,λh' sb=>?_⟩
 have eI:∀b u,H5 b=some u->b≠s3.heap.objs.size:=λb u e z=>by
  subst z
  have:=I6.free
  rw[show H5 s3.heap.objs.size=none from this]at e;cases e
 refine⟨_,H5,?_,q⟩;refine I7.call' (s':={ s7 with heap:=h' }) (ch:=[s3.heap.objs.size]) rfl ?_ (λb u e=>?_) I7.bare (λb hb=>?_)
 .have ex:∀b,b∉[s3.heap.objs.size]->∀o,s7.heap.get? b=some o->h'.get? b=some o:=λb hb o e=>(sb.2 b λz=>hb (by rw[z];exact Ae.mpr rfl)).trans e
  exact⟨λb o e n hb hx=>ex b hx o e,λb o e n hb hx=>⟨o.slots,ex b hx o e⟩,λb o e n hx=>n,λb o e hx=>⟨o,ex b hx o e⟩,λ_ _ e=>e,λ_ _ _ e=>e,λb ps e=>⟨#[],by simpa using e⟩⟩
 .refine(I7.hok b u e).stay (λc v bS q'=>(sb.2 c ?_).trans q') (λ_ q'=>q') (λ_ _ q'=>q') λ_ _ _ q'=>q';rcases bS with rfl|bS
  .exact eI _ _ e
  .exact eI _ _ bS
 .obtain rfl:=Ae.mp hb
  refine⟨.inr ?_,Ch (Aq ltL),λx c e=>Aq (iP x c e),λp hp=>?_⟩
  .exact I3.sz
  .exact Aq (Ao (I3.pin p hp).1)
def Xy{i:Nat}{y:Bf}{py aY pos:Hq}(N:List Bf)(cap:List (Option Nat))(hc:X.calm=true)(hi:NI X ae ag fi)(hg:∀cl C fp s H,SG (Y5 X N scope cl C fp s H) ae h)(ht:∀cl C fp s H,r8 (Y5 X N scope cl C fp s H) ba (tT X.K ft))(he:∀cl C fp s H,SE (Y5 X N scope cl C fp s H) bh fe)(hN:X.N.Nodup)(eJ:X.N[i]?=some y)(hy:mT X.env.scope y)(hf:X.fn y=true\/X.env.scope.names.lookup y=some .local)(bW:Ej (.ListComp bh [⟨ae,ag,ba,0⟩] scope pos) (some (.Name y py)) aY.line X.env=Cr true)(hok:sR scope X.env.scope N cap X.N=true)(hs:∀x,Cz ag X.env x=Cr x)(himp:∀E U H,tS X.K go E U H->tF X.K (W6 cap fi h ft fe) U H (λv H1=>E.nx (U.set i (some v)) H1)):
  SS X (.Assign [.Name y py] (.ListComp bh [⟨ae,ag,ba,0⟩] scope pos) aY) go:=by
 have c:=FJ hok
 exact nA (Ro (N:=N) (cap:=cap) (wi:=MZ X.K fi) (g:=tG X.K h) (tt:=tT X.K ft) (te:=tD X.K fe) hc hi hg ht he c.kind c.cell c.loc c.fre c.out c.sel c.len hN eJ hy hf bW hs)
  λE U H z=>RL (X:=X) c.inj U H _ (himp E U H z)
def uU{i:Nat}{y:Bf}{py aY pos:Hq}(N:List Bf)(cap:List (Option Nat))(hc:X.calm=true)(hi:FW X ae ag fi)(hg:N.Nodup->∀cl C fp s H,ZG (Y5 X N scope cl C fp s H) ae h)(ht:∀cl C fp s H,ZP (Y5 X N scope cl C fp s H) ba ft)(he:∀cl C fp s H,ZE (Y5 X N scope cl C fp s H) bh fe)(hN:X.N.Nodup)(eJ:X.N[i]?=some y:=by rfl)(hy:mT X.env.scope y:=by first|exact E8 rfl|exact Db rfl)(hf:X.fn y=true\/X.env.scope.names.lookup y=some .local:=by first|exact .inl rfl|exact .inr rfl)(bW:Ej (.ListComp bh [⟨ae,ag,ba,0⟩] scope pos) (some (.Name y py)) aY.line X.env=Cr true:=by rfl)(hok:sR scope X.env.scope N cap X.N=true:=by rfl)(hs:∀x,Cz ag X.env x=Cr x:=by intro _;rfl)(nd:N.Nodup:=by decide +kernel):ZS X (.Assign [.Name y py] (.ListComp bh [⟨ae,ag,ba,0⟩] scope pos) aY) (f9 i (kE (W6 cap fi h ft fe))):=
 ⟨have hg:=hg nd;
 have hi:=hi.h;
 have hg:=λcl C fp s H=>(hg cl C fp s H).h;
 have ht:=λcl C fp s H=>(ht cl C fp s H).h;
 have he:=λcl C fp s H=>(he cl C fp s H).h;
 Xy N cap hc hi hg ht he hN eJ hy hf bW hok hs λE U H h_=>by
  refine f7 h_ λY o B H0 V0 Z e r q=>?_;unfold f9 at e;split at e
  .rename_i d ed;cases e;unfold kE at ed;obtain⟨ds,he,rfl⟩:=B9.mp ed;refine⟨Y,ds,B,H0,V0,Z,he,r,λa xs H' s hn ha hr=>q _ H' Z ((r.mono s).set (J6.mpr ⟨a,xs,rfl,i5.of ?_,hr.mono (qJ λb hb=>A7 _ hb)⟩))⟩;rw[Q4 (r.newer hn)];exact ha
  .cases e⟩
end
end L3
namespace HT
open PySem PyProof.Rows
end HT
namespace L3
open PySem PySem.Spec PyProof.Rows L2 PySem.SeqAt
end L3
namespace L3
open PySem PySem.Spec PyProof.Rows L2
def pP(K:A5)(cd:Aa)(x:Bf):Bool:=match cd with
 | .ref c=>(match K.lookup c with
  |some ⟨.type "code",_,.fields vs,_⟩=>(match (vs[11]?:Option Aa) with|some (.ref P)=>Jo K c P&&(K.lookup P).isNone|_=>false)&&(match (vs[1]?:Option Aa) with|some (.str q _)=>q==x&&RX.contains q|_=>false)
  |_=>false)
 |_=>false
def Ā{K:A5}{cd:Aa}{x:Bf}(h:pP K cd x=true):∃c o vs P t,cd = .ref c/\K.lookup c=some o/\o.cls = .type "code"/\o.data = .fields vs/\vs[11]?=some (.ref P)/\vs[1]?=some (.str x t) /\
  Jo K c P=true/\K.lookup P=none/\zY vs=true:=by
 unfold pP at h;split at h
 .rename_i c;split at h
  .rename_i od vs dN hk;rw[Bi]at h;obtain⟨h1,h2⟩:=h;split at h1
   .rename_i P hP;rw[Bi]at h1;split at h2
    .rename_i q t hq;rw[Bi]at h2
     have e:q=x:=by simpa using h2.1
     subst e;exact⟨c,_,vs,P,t,rfl,hk,rfl,rfl,hP,hq,h1.1,by simpa using h1.2,by unfold zY;rw[hq];exact h2.2⟩
    .cases h2
   .cases h1
  .cases h
 .cases h
structure oU(K:A5)(mg:Bf->Option Aa):Prop where
 ex:True
theorem Zv{c v:Aa}(l:List Aa)(h:TriplesOk l)(e:Kk p (l++[rawInt a,rawInt b,c])=some v):Kk p l=some v\/v=c:=by
 fun_induction TriplesOk l with
 |case1=>
  simp only[Kb,Kk,rawInt]at e;split at e
  .exact .inr (Ba e).symm
  .cases e
 |case2 i t j u y r ih=>
  simp only[List.cons_append,Kk]at e ⊢;split at e
  .rename_i hc;rw[z7 hc];exact .inl e
  .rename_i hc;rw[y3 hc];exact ih h e
 |case3 l h1 h2=>exact h.elim
abbrev zQ(qual:Bf)(params:Mo)(body:Expr)(scope:Scope)(cl:List (Bf×Av))(ay pm:Aa)(c:Av)(ct:Aa):Jy:=PySem.W.kdv_obj "<lambda>" qual params (.expr body) scope cl .none ay pm c ct
section
variable{X:Cx}{aa:f8}{U:St}{H:Hp}{s:Ai}
def a9.pin1{f:Av}{o:Jy}(I:a9 X aa U H s)(ho:s.heap.get? f=some o)(hn:H f=none)(hl:f≠X.env.locals)(hf:f∉X.fs)(hd:∀v,o.data≠.cell v):a9 X ((f,o)::aa) U H s:=
 I.pins_of λp hp=>by
  rcases Ad.mp hp with z|z
  .subst z;exact⟨ho,hn,hl,hf,hd⟩
  .exact I.pin p (Ac _ z)
theorem Tx{A:C1}{E:VP}{params:Mo}{body:Expr}{scope:Scope}{pos:Hq}{cl:List (Bf×Av)}{x:Bf}{Q:VP}(I:a9 X aa U H s)(tb:TB X.K H)(bm:oU X.K X.mg)(hl:pP X.K X.env.code x=true)(hq:X.env.qual=x++".<locals>.")(ar:O6 scope X.env=Cr cl)(cg:M2 params X.env=([],[]))(h:∀f c oc vs t ay pm ct s' H',j8 H H'->a9 X ((f,zQ (X.env.qual++"<lambda>") params body scope cl ay pm c ct)::aa) U H' s'->(∃u,H' c=some (.frz oc u))->oc.data = .fields vs->vs[1]?=some (.str (X.env.qual++"<lambda>") t)->Q (.ref f) s'):
  Ap (B0 X.prog X.w) A (Ce (.Lambda params body scope pos) X.env) Q E s:=by
 refine PySem.W.kla_eval cg ?_;rw[makeFunction_eq];simp only[Kn,List.filterMap_nil,List.isEmpty_nil,if_true,pure_bind];obtain⟨c,o,vs,P,t0,hc,k1,k2,k3,k4,k5,k6,k7,k8⟩:=Ā hl;obtain⟨q,t,e1,hP⟩:=tb c o vs P k1 k2 k3 k4 k7 k8;rw[k5]at e1;cases e1;obtain⟨qs,hp,ht,iq⟩:=I.hok P _ hP;have CH:PySem.W.CodeHd s.heap c P:=PySem.W.codeHd_of_K I.kIn k6;have hg:s.heap.Ns D5 X.mg:=I.ok.mod.glob.keeps I.bk
 have hgP:D5≠P:=λz=>by
  obtain⟨og,es,ep,e,_⟩:=I.ok.mod.glob
  have:=(I.bs _ _ e).2
  rw[z,hP]at this;cases this
 obtain⟨bm,ob,b1,b6,b2,b3,b4,b5⟩:=I.ok.mod.bm
 have b7:bm≠D5:=λz=>by obtain⟨og,es,ep,e,hd,_⟩:=I.ok.mod.glob;rw[<-z,b2]at e;cases e;rw[b5]at hd;cases hd
 have hB:s.heap.BuiltinsAt X.mg P:=⟨bm,ob,b1,b6,b7,(λz=>by
  have:=(I.bs _ _ b2).2
  rw[z,hP]at this
  cases this),I.bk _ _ b2,b3,b4,b5⟩
 have tq:RA #[Mk x 0]=X.env.qual++"<lambda>":=by rw[hq];rfl
 cases hca:Kk pos qs.toList with
 |none=>
  refine PySem.W.kdv_makeTail ar I.ok.glob hg hc CH hp ht hca hgP hB λc' ct ay h' tk hx gP am hrec gc=>?_;obtain⟨c2,oc,ws,t2,e2,fS,hd,hv⟩:=hrec;cases e2;have hcn:H c'=none:=I.hok.fresh gP
  have cne:∀b u,H b=some u->b≠c':=λb u e z=>by rw[z,hcn]at e;cases e
  have sm:j8 H (upd H c' (.frz oc (.own P))):=u9 hcn;have hsz:s.heap.objs.size<=h'.objs.size:=Bn gP (D7 am);generalize dW:PySem.W.kdv_obj "<lambda>" (X.env.qual++"<lambda>") params (.expr body) scope cl .none ay ((X.mg "__name__").getD .none) c' ct=fo
  have hok:kR X.prog X.w (upd H c' (.frz oc (.own P))) (h'.push fo):=λb u e=>by
   by_cases hb:b=c'
   .subst hb;rw[v8]at e;cases e;exact⟨A8 _ fS,oc,A8 _ fS⟩
   .rw[j6 hb]at e;by_cases hbP:b=P
    .subst hbP;rw[hP]at e;cases e;refine⟨qs++#[rawInt pos.line,rawInt pos.col,.ref c'],A8 _ gc,?_,λp v cM=>?_⟩
     .have:=TriplesOk_snoc pos.line pos.col (.ref c') qs.toList ht
      simpa using this
     .have eO:Kk p (qs.toList++[rawInt pos.line,rawInt pos.col,.ref c'])=some v:=by simpa using cM
      rcases Zv qs.toList ht eO with z|z
      .obtain⟨c3,oc3,vs3,t3,z1,z2,z3,z4⟩:=iq p v z;exact⟨c3,oc3,vs3,t3,z1,sm _ _ z2,z3,z4⟩
      .exact⟨c',oc,ws,t2,z,v8,hd,by rw[tq];exact hv⟩
    .refine(I.hok b u e).stay (λd v bZ r=>A8 _ (hx d v ?_ r)) (λd r=>sm _ _ r) (λd ys r=>sm _ _ r) λd cE ys r=>sm _ _ r;rcases bZ with z|z
     .rw[z];exact hbP
     .intro z2;rw[z2,hP]at z;cases z
  have un:Un X.fs [] H (upd H c' (.frz oc (.own P))) s.heap (h'.push fo):=by
   have kp:∀b cE,s.heap.get? b=some cE->H b=none->(h'.push fo).get? b=some cE:=λb cE e n=>A8 _ (hx b cE (λz=>by rw[z,hP]at n;cases n) e)
   refine⟨λb cE e n _ _=>kp b cE e n,λb cE e n _ _=>⟨cE.slots,kp b cE e n⟩,λb cE e n _=>?_,λb cE e _=>?_,λb ys e=>sm _ _ e,λb cE u e=>sm _ _ e,λb ps e=>⟨#[],by rw[sm _ _ e];simp⟩⟩
   .rw[j6]
    .exact n
    .intro z
     have:=Ao e
     rw[z]at this;exact w9 (B8 this gP) (Dc _)
   .by_cases hb:b=P
    .rw[hb];exact⟨_,A8 _ gc⟩
    .exact⟨cE,A8 _ (hx b cE hb e)⟩
  have I2:=I.un (h':=h'.push fo) (t':=tk) un hok;refine h h'.objs.size c' oc ws t2 ay ((X.mg "__name__").getD .none) ct _ _ sm ?_ ⟨_,v8⟩ hd hv;have hf:(h'.push fo).get? h'.objs.size=some fo:=Ar _ (by rw[<-dW];rfl)
  rw[<-dW]at hf I2 ⊢;refine a9.pin1 I2 hf ?_ ?_ ?_ ?_
  .rw[j6 (D8 am)];exact I.hok.fresh hsz
  .exact D8 (B8 I.lt hsz)
  .exact I.nofs hsz
  .intro v z;cases z
 |some v=>
  obtain⟨c',oc,ws,t2,rfl,z2,z3,z4⟩:=iq pos v hca;refine PySem.W.kdv_makeTailHit ar I.ok.glob hg hc CH hp ht hca hB λct ay h' tk hx hsz=>?_;rw[tq]at z4;have I2:=I.kept (h':=h'.push (zQ (X.env.qual++"<lambda>") params body scope cl ay ((X.mg "__name__").getD .none) c' ct)) (t':=tk) λb u e=>A8 _ (hx b u e);refine h h'.objs.size c' oc ws t2 ay ((X.mg "__name__").getD .none) ct _ H (j8.refl H) ?_ ⟨_,z2⟩ z3 z4
  refine a9.pin1 I2 (Ar _ rfl) (I.hok.fresh hsz) (D8 (B8 I.lt hsz)) (I.nofs hsz) ?_;intro v z;cases z
end
abbrev oV(X:Cx)(A:C1)(N:List Bf)(qual:Bf)(scope:Scope)(cl:List (Bf×Av))(f:Av)(cd:Aa)(s:Ai)(H:Hp):Cx where
 prog:=X.prog
 w:=X.w
 K:=X.K
 mg:=X.mg
 base:=X.base
 A:=A.deeper (M3 qual scope s.heap.objs.size f cd cl)
 N:=N
 s₀:=s
 H₀:=H
 env:=M3 qual scope s.heap.objs.size f cd cl
 outer:=X.stack
 stack:=M3 qual scope s.heap.objs.size f cd cl::X.stack
 ex:=[]
 fn:=λx=>match scope.names.lookup x with|some .local=>true|_=>false
 calm:=true
 pn:=[]
 xe:=λ_ _=>False
section
variable{X:Cx}{aa:f8}{U:St}{H:Hp}{s:Ai}{scope:Scope}{cl:List (Bf×Av)}{N:List Bf}{cap:List (Option Nat)}{A:C1}{qual p:Bf}{f:Av}{cd u:Aa}{v:V}
def È{h1:Cf}{tk:Nat}(I:a9 X aa U H s)(hAf:A.frames=some X.stack)(hAh:A.handled=none)(hk:scope.kind = .function)(au:∀y∈scope.names,y.2≠.cell)(ar:∀x c,cl.lookup x=some c->X.env.cells.lookup x=some c/\(x,C0)∈scope.names)(fL:∀x,(x,C0)∈scope.names->∃c,cl.lookup x=some c)(bT:∀x∈scope.names,x.2 = .free->scope.names.lookup x.1=some .free)(be:∀(i j:Nat),cap[i]?=some (some j)->∃x,N[i]?=some x/\X.N[j]?=some x/\scope.names.lookup x=some .free/\(X.env.scope.names.lookup x=some .cell\/X.env.scope.names.lookup x=some .free))(ab:cap.length=N.length)(h0:cap[0]?=some none)(hp:N[0]?=some p)(af:scope.names.lookup p=some .local)(rv:e9 v u)(bQ:h1.Ns s.heap.objs.size (λy=>([(p,u)]:List (Bf×Aa)).reverse.lookup y))(keep:∀b o,s.heap.get? b=some o->h1.get? b=some o):
  a9 (oV X A N qual scope cl f cd s H) [] ((mG cap U).set 0 (some v)) H { s with heap:=h1,toks:=tk }:=by
 have e0:=I.env0;have eX:∀b:Av,b∉(oV X A N qual scope cl f cd s H).ex:=λb z=>w9 (show b∈([]:List Av) from z) (by simp)
 refine⟨⟨e0.mod,hk,rfl,rfl,Aj _,λx y c e1 e2=>I.ok.inj x y c (ar x c e1).1 (ar y c e2).1,λx hx=>?_,λx c hx e=>?_,λ_=>hAh,C1.frames_deeper hAf,.inr ⟨rfl,rfl⟩,λb z=>w9 z (eX b),e0.bs,e0.bsz,λb _ _=>eX b,λb z=>w9 z (eX b),e0.funs,e0.frf⟩,
  rfl,e0.bare,Un.kept keep,⟨_,bQ,λi y w e1 e2 e3=>?_⟩,λx c e=>?_,e0.hok.fresh (Aj _),λx c e=>I.freeC x c (ar x c e).1,λq hq=>w9 (show q∈([]:f8) from hq) (by simp),e0.hok.kept keep,?_⟩
 .have hx:scope.names.lookup x=some .cell\/scope.names.lookup x=some .free:=hx;rcases hx with z|z
  .exact w9 rfl (au _ (Cc z))
  .exact fL x (Cc z)
 .have aC:(match scope.names.lookup x with|some .local=>true|_=>false)=true:=hx
  have:=bT _ (ar x c e).2 rfl
  rw[this]at aC;cases aC
 .cases i with
  |zero=>
   have ib:N[0]?=some y:=e1;rw[hp]at ib;cases ib
   have hl0:0<(mG cap U).length:=by unfold mG;rw[A0];exact(B2.mp h0).1
   rw[Ck hl0]at e2;cases e2;refine⟨u,rv,.inl ⟨af,?_⟩⟩;simp[Bm]
  |succ i=>
   rw[Bc (by omega)]at e2
   have hc:∃j,cap[i+1]?=some (some j)/\U[j]?=some (some w):=by
    unfold mG at e2;rw[Am]at e2
    cases fQ:cap[i+1]? with
    |none=>rw[fQ]at e2;cases e2
    |some o=>
     rw[fQ]at e2
     cases o with
     |none=>cases e2
     |some j=>
      refine⟨j,rfl,?_⟩;have cr:(U[j]?).bind id=some w:=Ba e2
      cases hs:U[j]? with
      |none=>rw[hs]at cr;cases cr
      |some q=>
       rw[hs]at cr
       have:q=some w:=cr
       rw[this]
   obtain⟨j,hj,hv⟩:=hc;obtain⟨x,n1,n2,n3,n4⟩:=be (i+1) j hj
   have exy:x=y:=by
    have:N[i+1]?=some y:=e1
    rw[n1]at this;exact Ba this
   subst exy;obtain⟨mm,hm,hl⟩:=I.loc;obtain⟨u',r,cz⟩:=hl j x w n2 hv (.inr n4);refine⟨u',r,.inr ⟨.inr n3,?_⟩⟩;rcases cz with⟨k,_⟩|⟨k,c,e,z⟩
   .have k':X.env.scope.names.lookup x=some .local:=k;rw[k']at n4;rcases n4 with q|q<;>cases q
   .obtain⟨c',bS⟩:=fL x (Cc n3)
    have:=(ar x c' bS).1
    rw[e]at this;cases this;obtain⟨o,ho,hd⟩:=z;exact⟨c,bS,o,keep _ _ ho,hd⟩
 .obtain⟨v',o,ho,hd⟩:=I.cell x c (ar x c e).1;exact⟨v',o,keep _ _ ho,hd⟩
 .rw[Cy];unfold mG;rw[A0];exact ab
def RY(I:a9 X aa U H s)(hAf:A.frames=some X.stack)(hr:d4 0 A)(hf:s.heap.get? f=some (zQ qual params body scope cl ay pm c ct))(hc:∃u,H c=some (.frz oc u))(hd:oc.data = .fields vs)(hv:vs[1]?=some (.str qual t))(hk:scope.kind = .function)(au:∀y∈scope.names,y.2≠.cell)(dL:scope.isCoroutine=false)(cf:scope.isGenerator=false)(ar:∀x c,cl.lookup x=some c->X.env.cells.lookup x=some c/\(x,C0)∈scope.names)(fL:∀x,(x,C0)∈scope.names->∃c,cl.lookup x=some c)(bT:∀x∈scope.names,x.2 = .free->scope.names.lookup x.1=some .free)(be:∀(i j:Nat),cap[i]?=some (some j)->∃x,N[i]?=some x/\X.N[j]?=some x/\scope.names.lookup x=some .free/\(X.env.scope.names.lookup x=some .cell\/X.env.scope.names.lookup x=some .free))(ab:cap.length=N.length)(h0:cap[0]?=some none)(hp:N[0]?=some p)(af:scope.names.lookup p=some .local)(rv:e9 v u)(hb:Gk (Ja "<lambda>" qual params (.expr body) scope cl .none ay pm (.ref c) ct) ⟨[u],[]⟩=Cr [(p,u)])(he:PE (oV X A N qual scope cl f (.ref c) s H) body te)(h:te ((mG cap U).set 0 (some v)) H Q):
  Ap (B0 X.prog X.w) A (call (.ref f) [u]) (EP X aa U Q) E s:=by
 obtain⟨uu,hc⟩:=hc;have fS:s.heap.get? c=some oc:=(I.hok c _ hc).1;refine Nz (PySem.W.kla_callFunE hr.depth hf rfl dL cf rfl ⟨c,oc,vs,t,rfl,fS,hd,hv⟩ ?_);rw[hb];refine w6 (wpAny_newFunctionEnv au (λy hy=>?_) (λh₁ bQ hsb=>⟨I.nolimit.fresh _ hsb,?_⟩) hk)
 .rw[Ae.mp hy];exact af
 have keep:∀b o,s.heap.get? b=some o->h₁.get? b=some o:=λb o e=>hsb.extBut b o (Aq (Ao e)) (A8 _ e);show Ew _ _ (.expr body (M3 qual scope s.heap.objs.size f (.ref c) cl)) _ _
 have I2:a9 (oV X A N qual scope cl f (.ref c) s H) [] ((mG cap U).set 0 (some v)) H { s with heap:=h₁,toks:=s.toks+([(p,u)]:List (Bf×Aa)).length }:=È I hAf hr.hd hk au ar fL bT be ab h0 hp af rv bQ keep
 refine PySem.W.kla_codeExpr (Cn (he [] _ _ H Q I2 h) (λx s' hs=>?_) λ_ _ z=>z.elim);obtain⟨w,H',J,r,q⟩:=hs;exact I.after ⟨w,H',J.os,J.bare,J.base,J.hok,r,q⟩
end
end L3
namespace L3
open PySem PySem.Spec PyProof.Rows L2 PySem.SeqAt PySem.W
section
variable{X:Cx}{aa:f8}{U:St}{H:Hp}{s:Ai}
def a9.repin{b:Av}{o o':Jy}{t':Nat}(J:a9 X ((b,o)::aa) U H s)(hk:Dh b s.heap h')(ho:h'.get? b=some o')(h0:X.s₀.heap.objs.size<=b)(hc:∀x c,X.env.cells.lookup x=some c->c≠b)(hp:∀p∈X.pn++aa,p.1≠b)(hd:∀v,o'.data≠.cell v):a9 X ((b,o')::aa) U H { s with heap:=h',toks:=t' }:=by obtain⟨_,p2,p3,p4,_⟩:=J.pin (b,o) (Ac _ A6);have J1:a9 X aa U H s:=J.pins_of λp z=>J.pin p (Ac _ (A7 _ z));exact a9.pin1 (J1.turned (h':=h') (t':=t') (λc u ne e=>(hk.2 c ne).trans e) p2 p3 (.inr h0) hc hp) ho p2 p3 p4 hd
def a9.tail{p:Av×Jy}(J:a9 X (p::aa) U H s):a9 X aa U H s:=J.pins_of λq z=>J.pin q (Ac _ (A7 _ z))
def a9.told{a b:Av}{oa ob:Jy}{h':Cf}{t':Nat}(J:a9 X ((b,ob)::(a,oa)::aa) U H s)(hk:∀c u,c≠a->c≠b->s.heap.get? c=some u->h'.get? c=some u)(hb:∃u,h'.get? b=some u)(ha:kU X.prog X.w (upd H a (.lst ys)) h' a (.lst ys))(h0:X.s₀.heap.objs.size<=a)(h1:X.s₀.heap.objs.size<=b)(hc:∀x c,X.env.cells.lookup x=some c->c≠a/\c≠b)(hp:∀p∈X.pn++aa,p.1≠a/\p.1≠b):a9 X aa U (upd H a (.lst ys)) { s with heap:=h',toks:=t' }:=by
 obtain⟨q1,q2,q3,q4,_⟩:=J.pin (b,ob) (Ac _ A6);obtain⟨p1,p2,p3,p4,_⟩:=J.pin (a,oa) (Ac _ (A7 _ A6));have sm:j8 H (upd H a (.lst ys)):=u9 p2;have J1:a9 X aa U H s:=a9.tail (a9.tail J);have nt:∀c u,H c=some u->c≠a/\c≠b:=λc u e=>⟨(λz=>by rw[z,p2]at e;cases e),(λz=>by rw[z,q2]at e;cases e)⟩
 refine J1.step (g':=s.gens) (d':=s.drawn) (ch:=[a,b]) (λc bS=>?_) (λc u _ _ hn e _=>hk c u (λz=>hn (by simp[z])) (λz=>hn (by simp[z])) e) (λc u _ _ hn e _=>⟨u.slots,hk c u (λz=>hn (by simp[z])) (λz=>hn (by simp[z])) e⟩)
  (λc u hn e n=>by rw[j6 (λz=>hn (by simp[z]))];exact n) (λc u hn e=>⟨u,hk c u (λz=>hn (by simp[z])) (λz=>hn (by simp[z])) e⟩) (λc xs e=>sm _ _ e) (λc o' u e=>sm _ _ e) (λc ps e=>⟨#[],by rw[sm _ _ e];simp⟩)
  (λm hm=>?_) (λc u e=>?_) J1.bare
 .rcases Ad.mp bS with z|z
  .subst z;exact⟨.inr h0,p3,λx c e=>(hc x c e).1,λp z=>(hp p z).1⟩
  .rw[Ae.mp z];exact⟨.inr h1,q3,λx c e=>(hc x c e).2,λp z=>(hp p z).2⟩
 .obtain⟨o',cI,dM,bJ,r'⟩:=hm;exact⟨o',cI,dM,hk _ _ (Ch p3) (Ch q3) bJ,r'⟩
 .by_cases aI:c=a
  .subst aI;rw[v8]at e;cases e;exact ha
  .rw[j6 aI]at e;refine(J1.hok c u e).stay (λd v hd r=>?_) (λd r=>sm _ _ r) (λd xs r=>sm _ _ r) λd o' u r=>sm _ _ r;rcases hd with z|z
   .rw[z]at r ⊢;exact hk _ _ (nt c u e).1 (nt c u e).2 r
   .exact hk _ _ (nt _ _ z).1 (nt _ _ z).2 r
variable{A:C1}{E:VP}
def OA{a:Av}{vs:List Aa}{P:Mr->Ai->Prop}{kds:List D}(O:mJ lt)(I:a9 X ((a,Bk "list" vs.toArray n)::aa) U H s)(fB:vs.length<64)(hkl:kds.length=vs.length)(rv:Y7 us vs)(h0:X.s₀.heap.objs.size<=a)(hc:∀x c,X.env.cells.lookup x=some c->c<a)(hp:∀p∈X.pn++aa,p.1<a)
  (turn:∀(i:Nat) (u:Aa) (d:D),vs[i]?=some u->kds[i]?=some d->∀(more:f8) (H1:Hp) (s1:Ai),j8 H H1->a9 X (more++aa) U H1 s1 ->
   Ap (B0 X.prog X.w) A (call f [u]) (EP X (more++aa) U λk H2=>j8 H1 H2/\d8 X.K (K5 Z H2) d k) (λ_ _=>False) s1)
  (dB:∀(more:f8) (H1:Hp) (s1:Ai) (ks:List V) (kvs:List Aa),j8 H H1->a9 X (more++aa) U H1 s1->Y7 ks kvs->g9 X.K (K5 Z H1) kds ks->2<=kvs.length->∀Q:O7->Ai->Prop,Q κ s1->Ap (B0 X.prog X.w) A (O8 kvs.toArray) Q (λ_ _=>False) s1)
  (am:∀(more:f8) (H1:Hp) (s1:Ai) (ks:List V) (kvs:List Aa),j8 H H1->a9 X (more++aa) U H1 s1->Y7 ks kvs->g9 X.K (K5 Z H1) kds ks->∀i j,i<kvs.length->j<kvs.length->∀C:Bool->Ai->Prop,C (lt i j) s1 ->
   Ap (B0 X.prog X.w) A (keyLt' κ (kvs.getD i Ca) (kvs.getD j Ca)) C (λ_ _=>False) s1)
  (fin:∀(p:Array Nat) (H1:Hp) (s1:Ai),p.size=vs.length->p.Perm (Bu (A9 vs.length))->Up lt p vs.length->j8 H H1->H1 a=none->a9 X aa U (upd H1 a (.lst (p.toList.map λi=>us.getD i .non))) s1->P (.done (.ret .none)) s1):
  Ap (B0 X.prog X.w) A (ksk_tree a f false) P E s:=by
 have ho:s.heap.get? a=some (Bk "list" vs.toArray n):=(I.pin _ (Ac _ A6)).1;have ha:a<s.heap.objs.size:=Ao ho
 have hzz:vs.toArray.size<=sizeLine:=by rw[An,Bs];omega
 obtain⟨e1,gT⟩:∃e1,(s.heap.update a (Ct λ_=>(#[]:Array Aa))).get? a=some (Bk "list" #[] e1):=⟨_,get?_update_seq ho λ_=>#[]⟩
 have I1:a9 X ((a,Bk "list" #[] e1)::aa) U H { s with heap:=s.heap.update a (Ct λ_=>(#[]:Array Aa)),toks:=s.toks }:=a9.repin I (By _ _ _) gT h0 (λx c e=>Aq (hc x c e)) (λp z=>Aq (hp p z)) (λv z=>by cases z)
 unfold ksk_tree;refine A3 (Kh ho rfl (A3 (Gp ho rfl ?_ hzz (Bg _))));refine A3 (Mg gT rfl (A3 (wpAny_newTuple (A3 (Hv (Cp ?_) (Bg _))) (by show vs.length<=_;rw[Bs];omega))))
 generalize ig:s.heap.update a (Ct λ_=>(#[]:Array Aa))=h1 at I1 gT ⊢
 have fA:s.heap.objs.size=h1.objs.size:=by rw[<-ig,Hg]
 generalize hkS:(h1.push (Bk "tuple" vs.toArray 0)).objs.size=kS
 have kS1:kS=h1.objs.size+1:=by rw[<-hkS,M1]
 have gE:a<kS:=by rw[kS1,<-fA];exact C2 ha
 have ckS:∀x c,X.env.cells.lookup x=some c->c≠kS:=λx c e=>Aq (Dp (hc x c e) gE)
 have I2:a9 X ((kS,Bk "list" #[] 0)::(a,Bk "list" #[] e1)::aa) U H { s with heap:=(h1.push (Bk "tuple" vs.toArray 0)).push (Bk "list" #[] 0),toks:=s.toks }:=by have J:=I1.kept (h':=(h1.push (Bk "tuple" vs.toArray 0)).push (Bk "list" #[] 0)) (t':=s.toks) λb u e=>A8 _ (A8 _ e);refine a9.pin1 J (by rw[<-hkS];exact Ar _ rfl) (I1.hok.fresh (by rw[kS1];exact Em _)) (D8 (by rw[kS1];exact C2 I1.lt)) (I1.nofs (by rw[kS1];exact Em _)) (λv z=>by cases z)
 have pkS:∀p∈X.pn++(a,Bk "list" #[] e1)::aa,p.1≠kS:=λp z=>by
  rcases Aw.mp z with z|z
  .exact Aq (Dp (hp p (B7 _ z)) gE)
  .rcases Ad.mp z with z|z
   .rw[z];exact Aq gE
   .exact Aq (Dp (hp p (Ac _ z)) gE)
 have h0k:X.s₀.heap.objs.size<=kS:=Bn h0 (D7 gE);show Ap _ _ (ksk_rest a f false vs.toArray e1 (.ref kS)) P E { s with heap:=(h1.push (Bk "tuple" vs.toArray 0)).push (Bk "list" #[] 0) };unfold ksk_rest;refine A3 (Kr ?_);rw[List.forIn_toArray]
 refine A3 (ksk_fold (λi s'=>∃(H1:Hp) (kA:Array Aa) (ks:List V) (e:Nat),a9 X ((kS,Bk "list" kA e)::(a,Bk "list" #[] e1)::aa) U H1 s'/\j8 H H1/\Y7 ks kA.toList/\g9 X.K (K5 Z H1) (kds.take i) ks) vs 0 _
  ⟨H,#[],[],0,I2,j8.refl H,.nil,by rw[Jb];exact g9.nil⟩ ?step ?done)
 case step=>
  rintro j x s' hx ⟨H1,kA,ks,e,J,sm,rk,rr⟩;simp only[M4]at rr ⊢;have hj:j<vs.length:=(B2.mp hx).1;have fj:kds[j]?=some kds[j]:=A4 (by omega)
  have hz:kA.size<=vs.length:=by have l1:=rk.length;have l2:=rr.length;have l3:kA.toList.length=kA.size:=Au;rw[E9]at l2;omega
  refine A3 (Mx (Cn (turn j x _ hx fj [(kS,Bk "list" kA e),(a,Bk "list" #[] e1)] H1 s' sm J) (λk bz he=>?_) λ_ _ z=>z.elim));obtain⟨kv,H2,J2,rkv,aR,rd⟩:=he;have J2':a9 X ((kS,Bk "list" kA e)::(a,Bk "list" #[] e1)::aa) U H2 bz:=J2;have hok:bz.heap.get? kS=some (Bk "list" kA e):=(J2'.pin _ (Ac _ A6)).1;obtain⟨e2,gk⟩:∃e2,(bz.heap.update kS (Ct (·.push k))).get? kS=some (Bk "list" (kA.push k) e2):=⟨_,get?_update_seq hok (·.push k)⟩
  try dsimp only
  refine A3 (Gp hok rfl ?_ (by rw[Bs];omega) (Bn (Nat.le_of_eq (Array.size_push ..)) (by rw[Bs];omega)))
  refine w6 ⟨rfl,H2,kA.push k,ks++[kv],e2,?_,sm.trans aR,?_,?_⟩
  .exact a9.repin (t':=bz.toks) J2' (By _ _ _) gk h0k ckS pkS (λv z=>by cases z)
  .rw[L7];exact rk.append (.cons rkv .nil)
  .rw[List.take_add_one,fj];exact g9.append (rr.mono (x6 aR)) (g9.one rd)
 case done=>
  rintro s' ⟨H1,kA,ks,e,J,sm,rk,rr⟩
  have rr':g9 X.K (K5 Z H1) kds ks:=by rw[Jc (by omega)]at rr;exact rr
  have lk:kA.size=vs.length:=by have l1:=rk.length;have l2:=rr'.length;have l3:kA.toList.length=kA.size:=Au;omega
  have hok:s'.heap.get? kS=some (Bk "list" kA e):=(J.pin _ (Ac _ A6)).1;have hoa:s'.heap.get? a=some (Bk "list" #[] e1):=(J.pin _ (Ac _ (A7 _ A6))).1
  try dsimp only
  refine A3 (Kh hok rfl ?_);have eK:kA.toList.toArray=kA:=Array.toArray_toList
  have dS:∀(aS:SortSt) (p:Array Nat),p.size=vs.length->p.Perm (Bu (A9 vs.length))->Up lt p vs.length->(arrOf aS).map (·.2)=Bu (p.toList.map λi=>vs.getD i Ca)->Ni aS=none ->
    Ap (B0 X.prog X.w) A (ksk_tail a false e1 (.ref kS) aS) P E s':=λaS p h1 h2 h3 h4 h5=>by
   have s1:=By s'.heap kS (Ct λ_=>(#[]:Array Aa));have na1:(s'.heap.update kS (Ct λ_=>(#[]:Array Aa))).get? a=some (Bk "list" #[] e1):=(s1.2 a (Aq gE)).trans hoa;unfold ksk_tail
   try dsimp only
   refine A3 (Gp hok rfl ?_ (by rw[lk,Bs];omega) (Bg _))
   refine A3 (Gf ?_);refine A3 (Mg na1 rfl ?_);rw[h4,h5]
   refine A3 (Gp na1 rfl ?_ (Bg _) (by
    show (if false=true then _ else Bu (p.toList.map λi=>vs.getD i Ca)).size<=sizeLine+1;rw[y3 B3,An,A0,Au,h1,Bs]
    omega))
   simp only[bne_self_eq_false,Bj,if_false];refine w6 (fin p H1 _ h1 h2 h3 sm ?_ ?_)
   .exact(J.pin _ (Ac _ (A7 _ A6))).2.1
   .have pl:∀i∈p.toList,i<vs.length:=wF h2;have s2:=By (s'.heap.update kS (Ct λ_=>(#[]:Array Aa))) a (Ct λ_=>Bu (p.toList.map λi=>vs.getD i Ca));refine a9.told (t':=s'.toks) J (λc u n1 n2 e=>(s2.2 c n1).trans ((s1.2 c n2).trans e)) ?_ ?_ h0 h0k (λx c e=>⟨Aq (hc x c e),ckS x c e⟩) (λq z=>⟨Aq (hp q z),pkS q ?_⟩)
    .have:(s'.heap.update kS (Ct λ_=>(#[]:Array Aa))).get? kS=some _:=get?_update_seq hok λ_=>#[]
     exact⟨_,(s2.2 kS (D8 gE)).trans this⟩
    .refine⟨?_,p.toList.map λi=>vs.getD i Ca,_,MI rv _ λi hi=>by have:=pl i hi;have:=rv.length;omega,get?_update_seq na1 _⟩
     rw[A0,Au,h1,Bs];omega
    .rcases Aw.mp z with z|z
     .exact B7 _ z
     .exact Ac _ (A7 _ z)
  unfold ksk_end
  try dsimp only
  simp only[Bj,if_false]
  have lks:kA.toList.length=vs.length:=by rw[Au];exact lk
  by_cases h2:vs.toArray.size<2
  .rw[z7 h2,z7 h2];refine A3 (w6 ?_);rw[StateT.run_pure];refine A3 (w6 ?_);dsimp only;refine dS (SortSt.mk' general' (kA.zip vs.toArray) #[] 7 none) (Bu (A9 vs.length)) (by simp) (Fi _) (λi j bE hj=>?_) ?_ rfl
   .have:i=j:=by rw[An]at h2;omega
    subst this;exact O.irr _
   .rw[show (Bu (A9 vs.length)).toList=A9 vs.length from rfl,Qa];apply Array.toList_inj.mp;show ((kA.zip vs.toArray).map (·.2)).toList=vs;apply Jm
    .simp[lk]
    .intro i g1 g2;simp
  .rw[y3 h2,y3 h2]
   have bn:2<=vs.length:=by rw[An]at h2;omega
   have zk:=dB [(kS,Bk "list" kA e),(a,Bk "list" #[] e1)] H1 s' ks kA.toList sm J rk rr' (by omega) (λκ' bz=>κ'=κ/\bz=s') ⟨rfl,rfl⟩;rw[eK]at zk;refine A3 (Cn zk (λκ' bz hq=>?_) λ_ _ x=>x.elim);obtain⟨ip,ju⟩:=hq;rw[ip,ju];obtain⟨p,ep,p1,p2,p3⟩:=Rx O (n:=vs.length) (by omega)
   have kr:=kat_run (prog:=X.prog) (w:=X.w) (A:=A) (s:=s') (E:=λ_ _=>False) (κ:=κ) (ks:=kA.toList) (vs:=vs) (Q:=λaS bz=>∃q,q.size=vs.length/\arrOf aS=q.map (kas_item (kA.toList.toArray.zip vs.toArray))/\Ni aS=none/\q=p/\bz=s') lks bn fB (λq aS bz a1 a2 a3 a4=>⟨q,a1,a2,a3,a4⟩)
    (GM (lt:=lt) (n:=vs.length) (Ok:=λbz=>bz=s') (λi j C bz hi hj hs hC=>by
     rw[hs];unfold kas_ask;have z0:=hC s' rfl
     exact am [(kS,Bk "list" kA e),(a,Bk "list" #[] e1)] H1 s' ks kA.toList sm J rk rr' i j (by omega) (by omega) C z0) _ s' (Rw (by omega)) rfl (λbz hs=>⟨ep,hs⟩))
   rw[eK]at kr;refine A3 (Cn kr ?_ λ_ _ e=>e.elim);rintro ⟨⟨⟩,aS⟩ bz ⟨q,q1,q2,q3,hqp,hqs⟩;rw[hqs];rw[hqp]at q2;rw[<-eK]at q2;exact dS aS p p1 p2 p3 (kat_snds lks q2) q3
end
structure BD(sc outer:Scope)(N:List Bf)(cap:List (Option Nat))(M:List Bf):Prop where
 kind:sc.kind = .function
 cell:∀y∈sc.names,y.2≠.cell
 loc:∀y∈sc.names,y.2 = .local->sc.names.lookup y.1=some .local
 fre:∀y∈sc.names,y.2 = .free->sc.names.lookup y.1=some .free
 out:∀y∈sc.names,y.2 = .free->outer.names.lookup y.1=some .cell\/outer.names.lookup y.1=some .free
 sel:∀(i j:Nat),cap[i]?=some (some j)->∃x,N[i]?=some x/\M[j]?=some x/\sc.names.lookup x=some .free
 len:cap.length=N.length
 inj:∀(i j k:Nat),cap[i]?=some (some k)->cap[j]?=some (some k)->i=j
def RI(hok:xO sc outer N cap M=true):BD sc outer N cap M:=by unfold xO at hok;simp only[Bi]at hok;have c:=FJ hok.1;have h2:=Eb.mp hok.2;exact⟨c.kind,λy hy=>by simpa using h2 y hy,c.loc,c.fre,c.out,c.sel,c.len,c.inj⟩
def oQ(fb:ED)(Y:K6):List D->Option (List D)
 | []=>some []
 |d::ds=>match fb (Y.set 0 (some (.sh d))) with|some k=>(match oQ fb Y ds with|some ks=>some (k::ks)|none=>none)|none=>none
theorem JO:∀{ds ks:List D},oQ fb Y ds=some ks->ks.length=ds.length
 | [],ks,e=>by cases e;rfl
 |d::ds,ks,e=>by
  unfold oQ at e;split at e
  .split at e
   .rename_i iI h;cases e;rw[As,As,JO h]
   .cases e
  .cases e
theorem IR:∀{ds ks:List D} {i:Nat} {d k:D},oQ fb Y ds=some ks->ds[i]?=some d->ks[i]?=some k->fb (Y.set 0 (some (.sh d)))=some k
 | [],ks,i,d,k,_,h,_=>by simp at h
 |d'::ds,ks,i,d,k,e,h1,h2=>by
  unfold oQ at e;split at e
  .rename_i k' bN;split at e
   .rename_i iI h;cases e
    cases i with
    |zero=>simp at h1 h2;subst h1;subst h2;exact bN
    |succ i=>exact IR (i:=i) h (by simpa using h1) (by simpa using h2)
   .cases e
  .cases e
def vC{α:Type}(le:α->α->Bool)(kk:List α)(ds:List D):List D:=((kk.zip ds).mergeSort λa b=>le a.1 b.1).map (·.2)
def pX(a b:Int):Bool:=decide (a<=b)
def EG(ks ds:List D):Option (List D):=if ds.length<64 then
  (match Z6 ks with
  |some ns=>if ns.Nodup then some (vC pX ns ds) else none
  |none=>(match mB ks with|some nss=>if nss.Nodup then some (vC lF nss ds) else none|none=>none))
 else none
def qB(cap:List (Option Nat))(fa:EL)(fb:ED):EL:=λY=>match fa Y with
 |some ds=>(match oQ fb (nF cap Y) ds with|some ks=>EG ks ds|none=>none)
 |none=>none
theorem NN{α:Type}{le:α->α->Prop}:∀{xs ys:List α},(∀a∈xs,∀b∈xs,le a b->le b a->a=b)->xs.Perm ys->xs.Pairwise le->ys.Pairwise le->(∀a,le a a)->xs=ys
 | [],ys,_,p,_,_,_=>(List.nil_perm.mp p).symm
 |x::xs,ys,cH,p,h1,h2,rf=>by
  cases ys with
  |nil=>exact w9 (List.perm_nil.mp p) (by simp)
  |cons y ys=>
   have hx:=Ds.mp h1;have hy:=Ds.mp h2
   have e:x=y:=by
    have m1:x∈y::ys:=p.mem_iff.mp A6;have m2:y∈x::xs:=p.mem_iff.mpr A6;refine cH x A6 y m2 ?_ ?_
    .rcases Ad.mp m2 with z|z
     .rw[z];exact rf x
     .exact hx.1 y z
    .rcases Ad.mp m1 with z|z
     .rw[z];exact rf y
     .exact hy.1 x z
   subst e;rw[NN (λa ha b hb=>cH a (A7 _ ha) b (A7 _ hb)) (List.perm_cons x |>.mp p) hx.2 hy.2 rf]
theorem RC{α β:Type}:∀{kk:List α} {ds:List β},kk.Nodup->∀a∈kk.zip ds,∀b∈kk.zip ds,a.1=b.1->a=b
 | [],_,_,a,ha,_,_,_=>by simp at ha
 |_::_,[],_,a,ha,_,_,_=>by simp at ha
 |k::kk,d::ds,nd,a,ha,b,hb,e=>by
  rw[Et]at ha hb;have nd':=Bq.mp nd;rcases Ad.mp ha with z|z
  .rcases Ad.mp hb with y|y
   .rw[z,y]
   .exfalso
    have:=(Hy y).1
    rw[<-e,z]at this;exact nd'.1 this
  .rcases Ad.mp hb with y|y
   .exfalso
    have:=(Hy z).1
    rw[e,y]at this;exact nd'.1 this
   .exact RC nd'.2 a z b y e
def XC{α β:Type}(dk:α)(dd:β):∀{kk:List α} {ds:List β},kk.length=ds.length->∀is:List Nat,(∀i∈is,i<kk.length)->(is.map λi=>(kk.getD i dk,ds.getD i dd))=is.map λi=>(kk.zip ds).getD i (dk,dd):=λ{kk ds} hl is hi=>by
 apply B4;intro i h;have h1:=hi i h
 have h2:i<ds.length:=by omega
 have e1:(kk.zip ds)[i]?=some (kk[i],ds[i]):=by rw[A4 (by rw[List.length_zip];omega),List.getElem_zip]
 rw[J5 (A4 h1),J5 (A4 h2),J5 e1]
def Sd{α:Type}{le:α->α->Bool}(tr:∀a b c,le a b=true->le b c=true->le a c=true)(tot:∀a b,(le a b||le b a)=true)(cH:∀a b,le a b=true->le b a=true->a=b){kk:List α}{ds:List D}{dk:α}(hl:kk.length=ds.length)(nd:kk.Nodup){p:Array Nat}(p1:p.size=kk.length)(p2:p.Perm (Bu (A9 kk.length)))(p3:Up (λi j=>!le (kk.getD j dk) (kk.getD i dk)) p kk.length):(p.toList.map λi=>ds.getD i .non)=vC le kk ds:=by
 have pl:=wF p2
 have e:(p.toList.map λi=>ds.getD i .non)=(p.toList.map λi=>(kk.getD i dk,ds.getD i .non)).map (·.2):=by rw[B1];rfl
 rw[e];unfold vC;congr 1
 have hz:(kk.zip ds).length=kk.length:=by rw[List.length_zip];omega
 have pm:(p.toList.map λi=>(kk.getD i dk,ds.getD i .non)).Perm (kk.zip ds):=by rw[XC dk D.non hl _ pl];exact MF (us:=kk.zip ds) (by rw[hz];exact p2)
 have up:((kk.zip ds).mergeSort λa b=>le a.1 b.1).Pairwise λa b=>le a.1 b.1=true:=Ea (le:=λa b:α×D=>le a.1 b.1) (λa b c=>tr _ _ _) (λa b=>tot _ _) _
 refine NN (le:=λa b:α×D=>le a.1 b.1=true) (λa ha b hb h1 h2=>RC nd a (pm.mem_iff.mp ha) b (pm.mem_iff.mp hb) (cH _ _ h1 h2)) (pm.trans (E2 _ _).symm) ?_ up (λa=>by
  have:=tot a.1 a.1
  simpa using this)
 rw[Bd]
 exact(HD p1 p3).imp λh=>by simpa using h
def Tq(a b c:Int)(h1:pX a b=true)(h2:pX b c=true):pX a c=true:=by
 have:=lC h1
 have:=lC h2
 exact K9 (by omega)
def QV(a b:Int):(pX a b||pX b a)=true:=by
 unfold pX;by_cases h:a<=b
 .simp[h]
 .simp;omega
def Ϫ(a b:Int)(h1:pX a b=true)(h2:pX b a=true):a=b:=by
 have:=lC h1
 have:=lC h2
 omega
def Tr(a b c:List Int)(h1:lF a b=true)(h2:lF b c=true):lF a c=true:=by unfold lF at h1 h2 ⊢;simp only[Fq]at h1 h2 ⊢;exact wL a b c h1 h2
theorem QW(a b:List Int):(lF a b||lF b a)=true:=by
 unfold lF
 cases h:HT.lexLt b a with
 |false=>rfl
 |true=>rw[CK b a h];rfl
def ϫ(a b:List Int)(h1:lF a b=true)(h2:lF b a=true):a=b:=by unfold lF at h1 h2;simp only[Fq]at h1 h2;exact BH a b h2 h1
def Sc{α:Type}{le:α->α->Bool}(tr:∀a b c,le a b=true->le b c=true->le a c=true)(tot:∀a b,(le a b||le b a)=true)(kk:List α)(dk:α):mJ (λi j=>!le (kk.getD j dk) (kk.getD i dk)):=by
 refine⟨λi j h=>?_,λi j k h1 h2=>?_⟩
 .simp only[Fq,Bool.not_eq_false']at h ⊢
  have:=tot (kk.getD i dk) (kk.getD j dk)
  rw[h,Lg]at this;exact this
 .simp only[Bool.not_eq_false']at h1 h2 ⊢;exact tr _ _ _ h1 h2
def Xz{acc:Array Aa}(aM:ItemsOf (λi v=>∃t,v = .int (0+(i:Int)*1) t) acc n):Y7 ((i4 0 n).map V.int) acc.toList:=by
 have hv:∀(n:Nat) (acc:List Aa) (lo:Nat),acc.length=n->(∀(i:Nat) v,acc[i]?=some v->∃t,v = .int ((lo+i:Nat):Int) t)->Y7 ((A9 n).map λ(k:Nat)=>V.int ((lo+k:Nat):Int)) acc:=by
  intro n
  induction n with
  |zero=>intro acc lo hl _;cases acc with|nil=>exact .nil|cons _ _=>cases hl
  |succ n ih=>
   intro acc lo hl hg
   cases acc with
   |nil=>cases hl
   |cons x acc=>
    rw[Gh,Af];refine .cons ?_ ?_
    .obtain⟨t,e⟩:=hg 0 x rfl;exact⟨t,e⟩
    .rw[B1]
     refine Eq.mp (lD (λl=>Y7 l acc) (B4 λk _=>?_)) (ih acc (lo+1) (by simpa using hl) λi v hv=>by
      obtain⟨t,e⟩:=hg (i+1) v (by simpa using hv);refine⟨t,?_⟩;rw[e];congr 2
      omega)
     simp only[Lh];congr 2;omega
 have:=hv n acc.toList 0 (by simpa using aM.1) λi v e=>by obtain⟨t,e'⟩:=aM.2 i v (by simpa using e);exact⟨t,by rw[e'];congr 1;omega⟩
 unfold i4;rw[B1];refine Eq.mp (lD (λl=>Y7 l acc.toList) (B4 λk _=>?_)) this;simp only[Lh];congr 1
def Ϩ{A:C1}{s:Ai}{R:Lf->Ai->Prop}(hh:A.handled=none)(hr:IsRange s.heap r 0 j 1 t u v)(h1 : -(2 ^ 62)<=j)(h2:j<=100000)(S:Av)(c₀:Nat)(hS:s.heap.get? S=some { cls:=.type "list",data:=.seq #[] c₀ })(hR:∀h' tk aJ c',(∀b o,b≠S->s.heap.get? b=some o->h'.get? b=some o)->h'.get? S=some { cls:=.type "list",dict:=none,data:=.seq aJ c',slots:=#[] }->ItemsOf (λi v=>∃t,v = .int (0+(i:Int)*1) t) aJ j.toNat->R (.ok (.ret (.ref S))) { s with heap:=h',toks:=tk }):
  Ew (B0 prog w) A (.builtin "list.__iadd__" ⟨[.ref S,.ref r],[]⟩) R s:=by
 have hn:Ig 0 j 1=((j.toNat:Nat):Int):=by rw[Mu];split<;>omega
 refine codeAny_builtin F.entry_list_iadd ?_;rw[C6 F.plain_list_iadd _];exact wpAny_extend_range hh hr (small_one (by omega) (by omega) h1 (by omega)) hn (by omega) S (.ref S) c₀ hS hR
def Ql{A:C1}{s:Ai}{Q:List Aa->Ai->Prop}(hh:A.handled=none)(hr:IsRange s.heap r 0 j 1 t u v)(h1 : -(2 ^ 62)<=j)(h2:j<=100000)(hQ:∀its h' tk,Y7 ((i4 0 j.toNat).map V.int) its->(∀b o,s.heap.get? b=some o->h'.get? b=some o)->s.heap.objs.size<=h'.objs.size->Q its { s with heap:=h',toks:=tk }):Ap (B0 prog w) A (L4 (.ref r)) Q E s:=by
 unfold L4;refine A3 (Kq (codeAny_builtin F.entry_proto_collect ?_));rw[C6 F.plain_proto_collect _];show Ap _ A.in1 (Nf [] >>= λl=>Nc (.builtin "list.__iadd__" ⟨[l,.ref r],[]⟩)) _ _ s;refine A3 (Cb ?_);have k1:∀b o,s.heap.get? b=some o->(s.heap.push { cls:=.type "list",data:=.seq ([]:List Aa).toArray }).get? b=some o:=λb o e=>A8 _ e
 refine w6 ⟨plainId_quiet F.plain_list_iadd _,Ϩ hh (k1 _ _ hr) h1 h2 s.heap.objs.size 0 (Ar _ rfl) λh' tk aJ c' hk hS' aM=>?_⟩;show Ap _ A (load s.heap.objs.size >>= _) _ _ _;refine A3 (N4 hS' ?_);exact w6 (hQ aJ.toList h' tk (Xz aM) (λb o e=>hk b o (Aq (Ao e)) (k1 b o e)) (D7 (Ao hS')))
def Uh(X:Cx)(Z:List Av)(H:Hp)(a:Av)(xs:List V):Prop:=i5 X.K H a xs\/i8 X.K (K5 Z H) a xs\/(X.calm=true/\∃j:Int,H a=some (.rng 0 j)/\-(2 ^ 62)<=j/\j<=100000/\xs=(i4 0 j.toNat).map V.int)
def tV(X:Cx)(f:EL):TE:=λU H Q=>∃Y ds B H0 V0 Z,f Y=some ds/\SR X.K B H0 V0 H Z U Y/\∀(a:Av) (xs:List V) (H':Hp),j8 H H'->Uh X Z H' a xs->g9 X.K (K5 Z H') ds xs->Q (.ref a) H'
abbrev SV(X:Cx)(e:Expr)(f:EL):Prop:=PE X e (tV X f)
def Ζ(h:SQ X e f):SV X e f:=j3 h λU H Q ⟨Y,ds,B,H0,V0,Z,e1,r,q⟩=>
 ⟨Y,ds,B,H0,V0,Z,e1,r,λa xs H' s hq rr=>q a xs H' s (hq.elim .inl λz=>.inr (.inl z)) rr⟩
def ų{X:Cx}{p2 az:Hq}(hc:X.calm=true)(cA:X.mg "range" = none)(h:SE X a fa)(fZ:Gl X "range":=by rfl)(eO:B5 "range" = some (.type "range"):=by decide +kernel)(he:Ab [a] X.env=(false,Ce a X.env)::Ab [] X.env:=by exact u4 rfl)(af:(C8 az (Ab [] X.env)).any (·.1)=false:=by exact J3 rfl):SV X (.Call (.Name "range" p2) [a] [] az) (Z7 fa):=
 j3 (pK GX fZ cA eO (J4 h Y8 he) (by decide) (by decide) he af) λU H Q h_=>by
  refine f7 h_ λY d B H0 V0 Z e r q=>?_;unfold Z7 at e;split at e
  .rename_i j ej;split at e
   .rename_i hj;cases e;refine⟨Y,_,B,H0,V0,Z,ej,r,λv H' s rr=>?_⟩
    obtain rfl:=v4.mp rr
    refine⟨j,rfl,λp1 dU=>?_⟩;exact q p1 _ _ (s.trans (u9 dU)) (.inr (.inr ⟨hc,j,v8,hj.1,hj.2,rfl⟩)) (Y2.mpr rfl)
   .cases e
  .cases e
section
variable{X:Cx}{e body:Expr}{params:Mo}{scope:Scope}{lp kp p pos:Hq}{fa:EL}{fb:ED}
def Pw{x pn:Bf}{k:Nat}(N:List Bf)(cap:List (Option Nat))(hm:X.mg "sorted" = none)(bm:oU X.K X.mg)(hl:pP X.K X.env.code x=true)(hr:d4 (k+3) X.A)(ha:SV X e fa)(he:∀A' cl f cd s H,d4 k (oV X A' N (X.env.qual++"<lambda>") scope cl f cd s H).A->SE (oV X A' N (X.env.qual++"<lambda>") scope cl f cd s H) body fb)(hok:xO scope X.env.scope N cap X.N=true:=by rfl)(h0:cap[0]?=some none:=by rfl)(hp:N[0]?=some pn:=by rfl)(af:scope.names.lookup pn=some .local:=by rfl)(dL:scope.isCoroutine=false:=by rfl)(cf:scope.isGenerator=false:=by rfl)(hq:X.env.qual=x++".<locals>.":=by rfl)(cg:M2 params X.env=([],[]):=by rfl)(hb:∀(cl:List (Bf×Av)) (ay pm:Aa) (c:Av) (ct u:Aa),Gk (Ja "<lambda>" (X.env.qual++"<lambda>") params (.expr body) scope cl .none ay pm (.ref c) ct) ⟨[u],[]⟩=Cr [(pn,u)]:=by intros;rfl)(hg:Gl X "sorted":=by rfl)(hv:B5 "sorted" = some (.builtin "sorted"):=by decide +kernel)(hs:Ab [e] X.env=(false,Ce e X.env)::Ab [] X.env:=by exact u4 rfl):
  SF X (.Call (.Name "sorted" p) [e] [⟨some "key",.Lambda params body scope lp,kp⟩] pos) (qB cap fa fb):=by
 intro aa s U H Q I h;have C:=RI hok;obtain⟨Y,es,B,H0,V0,Z,e1,r,q⟩:=h;unfold qB at e1;split at e1
 .rename_i ds aH;split at e1
  .rename_i ks iD;refine Es (oE I hg hm hv ?_ (by decide) (by decide))
   have bX:C8 pos (Ab [e] X.env)=(false,Ce e X.env)::C8 pos (Ab [] X.env):=by rw[hs];rfl
   refine Fz ?_ bX (by rw[bX];rfl)
   refine jE (J4 ha Y8 hs pos aa s U H (λvs H1=>∃a xs,vs=[.ref a]/\j8 H H1/\Uh X Z H1 a xs/\g9 X.K (K5 Z H1) ds xs) I ⟨Y,ds,B,H0,V0,Z,aH,r,λa xs H1 s1 hq rr=>⟨a,xs,rfl,s1,hq,rr⟩⟩) λus s1 vs H1 I1 gy ⟨a,xs,cZ,cU,gn,rr⟩=>?_;subst cZ;obtain⟨u,rfl,ru⟩:=l9 gy;cases ru;have R1:=r.mono cU;obtain⟨cl,ar,hc1,aX⟩:=KP (env:=X.env) (scope:=scope) λy hy hf=>I1.ok.has y.1 (C.out y hy hf)
   show Ap _ _ (evalAll ((do let v <-Ce (.Lambda params body scope lp) X.env;L0 pos;Cr v)::[])) _ _ s1
   refine Gj (A3 (Tx I1 R1.tb bm hl hq ar cg λf c oc ws t ay pm ct s2 H2 aR I2 hfc hd hws=>A3 (Go (w6 (Jd ?_)))));show Ap _ _ (call (.builtin "sorted") [.ref a] [(Bt "key",.ref f)]) _ _ s2;have l1:=rr.length;have l3:=JO iD;unfold EG at e1;split at e1
   .rename_i fB;generalize dW:zQ (X.env.qual++"<lambda>") params body scope cl ay pm c ct=fo at I2
    have xl:xs.length<64:=by omega
    have col:∀{E':VP} {Q':List Aa->Ai->Prop},(∀its h' tk,Y7 xs its->(∀b o,s2.heap.get? b=some o->h'.get? b=some o)->s2.heap.objs.size<=h'.objs.size->Q' its { s2 with heap:=h',toks:=tk })->Ap (B0 X.prog X.w) X.A.in1 (L4 (.ref a)) Q' E' s2:=λ{E' Q'} z=>by
     have ext:∀its:List Aa,(∀b o,s2.heap.get? b=some o->((s2.heap.push (Bk "list" #[] 0)).update s2.heap.objs.size (Ct (·++its.toArray))).get? b=some o)/\s2.heap.objs.size<=((s2.heap.push (Bk "list" #[] 0)).update s2.heap.objs.size (Ct (·++its.toArray))).objs.size:=λits=>
      ⟨λb o y=>(Bo _ _ (Ch (Aq (Ao y)))).trans (A8 _ y),by rw[Hg,M1];exact Em _⟩
     rcases gn with y|y|⟨hc,j,hj,j1,j2,rfl⟩
     .obtain⟨its,rv,pl,_⟩:=I2.list (aR.seq y);have l2:=rv.length;exact collect_list pl.isList (z its _ s2.toks rv (ext its).1 (ext its).2) (by rw[Bs];omega)
     .obtain⟨its,rv,pl,_⟩:=I2.tuple (j9 (x8.trans aR) y);have l2:=rv.length;exact PV pl (z its _ s2.toks rv (ext its).1 (ext its).2) (by rw[Bs];omega)
     .obtain⟨t',u',v',ho⟩:=(show kU X.prog X.w H2 s2.heap a (.rng 0 j) from I2.hok a _ (aR _ _ hj));exact Ql (show X.A.in1.handled=none from I2.ok.hd hc) ho j1 j2 z
    refine PyProof.Rows.call_function_entry_kw kind_sorted plain_sorted entry_sorted (ksk_s1 _ _) ?_;unfold Cl.«sorted»;refine A3 (m:=checkCount "sorted" 1 1 _) (w6 ?_);refine A3 (col λits h' tk rv bN cY=>?_);have l2:=rv.length
    have hz:its.length<=sizeLine:=by rw[Bs];omega
    refine A3 (Hv ?_ hz);have g2:(h'.push (Bk "list" its.toArray 0)).get? h'.objs.size=some (Bk "list" its.toArray 0):=Ar h' (o:=Bk "list" its.toArray 0) rfl;have g3:∀b o,s2.heap.get? b=some o->(h'.push (Bk "list" its.toArray 0)).get? b=some o:=λb o z=>A8 _ (bN b o z)
    have I3:a9 X ((h'.objs.size,Bk "list" its.toArray 0)::(f,fo)::aa) U H2 { s2 with heap:=h'.push (Bk "list" its.toArray 0),toks:=tk }:=a9.pin1 (I2.kept (t':=tk) g3) g2 (I2.hok.fresh cY) (D8 (B8 I2.lt cY)) (I2.nofs cY) (λv z=>by cases z)
    have jt:∀y c',X.env.cells.lookup y=some c'->c'<h'.objs.size:=λy c' z=>by obtain⟨v,o,ho,_⟩:=I2.cell y c' z;exact B8 (Ao ho) cY
    have iF:∀w∈X.pn++(f,fo)::aa,w.1<h'.objs.size:=λw z=>B8 (Ao (I2.pin w z).1) cY
    have turn:∀(i:Nat) (u:Aa) (d:D),its[i]?=some u->ks[i]?=some d->∀(more:f8) (H3:Hp) (s3:Ai),j8 H2 H3->a9 X (more++(f,fo)::aa) U H3 s3 ->
      Ap (B0 X.prog X.w) X.A.in1.in1 (call (.ref f) [u]) (EP X (more++(f,fo)::aa) U λk' H4=>j8 H3 H4/\d8 X.K (K5 Z H4) d k') (λ_ _=>False) s3:=λi u d hu gH more H3 s3 bp I4=>by
     have hi:i<its.length:=(B2.mp hu).1;have eB:ds[i]?=some ds[i]:=A4 (by omega);obtain⟨v,cM,rv0⟩:=(rr.mono (x6 (aR.trans bp))).get eB;obtain⟨u',hu',ru⟩:=rv.get cM;rw[hu]at hu';cases hu';have ia:s3.heap.get? f=some fo:=(I4.pin (f,fo) (Ac _ (Ac _ A6))).1;rw[<-dW]at ia;obtain⟨uu,gv⟩:=hfc;have gJ:d4 (k+1) X.A.in1.in1:=(d4.in1 (d4.in1 hr))
     exact RY (te:=tD X.K fb) I4 I.ok.frames (gJ.mono (Bg _)) ia ⟨uu,bp _ _ gv⟩ hd hws C.kind C.cell dL cf hc1 aX C.fre
      (λi j z=>let ⟨y,n1,n2,n3⟩:=C.sel i j z;⟨y,n1,n2,n3,C.out _ (Cc n3) rfl⟩) C.len h0 hp af ru (hb cl ay pm c ct u) (he _ _ _ _ _ _ (gJ.deeper _))
      ⟨(nF cap Y).set 0 (some (.sh ds[i])),d,B,H0,V0,Z,IR iD eB gH,((IZ C.inj (r.mono (cU.trans (aR.trans bp)))).set rv0),λw H4 gV rw'=>⟨gV,rw'⟩⟩
    have fin:∀{cI:List D},cI=es->∀(pp:Array Nat) (H3:Hp) (s3:Ai),pp.size=its.length->pp.Perm (Bu (A9 its.length))->(pp.toList.map λi=>ds.getD i .non)=cI->j8 H2 H3->H3 (h'.objs.size)=none ->
      a9 X ((f,fo)::aa) U (upd H3 (h'.objs.size) (.lst (pp.toList.map λi=>xs.getD i .non))) s3->EP X aa U Q (.ref (h'.objs.size)) s3:=λ{cI} ee pp H3 s3 z1 z2 z3 bp hn I4=>by
     have pl:=wF z2;have gV:=cU.trans (aR.trans bp);have hn0:H (h'.objs.size)=none:=gV.free hn;refine⟨.ref (h'.objs.size),_,a9.tail I4,rfl,q _ _ _ (gV.trans (u9 hn)) hn0 v8 ?_⟩;rw[<-ee,<-z3];exact(MH (rr.mono (x6 (aR.trans bp))) _ λi hi=>by have:=pl i hi;omega).mono (qK hn (u9 hn))
    refine A3 (Cp (wpAny_call_entry_kw slot_list_sort ⟨_,g2,rfl⟩ entry_list_sort ?body (ksk_l1 _ _)))
    case body=>
     show Ap (B0 X.prog X.w) X.A.in1.in1 (Cl.«list.sort» ⟨[.ref (h'.objs.size)],[(Bt "key",.ref f)]⟩) _ _ _;rw[ksk_t1];have h0':X.s₀.heap.objs.size<=h'.objs.size:=Bn I2.sz cY;split at e1
     .rename_i ns hn;split at e1
      .rename_i nd;cases e1;have bF:=Z9 hn
       have jq:ns.length=its.length:=by rw[bF,A0]at l3;omega
       refine OA (κ:=oneType') (Sc Tq QV ns 0) I3 (by omega) (by omega) rv h0' jt iF turn (λmore H3 s3 kx kvs bp I4 rk dn g Q' q'=>?_) (λmore H3 s3 kx kvs bp I4 rk dn i j hi hj C' hC=>?_)
        (λpp H3 s3 z1 z2 z3 bp bo I4=>⟨_,rfl,w6 ⟨_,rfl,fin rfl pp H3 s3 z1 z2 (Sd Tq QV Ϫ (by omega) nd (by omega) (by rw[jq];exact z2) (by rw[jq];exact z3)) bp bo I4⟩⟩)
       .rw[bF,Y2]at dn;subst dn;have hi:Ci kvs ns:=W4 rk;rw[Pl hi g];exact w6 q'
       .rw[bF,Y2]at dn;subst dn;have hI:Ci kvs ns:=W4 rk;obtain⟨ti,ei⟩:=DM hI hi;obtain⟨tj,ej⟩:=DM hI hj;rw[ei,ej,keyLt'_oneType];refine oneLt_int ?_
        have:(!pX (ns.getD j 0) (ns.getD i 0))=decide (ns.getD i 0<ns.getD j 0):=by
         unfold pX;by_cases z:ns.getD i 0<ns.getD j 0
         .rw[K9 z,Y1 (by omega)];rfl
         .rw[Y1 z,K9 (by omega)];rfl
        rw[this]at hC;exact hC
      .cases e1
     .split at e1
      .rename_i nss hn;split at e1
       .rename_i nd;cases e1;obtain⟨bF,ah⟩:=CV hn
        have jq:nss.length=its.length:=by rw[bF,A0]at l3;omega
        refine OA (κ:=tuples' (Cm "int" != Cm "tuple")) (Sc Tr QW nss []) I3 (by omega) (by omega) rv h0' jt iF turn (λmore H3 s3 kx kvs bp I4 rk dn g Q' q'=>?_) (λmore H3 s3 kx kvs bp I4 rk dn i j hi hj C' hC=>?_)
         (λpp H3 s3 z1 z2 z3 bp bo I4=>⟨_,rfl,w6 ⟨_,rfl,fin rfl pp H3 s3 z1 z2 (Sd Tr QW ϫ (by omega) nd (by omega) (by rw[jq];exact z2) (by rw[jq];exact z3)) bp bo I4⟩⟩)
        .rw[bF]at dn;obtain⟨fs,t1,t2,t3⟩:=LC I4 (λ_ _ z=>z) ah (dn.mono x8) rk;refine kat_kind t1 (by omega) (λv hv=>?_) rfl q';obtain⟨n,t,rfl⟩:=t3 v hv;exact Looks.of_pure rfl
        .rw[bF]at dn;have iw:=dn.mono (x8 (Z:=Z));have lk1:=dn.length;have lk2:=rk.length;rw[A0]at lk1
         have gi:i<nss.length:=by omega
         have gj:j<nss.length:=by omega
         obtain⟨xi,f1,r1⟩:=iw.get (i:=i) (d:=D.tup (nss[i].map D.int)) (by rw[Am,A4 gi];rfl)
         obtain⟨xj,f2,r2⟩:=iw.get (i:=j) (d:=D.tup (nss[j].map D.int)) (by rw[Am,A4 gj];rfl)
         obtain⟨ui,k1,s1'⟩:=rk.get f1;obtain⟨uj,k2,s2'⟩:=rk.get f2;obtain⟨ai,oi,ji,ni,rfl,jg,fQ,hdi,ii⟩:=sW I4 r1 s1';obtain⟨aj,oj,jj,nj,rfl,hoj,hcj,hdj,ij⟩:=sW I4 r2 s2';rw[J5 k1,J5 k2];rw[J5 (A4 gi),J5 (A4 gj)]at hC
         have:(!lF nss[j] nss[i])=HT.lexLt nss[i] nss[j]:=by unfold lF;rw[Bool.not_not]
         rw[this]at hC;refine kat_lt jg hdi hoj hdj (IQ ii ij 0 _ ?_ hC);have a1:=ii.length;have a2:=ij.length;rw[Au]at a1 a2;rw[a1,a2]
       .cases e1
      .cases e1
   .cases e1
  .cases e1
 .cases e1
def Ze{x pn:Bf}{k:Nat}(N:List Bf)(cap:List (Option Nat))(hm:X.mg "sorted" = none)(bm:oU X.K X.mg)(hl:pP X.K X.env.code x=true)(hr:d4 (k+3) X.A)(ha:ZQ X e fa)(he:∀A' cl f cd s H,d4 k (oV X A' N (X.env.qual++"<lambda>") scope cl f cd s H).A->ZE (oV X A' N (X.env.qual++"<lambda>") scope cl f cd s H) body fb)(hok:xO scope X.env.scope N cap X.N=true:=by rfl)(h0:cap[0]?=some none:=by rfl)(hp:N[0]?=some pn:=by rfl)(af:scope.names.lookup pn=some .local:=by rfl)(dL:scope.isCoroutine=false:=by rfl)(cf:scope.isGenerator=false:=by rfl)(hq:X.env.qual=x++".<locals>.":=by rfl)(cg:M2 params X.env=([],[]):=by rfl)(hb:∀(cl:List (Bf×Av)) (ay pm:Aa) (c:Av) (ct u:Aa),Gk (Ja "<lambda>" (X.env.qual++"<lambda>") params (.expr body) scope cl .none ay pm (.ref c) ct) ⟨[u],[]⟩=Cr [(pn,u)]:=by intros;rfl)(hg:Gl X "sorted":=by rfl)(hv:B5 "sorted" = some (.builtin "sorted"):=by decide +kernel)(hs:Ab [e] X.env=(false,Ce e X.env)::Ab [] X.env:=by exact u4 rfl):ZF X (.Call (.Name "sorted" p) [e] [⟨some "key",.Lambda params body scope lp,kp⟩] pos) (qB cap fa fb):=
 ⟨have ha:=ha.h;
 have he:=λA' cl f cd s H hr=>(he A' cl f cd s H hr).h;
 Pw N cap hm bm hl hr (Ζ ha) he hok h0 hp af dL cf hq cg hb hg hv hs⟩
def Ĝ{x pn:Bf}{k:Nat}{p2 az:Hq}(N:List Bf)(cap:List (Option Nat))(jA:X.calm=true)(hm:X.mg "sorted" = none)(cA:X.mg "range" = none)(bm:oU X.K X.mg)(hl:pP X.K X.env.code x=true)(hr:d4 (k+3) X.A)(ha:ZE X a fc)(he:∀A' cl f cd s H,d4 k (oV X A' N (X.env.qual++"<lambda>") scope cl f cd s H).A->ZE (oV X A' N (X.env.qual++"<lambda>") scope cl f cd s H) body fb)(hok:xO scope X.env.scope N cap X.N=true:=by rfl)(h0:cap[0]?=some none:=by rfl)(hp:N[0]?=some pn:=by rfl)(af:scope.names.lookup pn=some .local:=by rfl)(dL:scope.isCoroutine=false:=by rfl)(cf:scope.isGenerator=false:=by rfl)(hq:X.env.qual=x++".<locals>.":=by rfl)(cg:M2 params X.env=([],[]):=by rfl)(hb:∀(cl:List (Bf×Av)) (ay pm:Aa) (c:Av) (ct u:Aa),Gk (Ja "<lambda>" (X.env.qual++"<lambda>") params (.expr body) scope cl .none ay pm (.ref c) ct) ⟨[u],[]⟩=Cr [(pn,u)]:=by intros;rfl)(hg:Gl X "sorted":=by rfl)(hv:B5 "sorted" = some (.builtin "sorted"):=by decide +kernel)(fZ:Gl X "range":=by rfl)(eO:B5 "range" = some (.type "range"):=by decide +kernel)(bH:Ab [a] X.env=(false,Ce a X.env)::Ab [] X.env:=by exact u4 rfl)(cb:(C8 az (Ab [] X.env)).any (·.1)=false:=by exact J3 rfl)(hs:Ab [.Call (.Name "range" p2) [a] [] az] X.env=(false,Ce (.Call (.Name "range" p2) [a] [] az) X.env)::Ab [] X.env:=by exact u4 rfl):ZF X (.Call (.Name "sorted" p) [.Call (.Name "range" p2) [a] [] az] [⟨some "key",.Lambda params body scope lp,kp⟩] pos) (qB cap (Z7 fc) fb):=
 ⟨have ha:=ha.h;
 have he:=λA' cl f cd s H hr=>(he A' cl f cd s H hr).h;
 Pw N cap hm bm hl hr (ų jA cA ha fZ eO bH cb) he hok h0 hp af dL cf hq cg hb hg hv hs⟩
end
def Y6(gt:Nat->Nat->Bool):Nat->Nat->Nat->Nat
 | 0,_,b=>b
 |r+1,j,b=>Y6 gt r (j+1) (if gt j b=true then j else b)
section
variable{X:Cx}{aa:f8}{U:St}{H:Hp}{s:Ai}
def a9.swap{p q:Av×Jy}(J:a9 X (p::q::aa) U H s):a9 X (q::p::aa) U H s:=J.pins_of λr z=>J.pin r (Ac _ (by
 rcases Ad.mp z with z|z
 .rw[z];exact A7 _ A6
 .rcases Ad.mp z with z|z
  .rw[z];exact A6
  .exact A7 _ (A7 _ z)))
def a9.repin'{b:Av}{o o':Jy}{h':Cf}{t':Nat}(J:a9 X ((b,o)::aa) U H s)(hk:∀c u,c≠b->s.heap.get? c=some u->h'.get? c=some u)(ho:h'.get? b=some o')(h0:X.s₀.heap.objs.size<=b)(hc:∀x c,X.env.cells.lookup x=some c->c≠b)(hp:∀p∈X.pn++aa,p.1≠b)(hd:∀v,o'.data≠.cell v):a9 X ((b,o')::aa) U H { s with heap:=h',toks:=t' }:=by obtain⟨_,p2,p3,p4,_⟩:=J.pin (b,o) (Ac _ A6);exact a9.pin1 ((a9.tail J).turned (h':=h') (t':=t') (λc u ne e=>hk c u ne e) p2 p3 (.inr h0) hc hp) ho p2 p3 p4 hd
def a9.gone{b:Av}{o:Jy}{h':Cf}{t':Nat}(J:a9 X ((b,o)::aa) U H s)(hk:∀c u,c≠b->s.heap.get? c=some u->h'.get? c=some u)(h0:X.s₀.heap.objs.size<=b)(hc:∀x c,X.env.cells.lookup x=some c->c≠b)(hp:∀p∈X.pn++aa,p.1≠b):a9 X aa U H { s with heap:=h',toks:=t' }:=by obtain⟨_,p2,p3,p4,_⟩:=J.pin (b,o) (Ac _ A6);exact(a9.tail J).turned (h':=h') (t':=t') (λc u ne e=>hk c u ne e) p2 p3 (.inr h0) hc hp
structure NH(X:Cx)(aa:f8)(U:St)(H:Hp)(A:C1)(it ax:Av)(xs:List V)(Φ:Nat->Jy->Prop)(Sx:Nat->Cf->Prop):Prop where
 W:Nb X.prog X.w A it [it,ax] [it] xs.length (λi v=>∃x,xs[i]?=some x/\e9 x v) Sx
 to:∀(i:Nat) (o:Jy) (more:f8) (H1:Hp) (s1:Ai),j8 H H1->a9 X (more++aa) U H1 s1->s1.heap.get? it=some o->Φ i o->Sx i s1.heap
 of:∀i h,Sx i h->∃o,h.get? it=some o/\Φ i o
 nc:∀i o v,Φ i o->o.data≠.cell v
variable{A:C1}{E:VP}
def tW(X:Cx)(aa:f8)(U:St)(H:Hp)(A:C1)(Z:List Av)(aA:Aa)(xs:List V)(kds:List D):Prop:=
 ∀(i:Nat) (x:V) (u:Aa) (d:D),xs[i]?=some x->e9 x u->kds[i]?=some d->∀(more:f8) (H1:Hp) (s1:Ai),j8 H H1->a9 X (more++aa) U H1 s1 ->
   Ap (B0 X.prog X.w) A (call aA [u]) (EP X (more++aa) U λk H2=>j8 H1 H2/\d8 X.K (K5 Z H2) d k) (λ_ _=>False) s1
def qD(X:Cx)(aa:f8)(U:St)(H:Hp)(A:C1)(Z:List Av)(kds:List D)(gt:Nat->Nat->Bool):Prop:=
 ∀(more:f8) (H1:Hp) (s1:Ai),j8 H H1->a9 X (more++aa) U H1 s1->∀(i j:Nat) (di dj:D) (x y:V) (u v:Aa),kds[i]?=some di->kds[j]?=some dj->d8 X.K (K5 Z H1) di x->d8 X.K (K5 Z H1) dj y->e9 x u->e9 y v ->
  ∀(Q:VP) (E:VP),Q (.bool (gt i j)) s1->Ap (B0 X.prog X.w) A (Gd .Gt u v) Q E s1
theorem Ϯ{it S ax:Av}{xs:List V}{Φ:Nat->Jy->Prop}{Sx:Nat->Cf->Prop}{aA:Aa}{kw:List (Bf×Aa)}{kds:List D}{Z:List Av}{gt:Nat->Nat->Bool}{R:Lf->Ai->Prop}(bj:(∃q,aA = .ref q)\/∃id,aA = .builtin id)(ab:kds.length=xs.length)(h0:X.s₀.heap.objs.size<=it)(h1:X.s₀.heap.objs.size<=S)(ah:S≠it)(hc:∀x c,X.env.cells.lookup x=some c->c≠it/\c≠S)(hp:∀p∈X.pn++aa,p.1≠it/\p.1≠S)(src:NH X aa U H A.in1 it ax xs Φ Sx)(turn:tW X aa U H A.in1 Z aA xs kds)(cR:qD X aa U H A.in1 Z kds gt)(hR:∀b x v H1 s1,xs[b]?=some x->e9 x v->b=Y6 gt (xs.length-1) 1 0->j8 H H1->a9 X aa U H1 s1->R (.ok (.ret v)) s1):
  ∀(r j b:Nat) (H1:Hp) (s1:Ai) (xb:V) (vb bu:Aa) (kb:V) (db:D) (c:Nat) (oI:Jy),xs.length-j=r->j<=xs.length->Y6 gt r j b=Y6 gt (xs.length-1) 1 0->j8 H H1->a9 X ((S,Bk "list" #[vb,bu] c)::(it,oI)::aa) U H1 s1->Φ j oI ->
   xs[b]?=some xb->e9 xb vb->kds[b]?=some db->d8 X.K (K5 Z H1) db kb->e9 kb bu->Ew (B0 X.prog X.w) A (.builtin "max.loop" ⟨[.ref it,aA,.ref S],kw⟩) R s1:=by
 have fx:(Kt "max"++Kt ".loop":String) = "max.loop":=by decide
 have pS:∀(o:Jy),∀p∈X.pn++(it,o)::aa,p.1≠S:=λo p z=>by
  rcases Aw.mp z with z|z
  .exact(hp p (B7 _ z)).2
  .rcases Ad.mp z with z|z
   .rw[z];exact Ch ah
   .exact(hp p (Ac _ z)).2
 have pI:∀(o:Jy),∀p∈X.pn++(S,o)::aa,p.1≠it:=λo p z=>by
  rcases Aw.mp z with z|z
  .exact(hp p (B7 _ z)).1
  .rcases Ad.mp z with z|z
   .rw[z];exact ah
   .exact(hp p (Ac _ z)).1
 intro r
 induction r with
 |zero=>
  intro j b H1 s1 xb vb bu kb db c oI hr hj bx sm J hΦ hvb rxb br rb rv
  have dy:j=xs.length:=by omega
  have gS:s1.heap.get? S=some (Bk "list" #[vb,bu] c):=(J.pin _ (Ac _ A6)).1;have gI:s1.heap.get? it=some oI:=(J.pin _ (Ac _ (A7 _ A6))).1
  have sx:Sx xs.length s1.heap:=by rw[<-dy];exact src.to j oI [(S,Bk "list" #[vb,bu] c),(it,oI)] H1 s1 sm J gI hΦ
  refine codeAny_builtin Je ?_;rw[C6 Di _];show Ap _ A.in1 (Jn (.ref S) >>= _) _ _ _;refine A3 (Ei gS rfl ?_);show Ap _ A.in1 (Ga (Ir (.ref it)) _ >>= _) _ _ _;refine A3 (E5 (src.W.done _ _ _ sx λh' du bN=>?_));have gS':h'.get? S=some (Bk "list" #[vb,bu] c):=bN S _ (by simpa using ah) gS
  have J1:a9 X ((S,Bk "list" #[vb,bu] c)::aa) U H1 { s1 with heap:=h',toks:=du }:=a9.gone (a9.swap J) (λc u ne e=>bN c u (by simpa using ne) e) h0 (λx c e=>(hc x c e).1) (pI _);show Ap _ A.in1 (Hi S (λ_=>#[]) >>= _) _ _ _;refine A3 (F2 gS' rfl (A3 (Gf (w6 ?_))));have hb0:b=Y6 gt (xs.length-1) 1 0:=bx;exact hR b xb vb H1 _ hvb rxb hb0 sm (a9.gone (t':=du) J1 (λc u ne e=>(Bo _ _ (Ch ne)).trans e) h1 (λx c e=>(hc x c e).2) (λp z=>(hp p z).2))
 |succ r ih=>
  intro j b H1 s1 xb vb bu kb db c oI hr hj bx sm J hΦ hvb rxb br rb rv
  have am:j<xs.length:=by omega
  have gS:s1.heap.get? S=some (Bk "list" #[vb,bu] c):=(J.pin _ (Ac _ A6)).1;have gI:s1.heap.get? it=some oI:=(J.pin _ (Ac _ (A7 _ A6))).1;have sx:Sx j s1.heap:=src.to j oI [(S,Bk "list" #[vb,bu] c),(it,oI)] H1 s1 sm J gI hΦ;refine codeAny_builtin Je ?_;rw[C6 Di _]
  show Ap _ A.in1 (Jn (.ref S) >>= _) _ _ _;refine A3 (Ei gS rfl ?_);show Ap _ A.in1 (Ga (Ir (.ref it)) _ >>= _) _ _ _;refine A3 (E5 (src.W.item j _ _ _ am sx λv h' du hP fW bN=>?_));obtain⟨x,hv,rx⟩:=hP;obtain⟨cD,gI',hV⟩:=src.of (j+1) h' fW;have J1:a9 X ((S,Bk "list" #[vb,bu] c)::(it,cD)::aa) U H1 { s1 with heap:=h',toks:=du }:=a9.swap (a9.repin' (a9.swap J) (λc u ne e=>bN c u (by simpa using ne) e) gI' h0 (λx c e=>(hc x c e).1) (pI _) (λw=>src.nc _ _ w hV))
  have fj:kds[j]?=some kds[j]:=A4 (by omega);have dD:Ap (B0 X.prog X.w) A.in1 (call aA [v]) (EP X ((S,Bk "list" #[vb,bu] c)::(it,cD)::aa) U λk H2=>j8 H1 H2/\d8 X.K (K5 Z H2) kds[j] k) (λ_ _=>False) { s1 with heap:=h',toks:=du }:=turn j x v _ hv rx fj [(S,Bk "list" #[vb,bu] c),(it,cD)] H1 _ sm J1
  have dJ:Ap (B0 X.prog X.w) A.in1 (Ga (Hd [v] (call aA [v])) λe=>do
    Hi S λ_=>#[]
    letGo ([v]++[vb,bu].reverse) [e]
    throw e) (EP X ((S,Bk "list" #[vb,bu] c)::(it,cD)::aa) U λk H2=>j8 H1 H2/\d8 X.K (K5 Z H2) kds[j] k) (λ_ _=>False) { s1 with heap:=h',toks:=du }:=
   E5 (Cp (Cn dD (λ_ _ z=>z) λ_ _ z=>z.elim))
  have rest:∀(k:Aa) (s2:Ai),EP X ((S,Bk "list" #[vb,bu] c)::(it,cD)::aa) U (λk H2=>j8 H1 H2/\d8 X.K (K5 Z H2) kds[j] k) k s2 ->
    ∀(P:Mr->Ai->Prop) (E':VP),(∀s3,Ew (B0 X.prog X.w) A (.builtin "max.loop" ⟨[.ref it,aA,.ref S],kw⟩) R s3->P (.again (.builtin "max.loop" ⟨[.ref it,aA,.ref S],kw⟩)) s3) ->
    Ap (B0 X.prog X.w) A.in1 (do
     let better <-Ga (Hd [v,k] do
       let answer <-Gd .Gt k bu
       let yes <-Hd [answer] (Ny answer)
       letGo [answer]
       Cr yes) λe=>do
      Hi S λ_=>#[]
      letGo ([k,v]++[vb,bu].reverse) [e]
      throw e
     if better then
      Hi S λ_=>#[v,k]
      letGo [bu,vb]
     else letGo [v,k]
     Cr (Kc (.builtin "max.loop" ⟨[.ref it,aA,.ref S],kw⟩))) P E' s2:=λk s2 he P E' hP=>by
   obtain⟨kx,H2,J2,rk,aR,rd⟩:=he;refine A3 (E5 (Cp (A3 (cR [(S,Bk "list" #[vb,bu] c),(it,cD)] H2 s2 (sm.trans aR) J2 j b _ _ kx kb k bu fj br rd (rb.mono (x6 aR)) rk rv _ _ ?_))));refine A3 (Cp (De (A3 (Gf (w6 ?_)))));have fJ:s2.heap.get? S=some (Bk "list" #[vb,bu] c):=(J2.pin _ (Ac _ A6)).1
   have aI:Y6 gt r (j+1) (if gt j b=true then j else b)=Y6 gt (xs.length-1) 1 0:=bx
   cases hg:gt j b with
   |true=>rw[hg,z7 rfl]at aI;simp only[if_true];obtain⟨c2,aX⟩:∃c2,(s2.heap.update S (Ct λ_=>#[v,k])).get? S=some (Bk "list" #[v,k] c2):=⟨_,get?_update_seq fJ λ_=>#[v,k]⟩;refine A3 (F2 fJ rfl (A3 (Gf (w6 (hP _ ?_)))));refine ih (j+1) j H2 _ x v k kx _ c2 cD (by omega) am aI (sm.trans aR) ?_ hV hv rx fj rd rk;exact a9.repin' (t':=s2.toks) J2 (λc u ne e=>(Bo _ _ (Ch ne)).trans e) aX h1 (λx c e=>(hc x c e).2) (pS _) (λw z=>by cases z)
   |false=>rw[hg,y3 B3]at aI;simp only[Bj,if_false];refine A3 (Gf (w6 (hP _ ?_)));exact ih (j+1) b H2 _ xb vb bu kb db c cD (by omega) am aI (sm.trans aR) J2 hV hvb rxb br (rb.mono (x6 aR)) rv
  rcases bj with⟨q,rfl⟩|⟨id,rfl⟩
  .show Ap _ A.in1 (Ga (Hd [v] (call (.ref q) [v])) _ >>= _) _ _ _;refine A3 (Cn dJ (λk s2 he=>?_) λ_ _ z=>z.elim);refine rest k s2 he _ _ λs3 z=>?_;exact⟨plainId_quiet Di _,z⟩
  .show Ap _ A.in1 (Ga (Hd [v] (call (.builtin id) [v])) _ >>= _) _ _ _;refine A3 (Cn dJ (λk s2 he=>?_) λ_ _ z=>z.elim);refine rest k s2 he _ _ λs3 z=>?_;exact⟨plainId_quiet Di _,z⟩
end
section
variable{X:Cx}{aa:f8}{U:St}{H:Hp}{s:Ai}{A:C1}{E:VP}
theorem Yu{it S ax:Av}{xs:List V}{Φ:Nat->Jy->Prop}{Sx:Nat->Cf->Prop}{aA:Aa}{kw:List (Bf×Aa)}{kds:List D}{Z:List Av}{gt:Nat->Nat->Bool}{R:Lf->Ai->Prop}{c:Nat}{oI:Jy}(bj:(∃q,aA = .ref q)\/∃id,aA = .builtin id)(ab:kds.length=xs.length)(h0:X.s₀.heap.objs.size<=it)(h1:X.s₀.heap.objs.size<=S)(ah:S≠it)(hc:∀x c,X.env.cells.lookup x=some c->c≠it/\c≠S)(hp:∀p∈X.pn++aa,p.1≠it/\p.1≠S)(src:NH X aa U H A.in1 it ax xs Φ Sx)(turn:tW X aa U H A.in1 Z aA xs kds)(cR:qD X aa U H A.in1 Z kds gt)(hR:∀b x v H1 s1,xs[b]?=some x->e9 x v->b=Y6 gt (xs.length-1) 1 0->j8 H H1->a9 X aa U H1 s1->R (.ok (.ret v)) s1)(hE:xs=[]->∃x d,kw=[(x,d)]/\∀s1,a9 X aa U H s1->R (.ok (.ret d)) s1)(J:a9 X ((S,Bk "list" #[] c)::(it,oI)::aa) U H s)(hΦ:Φ 0 oI):Ew (B0 X.prog X.w) A (.builtin "max.loop" ⟨[.ref it,aA,.ref S],kw⟩) R s:=by
 have fx:(Kt "max"++Kt ".loop":String) = "max.loop":=by decide
 have pS:∀(o:Jy),∀p∈X.pn++(it,o)::aa,p.1≠S:=λo p z=>by
  rcases Aw.mp z with z|z
  .exact(hp p (B7 _ z)).2
  .rcases Ad.mp z with z|z
   .rw[z];exact Ch ah
   .exact(hp p (Ac _ z)).2
 have pI:∀(o:Jy),∀p∈X.pn++(S,o)::aa,p.1≠it:=λo p z=>by
  rcases Aw.mp z with z|z
  .exact(hp p (B7 _ z)).1
  .rcases Ad.mp z with z|z
   .rw[z];exact ah
   .exact(hp p (Ac _ z)).1
 have gS:s.heap.get? S=some (Bk "list" #[] c):=(J.pin _ (Ac _ A6)).1;have gI:s.heap.get? it=some oI:=(J.pin _ (Ac _ (A7 _ A6))).1;have sx:Sx 0 s.heap:=src.to 0 oI [(S,Bk "list" #[] c),(it,oI)] H s (j8.refl H) J gI hΦ;refine codeAny_builtin Je ?_;rw[C6 Di _]
 show Ap _ A.in1 (Jn (.ref S) >>= _) _ _ _;refine A3 (Ei gS rfl ?_);show Ap _ A.in1 (Ga (Ir (.ref it)) _ >>= _) _ _ _
 cases hZ:xs with
 |nil=>
  obtain⟨x,d,rfl,hd⟩:=hE hZ
  have sx':Sx xs.length s.heap:=by rw[hZ];exact sx
  refine A3 (E5 (src.W.done _ _ _ sx' λh' du bN=>?_));have J1:a9 X ((S,Bk "list" #[] c)::aa) U H { s with heap:=h',toks:=du }:=a9.gone (a9.swap J) (λc u ne e=>bN c u (by simpa using ne) e) h0 (λx c e=>(hc x c e).1) (pI _);refine A3 (Kr (w6 ?_));exact hd _ (a9.tail J1)
 |cons v0 vr=>
  have hn:0<xs.length:=by rw[hZ];exact Nat.succ_pos _
  refine A3 (E5 (src.W.item 0 _ _ _ hn sx λv h' du hP fW bN=>?_));obtain⟨x,hv,rx⟩:=hP;obtain⟨cD,gI',hV⟩:=src.of (0+1) h' fW;have J1:a9 X ((S,Bk "list" #[] c)::(it,cD)::aa) U H { s with heap:=h',toks:=du }:=a9.swap (a9.repin' (a9.swap J) (λc u ne e=>bN c u (by simpa using ne) e) gI' h0 (λx c e=>(hc x c e).1) (pI _) (λw=>src.nc _ _ w hV));have fj:kds[0]?=some kds[0]:=A4 (by omega)
  have dD:Ap (B0 X.prog X.w) A.in1 (call aA [v]) (EP X ((S,Bk "list" #[] c)::(it,cD)::aa) U λk H2=>j8 H H2/\d8 X.K (K5 Z H2) kds[0] k) (λ_ _=>False) { s with heap:=h',toks:=du }:=turn 0 x v _ hv rx fj [(S,Bk "list" #[] c),(it,cD)] H _ (j8.refl H) J1
  have dJ:Ap (B0 X.prog X.w) A.in1 (Ga (Hd [v] (call aA [v])) λe=>do
    Hi S λ_=>#[]
    letGo ([v]++[].reverse) [e]
    throw e) (EP X ((S,Bk "list" #[] c)::(it,cD)::aa) U λk H2=>j8 H H2/\d8 X.K (K5 Z H2) kds[0] k) (λ_ _=>False) { s with heap:=h',toks:=du }:=
   E5 (Cp (Cn dD (λ_ _ z=>z) λ_ _ z=>z.elim))
  have rest:∀(k:Aa) (s2:Ai),EP X ((S,Bk "list" #[] c)::(it,cD)::aa) U (λk H2=>j8 H H2/\d8 X.K (K5 Z H2) kds[0] k) k s2 ->
    ∀(P:Mr->Ai->Prop) (E':VP),(∀s3,Ew (B0 X.prog X.w) A (.builtin "max.loop" ⟨[.ref it,aA,.ref S],kw⟩) R s3->P (.again (.builtin "max.loop" ⟨[.ref it,aA,.ref S],kw⟩)) s3) ->
    Ap (B0 X.prog X.w) A.in1 (do
     Hi S λ_=>#[v,k]
     Cr (Kc (.builtin "max.loop" ⟨[.ref it,aA,.ref S],kw⟩))) P E' s2:=λk s2 he P E' hP=>by
   obtain⟨kx,H2,J2,rk,aR,rd⟩:=he;have fJ:s2.heap.get? S=some (Bk "list" #[] c):=(J2.pin _ (Ac _ A6)).1;obtain⟨c2,aX⟩:∃c2,(s2.heap.update S (Ct λ_=>#[v,k])).get? S=some (Bk "list" #[v,k] c2):=⟨_,get?_update_seq fJ λ_=>#[v,k]⟩;refine A3 (F2 fJ rfl (w6 (hP _ ?_)));refine Ϯ bj ab h0 h1 ah hc hp src turn cR hR (xs.length-1) 1 0 H2 _ x v k kx _ c2 cD rfl hn rfl aR ?_ hV hv rx fj rd rk
   exact a9.repin' (t':=s2.toks) J2 (λc u ne e=>(Bo _ _ (Ch ne)).trans e) aX h1 (λx c e=>(hc x c e).2) (pS _) (λw z=>by cases z)
  rcases bj with⟨q,rfl⟩|⟨id,rfl⟩
  .show Ap _ A.in1 (Ga (Hd [v] (call (.ref q) [v])) _ >>= _) _ _ _;refine A3 (Cn dJ (λk s2 he=>?_) λ_ _ z=>z.elim);refine rest k s2 he _ _ λs3 z=>?_;exact⟨plainId_quiet Di _,z⟩
  .show Ap _ A.in1 (Ga (Hd [v] (call (.builtin id) [v])) _ >>= _) _ _ _;refine A3 (Cn dJ (λk s2 he=>?_) λ_ _ z=>z.elim);refine rest k s2 he _ _ λs3 z=>?_;exact⟨plainId_quiet Di _,z⟩
def ė{it ax:Av}{xs:List V}(hh:A.handled=none)(ah:ax≠it):Nb X.prog X.w A.in1 it [it,ax] [it] xs.length (λi v=>∃x,xs[i]?=some x/\e9 x v) (λi h=>h.IsListIter it ax i/\∃its:List Aa,Y7 xs its/\h.IsList ax its.toArray) where
 sub:=λb hb=>by simp at hb;simp[hb]
 frame:=λ_ _ _ st hk=>⟨st.1.at λo e=>hk it (by simp) o e,let ⟨its,rv,hl⟩:=st.2;⟨its,rv,hl.at λo e=>hk ax (by simp) o e⟩⟩
 item:=λi s Q E hi st hQ=>by
  obtain⟨eC,its,rv,hl⟩:=st;have l:=rv.length
  have cu:i<its.length:=by omega
  obtain⟨u,hu,ru⟩:=rv.get (A4 hi);refine wpAny_pyNext_list_item eC hl (x:=u) (by simpa using hu) λh' gw cv=>?_;exact hQ _ h' s.toks ⟨_,A4 hi,ru⟩ ⟨gw,its,rv,hl.extBut cv.extBut ah⟩ λb o hb e=>cv.extBut b o (λh=>hb (by simp[h])) e
 done:=λs Q E st hQ=>by obtain⟨eC,its,rv,hl⟩:=st;have l:=rv.length;exact wpAny_pyNext_list_end (A:=A.in1) hh eC hl (by simp[l]) λh' fT=>hQ h' s.toks λb o hb e=>fT b o (λh=>hb (by simp[h])) e
 self:=λ_ _ _ _ st hQ=>wpAny_pyIter_listiter st.1 hQ
def Zc{it ax:Av}{xs:List V}(hh:A.handled=none)(ah:ax≠it):Nb X.prog X.w A.in1 it [it,ax] [it] xs.length (λi v=>∃x,xs[i]?=some x/\e9 x v) (λi h=>h.IsTupleIter it ax i/\∃its:List Aa,Y7 xs its/\h.IsTuple ax its.toArray) where
 sub:=λb hb=>by simp at hb;simp[hb]
 frame:=λ_ _ _ st hk=>⟨st.1.at λo e=>hk it (by simp) o e,let ⟨its,rv,hl⟩:=st.2;⟨its,rv,hl.at λo e=>hk ax (by simp) o e⟩⟩
 item:=λi s Q E hi st hQ=>by
  obtain⟨eC,its,rv,hl⟩:=st;have l:=rv.length
  have cu:i<its.length:=by omega
  obtain⟨u,hu,ru⟩:=rv.get (A4 hi);refine G6 eC hl (x:=u) (by simpa using hu) λh' gw cv=>?_;exact hQ _ h' s.toks ⟨_,A4 hi,ru⟩ ⟨gw,its,rv,hl.extBut cv.extBut ah⟩ λb o hb e=>cv.extBut b o (λh=>hb (by simp[h])) e
 done:=λs Q E st hQ=>by obtain⟨eC,its,rv,hl⟩:=st;have l:=rv.length;exact Is (A:=A.in1) hh eC hl (by simp[l]) λh' fT=>hQ h' s.toks λb o hb e=>fT b o (λh=>hb (by simp[h])) e
 self:=λ_ _ _ _ st hQ=>wpAny_pyIter_tupleiter st.1 hQ
def LH{ax:Av}{xs:List V}{aA:Aa}{kw:List (Bf×Aa)}{kds:List D}{Z:List Av}{gt:Nat->Nat->Bool}{R:Lf->Ai->Prop}{P:Mr->Ai->Prop}(bj:(∃q,aA = .ref q)\/∃id,aA = .builtin id)(hh:A.handled=none)(I:a9 X aa U H s)(ab:kds.length=xs.length)(dg:(∀(more:f8) (H1:Hp) (s1:Ai),j8 H H1->a9 X (more++aa) U H1 s1->∃its:List Aa,Y7 xs its/\s1.heap.IsList ax its.toArray)\/(∀(more:f8) (H1:Hp) (s1:Ai),j8 H H1->a9 X (more++aa) U H1 s1->∃its:List Aa,Y7 xs its/\s1.heap.IsTuple ax its.toArray))(turn:tW X aa U H A.in1 Z aA xs kds)(cR:qD X aa U H A.in1 Z kds gt)(hR:∀b x v H1 s1,xs[b]?=some x->e9 x v->b=Y6 gt (xs.length-1) 1 0->j8 H H1->a9 X aa U H1 s1->R (.ok (.ret v)) s1)(hE:xs=[]->∃x d,kw=[(x,d)]/\∀s1,a9 X aa U H s1->R (.ok (.ret d)) s1)(hP:∀c' s',c'.quiet=true->Ew (B0 X.prog X.w) A c' R s'->P (.again c') s'):
  Ap (B0 X.prog X.w) A.in1 (do
   let it <-N3 (.ref ax)
   let l <-Nf []
   Cr (Kc (.builtin "max.loop" ⟨[it,aA,l],kw⟩))) P E s:=by
 have axlt:ax<s.heap.objs.size:=by
  rcases dg with h|h
  .obtain⟨_,_,o,e,_⟩:=h [] H s (j8.refl H) I;exact Ao e
  .obtain⟨_,_,o,e,_⟩:=h [] H s (j8.refl H) I;exact Ao e
 have jt:∀y c',X.env.cells.lookup y=some c'->c'<s.heap.objs.size:=λy c' z=>by obtain⟨v,o,ho,_⟩:=I.cell y c' z;exact Ao ho
 have iF:∀w∈X.pn++aa,w.1<s.heap.objs.size:=λw z=>Ao (I.pin w z).1
 have go:∀(oI:Jy) (Φ:Nat->Jy->Prop) (Sx:Nat->Cf->Prop),(∀v,oI.data≠.cell v)->oI.isFreed=false->Φ 0 oI->NH X aa U H A.in1 s.heap.objs.size ax xs Φ Sx ->
   Ap (B0 X.prog X.w) A.in1 (do
    let l <-Nf []
    Cr (Kc (.builtin "max.loop" ⟨[.ref s.heap.objs.size,aA,l],kw⟩))) P E { s with heap:=s.heap.push oI }:=λoI Φ Sx hnc bT hΦ src=>by
  have z1:(s.heap.push oI).objs.size=s.heap.objs.size+1:=Dr ..;refine A3 (Hv (w6 (hP _ _ (plainId_quiet Di _) ?_)) (Bg _));show Ew _ _ (.builtin "max.loop" ⟨[.ref s.heap.objs.size,aA,.ref (s.heap.push oI).objs.size],kw⟩) R { s with heap:=(s.heap.push oI).push (Bk "list" #[] 0) };rw[z1]
  have I1:a9 X ((s.heap.objs.size,oI)::aa) U H { s with heap:=s.heap.push oI,toks:=s.toks }:=a9.pin1 (I.kept (h':=s.heap.push oI) (t':=s.toks) λb u e=>A8 _ e) (Ar _ bT) (I.hok.fresh (Aj _)) (D8 I.lt) (I.nofs (Aj _)) hnc
  have I2:a9 X ((s.heap.objs.size+1,Bk "list" #[] 0)::(s.heap.objs.size,oI)::aa) U H { s with heap:=(s.heap.push oI).push (Bk "list" #[] 0),toks:=s.toks }:=by have g:=Ar (s.heap.push oI) (o:=Bk "list" #[] 0) rfl;rw[z1]at g;exact a9.pin1 (I1.kept (h':=(s.heap.push oI).push (Bk "list" #[] 0)) (t':=s.toks) λb u e=>A8 _ e) g (I.hok.fresh (Em _)) (D8 (C2 I.lt)) (I.nofs (Em _)) (λv z=>by cases z)
  exact Yu (S:=s.heap.objs.size+1) bj ab I.sz (Nat.le_succ_of_le I.sz) (D8 (Dy _)) (λx c e=>⟨Aq (jt x c e),Aq (C2 (jt x c e))⟩)
   (λp z=>⟨Aq (iF p z),Aq (C2 (iF p z))⟩) src turn cR hR hE I2 hΦ
 have jm:ax≠s.heap.objs.size:=Aq axlt;rcases dg with hs|hs
 .obtain⟨its,rv,hl⟩:=hs [] H s (j8.refl H) I;refine A3 (Gq hl ?_)
  refine go { cls:=.type "list_iterator",data:=.fields #[.ref ax,.int 0 0] } (λi o=>o.cls = .type "list_iterator"/\o.data = .fields #[.ref ax,.int i 0]) (λi h=>h.IsListIter s.heap.objs.size ax i/\∃its:List Aa,Y7 xs its/\h.IsList ax its.toArray) (λv z=>by cases z) rfl ⟨rfl,rfl⟩
   ⟨ė hh jm,λi o more H1 s1 sm J g hΦ=>⟨⟨o,g,hΦ.1,hΦ.2⟩,hs more H1 s1 sm J⟩,λi h z=>let ⟨o,g,a,b⟩:=z.1;⟨o,g,a,b⟩,λi o v hΦ z=>by rw[hΦ.2]at z;cases z⟩
 .obtain⟨its,rv,hl⟩:=hs [] H s (j8.refl H) I;refine A3 (Ep hl ?_)
  refine go { cls:=.type "tuple_iterator",data:=.fields #[.ref ax,.int 0 0] } (λi o=>o.cls = .type "tuple_iterator"/\o.data = .fields #[.ref ax,.int i 0]) (λi h=>h.IsTupleIter s.heap.objs.size ax i/\∃its:List Aa,Y7 xs its/\h.IsTuple ax its.toArray) (λv z=>by cases z) rfl ⟨rfl,rfl⟩
   ⟨Zc hh jm,λi o more H1 s1 sm J g hΦ=>⟨⟨o,g,hΦ.1,hΦ.2⟩,hs more H1 s1 sm J⟩,λi h z=>let ⟨o,g,a,b⟩:=z.1;⟨o,g,a,b⟩,λi o v hΦ z=>by rw[hΦ.2]at z;cases z⟩
def XX(a v:Aa):Lj "max" ⟨[a],[(Bt "key",v)]⟩:=by unfold Lj;kernel_rfl
def Zx(a v d:Aa):Lj "max" ⟨[a],[(Bt "key",v),(Bt "default",d)]⟩:=by unfold Lj;kernel_rfl
def Zw(a b v:Aa):Lj "max" ⟨[a,b],[(Bt "key",v)]⟩:=by unfold Lj;kernel_rfl
variable{ax:Av}{xs:List V}{aA:Aa}{kds:List D}{Z:List Av}{gt:Nat->Nat->Bool}{Q:VP}
def OX(bj:(∃q,aA = .ref q)\/∃id,aA = .builtin id)(hh:A.handled=none)(I:a9 X aa U H s)(ab:kds.length=xs.length)(dg:(∀(more:f8) (H1:Hp) (s1:Ai),j8 H H1->a9 X (more++aa) U H1 s1->∃its:List Aa,Y7 xs its/\s1.heap.IsList ax its.toArray)\/(∀(more:f8) (H1:Hp) (s1:Ai),j8 H H1->a9 X (more++aa) U H1 s1->∃its:List Aa,Y7 xs its/\s1.heap.IsTuple ax its.toArray))(turn:tW X aa U H A.in1 Z aA xs kds)(cR:qD X aa U H A.in1 Z kds gt)(hn:xs≠[])(hR:∀b x v H1 s1,xs[b]?=some x->e9 x v->b=Y6 gt (xs.length-1) 1 0->j8 H H1->a9 X aa U H1 s1->Q v s1):
  Ap (B0 X.prog X.w) A (call (.builtin "max") [.ref ax] [(Bt "key",aA)]) Q E s:=by
 have fx:(Kt "max"++Kt ".loop":String) = "max.loop":=by decide
 refine kmk_tree Lr L8 L9 (XX _ _) ?_
 have fin:=LH (E:=E) (P:=λfin s'=>match fin with
   | .done f=>(match (Oc f:Lf) with|.ok (.ret v)=>Q v s'|.ok _=>False|.error e=>E e s')
   | .again c'=>c'.quiet=true/\Ew (B0 X.prog X.w) A c' (λr s'=>match r with|.ok (.ret v)=>Q v s'|.ok _=>False|.error e=>E e s') s') (kw:=[]) bj hh I ab dg turn cR (λb x v H1 s1 a0 a1 a2 a3 a4=>hR b x v H1 s1 a0 a1 a2 a3 a4) (λz=>w9 z hn) (λc' s' h1 h2=>⟨h1,h2⟩)
 rcases bj with⟨q,rfl⟩|⟨id,rfl⟩
 .show Ap _ A.in1 (C7 "max" ["key","default"] 0 ⟨[],[(Bt "key",.ref q)]⟩ >>= _) _ _ s;refine A3 (Ey (show C7 "max" ["key","default"] 0 ⟨[],[(Bt "key",.ref q)]⟩=Cr [some (.ref q),none] from rfl) ?_);refine A3 (w6 ?_);exact fin
 .show Ap _ A.in1 (C7 "max" ["key","default"] 0 ⟨[],[(Bt "key",.builtin id)]⟩ >>= _) _ _ s;refine A3 (Ey (show C7 "max" ["key","default"] 0 ⟨[],[(Bt "key",.builtin id)]⟩=Cr [some (.builtin id),none] from rfl) ?_);refine A3 (w6 ?_);exact fin
def ZK{id:String}{d:Aa}(hh:A.handled=none)(I:a9 X aa U H s)(ab:kds.length=xs.length)(dg:(∀(more:f8) (H1:Hp) (s1:Ai),j8 H H1->a9 X (more++aa) U H1 s1->∃its:List Aa,Y7 xs its/\s1.heap.IsList ax its.toArray)\/(∀(more:f8) (H1:Hp) (s1:Ai),j8 H H1->a9 X (more++aa) U H1 s1->∃its:List Aa,Y7 xs its/\s1.heap.IsTuple ax its.toArray))(turn:tW X aa U H A.in1 Z (.builtin id) xs kds)(cR:qD X aa U H A.in1 Z kds gt)(hE:xs=[]->∀s1,a9 X aa U H s1->Q d s1)(hR:∀b x v H1 s1,xs[b]?=some x->e9 x v->b=Y6 gt (xs.length-1) 1 0->j8 H H1->a9 X aa U H1 s1->Q v s1):
  Ap (B0 X.prog X.w) A (call (.builtin "max") [.ref ax] [(Bt "key",.builtin id),(Bt "default",d)]) Q E s:=by
 refine kmk_tree Lr L8 L9 (Zx _ _ _) ?_
 have fin:=LH (E:=E) (P:=λfin s'=>match fin with
   | .done f=>(match (Oc f:Lf) with|.ok (.ret v)=>Q v s'|.ok _=>False|.error e=>E e s')
   | .again c'=>c'.quiet=true/\Ew (B0 X.prog X.w) A c' (λr s'=>match r with|.ok (.ret v)=>Q v s'|.ok _=>False|.error e=>E e s') s') (kw:=[("default",d)]) (.inr ⟨id,rfl⟩) hh I ab dg turn cR (λb x v H1 s1 a0 a1 a2 a3 a4=>hR b x v H1 s1 a0 a1 a2 a3 a4) (λz=>⟨_,d,rfl,λs1 J=>hE z s1 J⟩) (λc' s' h1 h2=>⟨h1,h2⟩)
 show Ap _ A.in1 (C7 "max" ["key","default"] 0 ⟨[],[(Bt "key",.builtin id),(Bt "default",d)]⟩ >>= _) _ _ s;refine A3 (Ey (show C7 "max" ["key","default"] 0 ⟨[],[(Bt "key",.builtin id),(Bt "default",d)]⟩=Cr [some (.builtin id),some d] from rfl) ?_);refine A3 (w6 ?_);exact fin
def ZJ{id:String}{x y:V}{u v:Aa}(ru:e9 x u)(rv:e9 y v)(hh:A.handled=none)(I:a9 X aa U H s)(ab:kds.length=2)(turn:∀(o:Jy) (t:Nat),tW X ((s.heap.objs.size,o)::aa) U H A.in1 Z (.builtin id) [x,y] kds)(cR:∀(o:Jy),qD X ((s.heap.objs.size,o)::aa) U H A.in1 Z kds gt)(hR:∀w H1 s1,e9 (if gt 1 0=true then y else x) w->j8 H H1->a9 X aa U H1 s1->Q w s1):
  Ap (B0 X.prog X.w) A (call (.builtin "max") [u,v] [(Bt "key",.builtin id)]) Q E s:=by
 refine kmk_tree Lr L8 L9 (Zw _ _ _) ?_;show Ap _ A.in1 (C7 "max" ["key","default"] 0 ⟨[],[(Bt "key",.builtin id)]⟩ >>= _) _ _ s;refine A3 (Ey (show C7 "max" ["key","default"] 0 ⟨[],[(Bt "key",.builtin id)]⟩=Cr [some (.builtin id),none] from rfl) ?_);show Ap _ A.in1 (Oa [u,v] >>= _) _ _ s
 refine A3 (Cb ?_)
 have I1:a9 X ((s.heap.objs.size,{ cls:=Cm "tuple",data:=Ju #[u,v] })::aa) U H { s with heap:=s.heap.push { cls:=Cm "tuple",data:=Ju #[u,v] },toks:=s.toks }:=a9.pin1 (I.kept (t':=s.toks) λb u e=>A8 _ e) (Ar _ rfl) (I.hok.fresh (Aj _)) (D8 I.lt) (I.nofs (Aj _)) (λv z=>by cases z)
 exact LH (E:=E) (ax:=s.heap.objs.size) (xs:=[x,y]) (P:=λfin s'=>match fin with
   | .done f=>(match (Oc f:Lf) with|.ok (.ret v)=>Q v s'|.ok _=>False|.error e=>E e s')
   | .again c'=>c'.quiet=true/\Ew (B0 X.prog X.w) A c' (λr s'=>match r with|.ok (.ret v)=>Q v s'|.ok _=>False|.error e=>E e s') s') (kw:=[]) (.inr ⟨id,rfl⟩) hh I1 ab
  (.inr λmore H1 s1 sm J=>⟨[u,v],.cons ru (.cons rv .nil),_,(J.pin (s.heap.objs.size,{ cls:=Cm "tuple",data:=Ju #[u,v] }) (Ac _ (Ac _ A6))).1,rfl,_,rfl⟩) (turn _ 0) (cR _) (λb z w H1 s1 a1 a0 a2 a3 a4=>by
   have e:b=if gt 1 0=true then 1 else 0:=a2
   refine hR w H1 s1 ?_ a3 (a9.tail a4)
   cases hg:gt 1 0 with
   |true=>rw[hg,z7 rfl]at e;rw[z7 rfl];subst e;cases a1;exact a0
   |false=>
    rw[hg,y3 B3]at e;rw[y3 B3];subst e;cases a1
    exact a0) (λz=>by cases z) (λc' s' h1 h2=>⟨h1,h2⟩)
end
def AR:D->Option Int
 | .tup xs=>some xs.length
 | .lst xs=>some xs.length
 |_=>none
def oW:List D->Option (List Int)
 | []=>some []
 |d::ds=>match AR d with|some n=>(match oW ds with|some ns=>some (n::ns)|none=>none)|none=>none
theorem Pm:∀{ds:List D} {ns:List Int},oW ds=some ns->ns.length=ds.length
 | [],ns,e=>by cases e;rfl
 |d::ds,ns,e=>by
  unfold oW at e;split at e
  .split at e
   .rename_i h;cases e;rw[As,As,Pm h]
   .cases e
  .cases e
theorem R0:∀{ds:List D} {ns:List Int} {i:Nat} {d:D} {n:Int},oW ds=some ns->ds[i]?=some d->ns[i]?=some n->AR d=some n
 | [],_,i,d,n,_,h,_=>by simp at h
 |d'::ds,ns,i,d,n,e,h1,h2=>by
  unfold oW at e;split at e
  .rename_i m hm;split at e
   .rename_i bK h;cases e
    cases i with
    |zero=>simp at h1 h2;subst h1;subst h2;exact hm
    |succ i=>exact R0 (i:=i) h (by simpa using h1) (by simpa using h2)
   .cases e
  .cases e
def sL(ns:List Int)(i j:Nat):Bool:=decide (ns.getD j 0<ns.getD i 0)
def vO(nss:List (List Int))(i j:Nat):Bool:=HT.lexLt (nss.getD j []) (nss.getD i [])
def qH(gt:Nat->Nat->Bool)(ds:List D):Option D:=ds[Y6 gt (ds.length-1) 1 0]?
section
variable{X:Cx}{aa:f8}{U:St}{H:Hp}{s:Ai}{A:C1}{Z:List Av}{ds:List D}{xs:List V}
theorem RU{ns:List Int}(rr:g9 X.K (K5 Z H) ds xs)(hn:oW ds=some ns):tW X aa U H A Z (.builtin "len") xs (ns.map D.int):=by
 intro i x u d hx ru hd more H1 s1 sm I;rw[Am]at hd
 cases ja:ns[i]? with
 |none=>rw[ja]at hd;cases hd
 |some n=>
  rw[ja]at hd;cases hd;have rr1:=rr.mono (x6 sm);obtain⟨dd,eL,rd⟩:=rr1.at hx;have hl:=R0 hn eL ja;have h63:=xC
  cases dd with
  |tup es=>have e:(es.length:Int)=n:=Ba hl;obtain⟨a,ys,rfl,hq,r2⟩:=j5.mp rd;cases ru;obtain⟨its,r',pl,hz⟩:=I.tuple (j9 x8 hq);have ab:=r'.length;have dG:=r2.length;exact len_tuple pl (by simp only[An]<;>omega) ⟨.int n,H1,I.tok _,⟨s1.toks+1,by rw[An,<-ab,<-dG,e]⟩,j8.refl _,v4.mpr rfl⟩
  |lst es=>have e:(es.length:Int)=n:=Ba hl;obtain⟨a,ys,rfl,hq,r2⟩:=J6.mp rd;cases ru;obtain⟨its,r',pl,hz⟩:=I.list (x8.seq hq);have ab:=r'.length;have dG:=r2.length;exact Calls.call_len_list pl.isList (by simp only[An]<;>omega) ⟨.int n,H1,I.tok _,⟨s1.toks+1,by rw[An,<-ab,<-dG,e]⟩,j8.refl _,v4.mpr rfl⟩
  |non=>cases hl
  |bl _=>cases hl
  |int _=>cases hl
  |str _=>cases hl
  |dct _ _=>cases hl
theorem GL(ns:List Int):qD X aa U H A Z (ns.map D.int) (sL ns):=by
 intro more H1 s1 sm I i j di dj x y u v hi hj rx ry ru rv Q E q;rw[Am]at hi hj
 cases ei:ns[i]? with
 |none=>rw[ei]at hi;cases hi
 |some a=>
  cases ej:ns[j]? with
  |none=>rw[ej]at hj;cases hj
  |some b=>rw[ei]at hi;rw[ej]at hj;cases hi;cases hj;rw[v4]at rx ry;subst rx;subst ry;obtain⟨t,rfl⟩:=ru;obtain⟨t',rfl⟩:=rv;refine Ot A s1 a t b t' X.prog X.w E Q ?_;unfold sL at q;rw[J5 ei,J5 ej]at q;exact q
theorem ZX(nss:List (List Int))(hu:A.units<D4):qD X aa U H A Z (nss.map λns=>D.tup (ns.map D.int)) (vO nss):=by
 intro more H1 s1 sm I i j di dj x y u v hi hj rx ry ru rv Q E q;rw[Am]at hi hj
 cases ei:nss[i]? with
 |none=>rw[ei]at hi;cases hi
 |some a=>
  cases ej:nss[j]? with
  |none=>rw[ej]at hj;cases hj
  |some b=>rw[ei]at hi;rw[ej]at hj;cases hi;cases hj;obtain⟨p1,o1,i1,n1,rfl,g1,c1,d1,ia1⟩:=sW I (rx.mono x8) ru;obtain⟨p2,o2,i2,n2,rfl,g2,c2,d2,ia2⟩:=sW I (ry.mono x8) rv;unfold vO at q;rw[J5 ei,J5 ej]at q;exact PX ⟨o1,g1,c1,n1,d1⟩ ⟨o2,g2,c2,n2,d2⟩ ia1 ia2 hu q
def IV(gn:i5 X.K H a xs\/i8 X.K (K5 Z H) a xs):(∀(more:f8) (H1:Hp) (s1:Ai),j8 H H1->a9 X (more++aa) U H1 s1->∃its:List Aa,Y7 xs its/\s1.heap.IsList a its.toArray) \/
  (∀(more:f8) (H1:Hp) (s1:Ai),j8 H H1->a9 X (more++aa) U H1 s1->∃its:List Aa,Y7 xs its/\s1.heap.IsTuple a its.toArray):=by
 rcases gn with z|z
 .exact .inl λmore H1 s1 sm I=>let ⟨its,rv,pl,_⟩:=I.list (sm.seq z);⟨its,rv,pl.isList⟩
 .exact .inr λmore H1 s1 sm I=>let ⟨its,rv,pl,_⟩:=I.tuple (j9 (x8.trans sm) z);⟨its,rv,pl⟩
end
section
variable{X:Cx}{e body dflt ea eb:Expr}{params:Mo}{scope:Scope}{lp kp kp2 p pos:Hq}{fa:EL}{fb fd f1 f2:ED}
def xD(ds:List D)(d0:D):Option D:=match oW ds with|some ns=>(match ds with|[]=>some d0|_::_=>qH (sL ns) ds)|none=>none
def zT(fa:EL)(fd:ED):ED:=λY=>match fa Y with|some ds=>(match fd Y with|some d0=>xD ds d0|none=>none)|none=>none
def Qk(hc:X.calm=true)(hm:X.mg "max" = none)(hml:X.mg "len" = none)(ha:ZQ X e fa)(hd:ZE X dflt fd)(hg:Gl X "max":=by rfl)(jz:Gl X "len":=by rfl)(hv:B5 "max" = some (.builtin "max"):=by decide +kernel)(hvl:B5 "len" = some (.builtin "len"):=by decide +kernel)(hs:Ab [e] X.env=(false,Ce e X.env)::Ab [] X.env:=by exact u4 rfl):ZE X (.Call (.Name "max" p) [e] [⟨some "key",.Name "len" lp,kp⟩,⟨some "default",dflt,kp2⟩] pos) (zT fa fd):=by
 have ha:=ha.h;have hd:=hd.h;refine⟨?_⟩;intro aa s U H Q I h;obtain⟨Y,d,B,H0,V0,Z,e1,r,q⟩:=h;unfold zT at e1;split at e1
 .rename_i ds aH;split at e1
  .rename_i d0 ed0;refine Es (oE I hg hm hv ?_ (by decide) (by decide))
   have bX:C8 pos (Ab [e] X.env)=(false,Ce e X.env)::C8 pos (Ab [] X.env):=by rw[hs];rfl
   refine Fz ?_ bX (by rw[bX];rfl)
   refine jE (J4 ha Y8 hs pos aa s U H (λvs H1=>∃a xs,vs=[.ref a]/\j8 H H1/\(i5 X.K H1 a xs\/i8 X.K (K5 Z H1) a xs)/\g9 X.K (K5 Z H1) ds xs) I ⟨Y,ds,B,H0,V0,Z,aH,r,λa xs H1 s1 hq rr=>⟨a,xs,rfl,s1,hq,rr⟩⟩) λus s1 vs H1 I1 gy ⟨a,xs,cZ,cU,gn,rr⟩=>?_;subst cZ;obtain⟨u,rfl,ru⟩:=l9 gy;cases ru;have R1:=r.mono cU;show Ap _ _ (evalAll ((do let v <-Ce (.Name "len" lp) X.env;L0 pos;Cr v)::(do let v <-Ce dflt X.env;L0 pos;Cr v)::[])) _ _ s1
   refine Gj (A3 (oE I1 jz hml hvl (A3 (Go (w6 ?_))) (by decide) (by decide)));refine Gj (A3 (jE (hd aa s1 U H1 (λv H2=>j8 H1 H2/\d8 X.K (K5 Z H2) d0 v) I1 ⟨Y,d0,B,H0,V0,Z,ed0,R1,λv H2 s2 r2=>⟨s2,r2⟩⟩) λw s2 v0 H2 I2 rw0 ⟨aR,rd0⟩=>A3 (Go (w6 (Jd ?_)))));show Ap _ _ (call (.builtin "max") [.ref a] [(Bt "key",.builtin "len"),(Bt "default",w)]) _ _ s2
   have jh:=rr.mono (x6 aR);have ff:i5 X.K H2 a xs\/i8 X.K (K5 Z H2) a xs:=gn.imp aR.seq (j9 (x6 aR));unfold xD at e1;split at e1
   .rename_i ns hn;have l1:=rr.length;have l2:=Pm hn;refine ZK (I2.ok.hd hc) I2 (by rw[A0];omega) (IV ff) (RU jh hn) (GL ns) (λhx s3 I3=>?_) (λb x v H3 s3 hb rb bx bp I3=>?_)
    .have:ds=[]:=by rw[hx]at l1;exact List.length_eq_zero_iff.mp l1
     subst this;cases e1;exact⟨v0,H2,I3,rw0,q v0 H2 (cU.trans aR) rd0⟩
    .have rr3:=jh.mono (x6 bp);obtain⟨dd,eL,rd⟩:=rr3.at hb
     have:dd=d:=by
      have ah:ds≠[]:=λz=>by rw[z]at eL;simp at eL
      split at e1
      .exact w9 rfl ah
      .unfold qH at e1;rw[l1,<-bx,eL]at e1;exact Ba e1
     subst this;exact⟨x,H3,I3,rb,q x H3 (cU.trans (aR.trans bp)) rd⟩
   .cases e1
  .cases e1
 .cases e1
def wD(a b:D):Option D:=match AR a with|some n=>(match AR b with|some m=>some (if n<m then b else a)|none=>none)|none=>none
def VB(hc:X.calm=true)(hm:X.mg "max" = none)(hml:X.mg "len" = none)(ha:ZE X ea f1)(hb:ZE X eb f2)(hg:Gl X "max":=by rfl)(jz:Gl X "len":=by rfl)(hv:B5 "max" = some (.builtin "max"):=by decide +kernel)(hvl:B5 "len" = some (.builtin "len"):=by decide +kernel)(hs:Ab [ea,eb] X.env=(false,Ce ea X.env)::Ab [eb] X.env:=by exact u4 rfl)(bH:Ab [eb] X.env=(false,Ce eb X.env)::Ab [] X.env:=by exact u4 rfl):ZE X (.Call (.Name "max" p) [ea,eb] [⟨some "key",.Name "len" lp,kp⟩] pos) (d2 wD f1 f2):=by
 have ha:=ha.h;have hb:=hb.h;refine⟨?_⟩;intro aa s U H Q I h;obtain⟨Y,d,B,H0,V0,Z,e1,r,q⟩:=h;obtain⟨x0,y0,ex,ey,e1⟩:=QG e1;refine Es (oE I hg hm hv ?_ (by decide) (by decide))
 have bX:C8 pos (Ab [ea,eb] X.env)=(false,Ce ea X.env)::C8 pos (Ab [eb] X.env):=by rw[hs];rfl
 have hst2:(C8 pos (Ab [eb] X.env)).any (·.1)=false:=by rw[bH];rfl
 refine Fz ?_ bX (by rw[bX,Ex,hst2];rfl)
 refine jE (J4 ha (J4 hb Y8 bH) hs pos aa s U H (λvs H1=>∃x y,vs=[x,y]/\j8 H H1/\d8 X.K (K5 Z H1) x0 x/\d8 X.K (K5 Z H1) y0 y) I
  ⟨Y,x0,B,H0,V0,Z,ex,r,λx H1 s1 rx=>⟨Y,y0,B,H0,V0,Z,ey,r.mono s1,λy H2 s2 ry=>⟨x,y,rfl,s1.trans s2,rx.mono (x6 s2),ry⟩⟩⟩) λus s1 vs H1 I1 gy ⟨x,y,cZ,cU,rx,ry⟩=>?_
 subst cZ
 obtain⟨u,v,rfl,ru,rv⟩:∃u v,us=[u,v]/\e9 x u/\e9 y v:=by
  cases gy with
  |cons a b=>
   cases b with
   |cons c d=>cases d;exact⟨_,_,rfl,a,c⟩
 show Ap _ _ (evalAll ((do let v <-Ce (.Name "len" lp) X.env;L0 pos;Cr v)::[])) _ _ s1
 refine Gj (A3 (oE I1 jz hml hvl (A3 (Go (w6 (Jd ?_)))) (by decide) (by decide)));show Ap _ _ (call (.builtin "max") [u,v] [(Bt "key",.builtin "len")]) _ _ s1;unfold wD at e1;split at e1
 .rename_i n hn;split at e1
  .rename_i m hm'
   have hl:oW [x0,y0]=some [n,m]:=by unfold oW;rw[hn];dsimp only;unfold oW;rw[hm'];rfl
   have rr:g9 X.K (K5 Z H1) [x0,y0] [x,y]:=g9.cons rx (g9.one ry);refine ZJ (kds:=[D.int n,D.int m]) (gt:=sL [n,m]) ru rv (I1.ok.hd hc) I1 rfl (λo t=>RU rr hl) (λo=>GL [n,m]) (λw H2 s2 rw' aR I2=>?_);have g:sL [n,m] 1 0=decide (n<m):=rfl;rw[g]at rw';by_cases dP:n<m
   .rw[z7 dP]at e1;cases e1;rw[K9 dP,z7 rfl]at rw';exact⟨y,H2,I2,rw',q y H2 (cU.trans aR) (ry.mono (x6 aR))⟩
   .rw[y3 dP]at e1;cases e1;rw[Y1 dP,y3 B3]at rw';exact⟨x,H2,I2,rw',q x H2 (cU.trans aR) (rx.mono (x6 aR))⟩
  .cases e1
 .cases e1
def FD(ks ds:List D):Option D:=match ds with
 | []=>none
 |_::_=>(match Z6 ks with
  |some ns=>qH (sL ns) ds
  |none=>(match mB ks with|some nss=>qH (vO nss) ds|none=>none))
def DO(cap:List (Option Nat))(fa:EL)(fb:ED):ED:=λY=>match fa Y with
 |some ds=>(match oQ fb (nF cap Y) ds with|some ks=>FD ks ds|none=>none)
 |none=>none
def Ě{x pn:Bf}{k:Nat}(N:List Bf)(cap:List (Option Nat))(hc:X.calm=true)(hm:X.mg "max" = none)(bm:oU X.K X.mg)(hl:pP X.K X.env.code x=true)(hr:d4 (k+3) X.A)(ha:ZQ X e fa)(he:∀A' cl f cd s H,d4 k (oV X A' N (X.env.qual++"<lambda>") scope cl f cd s H).A->ZE (oV X A' N (X.env.qual++"<lambda>") scope cl f cd s H) body fb)(hok:xO scope X.env.scope N cap X.N=true:=by rfl)(h0:cap[0]?=some none:=by rfl)(hp:N[0]?=some pn:=by rfl)(af:scope.names.lookup pn=some .local:=by rfl)(dL:scope.isCoroutine=false:=by rfl)(cf:scope.isGenerator=false:=by rfl)(hq:X.env.qual=x++".<locals>.":=by rfl)(cg:M2 params X.env=([],[]):=by rfl)(hb:∀(cl:List (Bf×Av)) (ay pm:Aa) (c:Av) (ct u:Aa),Gk (Ja "<lambda>" (X.env.qual++"<lambda>") params (.expr body) scope cl .none ay pm (.ref c) ct) ⟨[u],[]⟩=Cr [(pn,u)]:=by intros;rfl)(hg:Gl X "max":=by rfl)(hv:B5 "max" = some (.builtin "max"):=by decide +kernel)(hs:Ab [e] X.env=(false,Ce e X.env)::Ab [] X.env:=by exact u4 rfl):ZE X (.Call (.Name "max" p) [e] [⟨some "key",.Lambda params body scope lp,kp⟩] pos) (DO cap fa fb):=by
 have ha:=ha.h;have he:=λA' cl f cd s H hr=>(he A' cl f cd s H hr).h;refine⟨?_⟩;intro aa s U H Q I h;have C:=RI hok;obtain⟨Y,d,B,H0,V0,Z,e1,r,q⟩:=h;unfold DO at e1;split at e1
 .rename_i ds aH;split at e1
  .rename_i ks iD;refine Es (oE I hg hm hv ?_ (by decide) (by decide))
   have bX:C8 pos (Ab [e] X.env)=(false,Ce e X.env)::C8 pos (Ab [] X.env):=by rw[hs];rfl
   refine Fz ?_ bX (by rw[bX];rfl)
   refine jE (J4 ha Y8 hs pos aa s U H (λvs H1=>∃a xs,vs=[.ref a]/\j8 H H1/\(i5 X.K H1 a xs\/i8 X.K (K5 Z H1) a xs)/\g9 X.K (K5 Z H1) ds xs) I ⟨Y,ds,B,H0,V0,Z,aH,r,λa xs H1 s1 hq rr=>⟨a,xs,rfl,s1,hq,rr⟩⟩) λus s1 vs H1 I1 gy ⟨a,xs,cZ,cU,gn,rr⟩=>?_;subst cZ;obtain⟨u,rfl,ru⟩:=l9 gy;cases ru;have R1:=r.mono cU;obtain⟨cl,ar,hc1,aX⟩:=KP (env:=X.env) (scope:=scope) λy hy hf=>I1.ok.has y.1 (C.out y hy hf)
   show Ap _ _ (evalAll ((do let v <-Ce (.Lambda params body scope lp) X.env;L0 pos;Cr v)::[])) _ _ s1
   refine Gj (A3 (Tx I1 R1.tb bm hl hq ar cg λf c oc ws t ay pm ct s2 H2 aR I2 hfc hd hws=>A3 (Go (w6 (Jd ?_)))));show Ap _ _ (call (.builtin "max") [.ref a] [(Bt "key",.ref f)]) _ _ s2;have jh:=rr.mono (x6 aR);have ff:i5 X.K H2 a xs\/i8 X.K (K5 Z H2) a xs:=gn.imp aR.seq (j9 (x6 aR));have l1:=rr.length;have l3:=JO iD
   generalize dW:zQ (X.env.qual++"<lambda>") params body scope cl ay pm c ct=fo at I2;have gJ:d4 (k+2) X.A.in1:=d4.in1 hr
   have turn:tW X ((f,fo)::aa) U H2 X.A.in1 Z (.ref f) xs ks:=λi x u d hx ru gH more H3 s3 bp I4=>by
    obtain⟨di,eB,rd⟩:=(jh.mono (x6 bp)).at hx;have ia:s3.heap.get? f=some fo:=(I4.pin (f,fo) (Ac _ (Ac _ A6))).1;rw[<-dW]at ia;obtain⟨uu,gv⟩:=hfc
    exact RY (te:=tD X.K fb) I4 I.ok.frames (gJ.mono (Bg _)) ia ⟨uu,bp _ _ gv⟩ hd hws C.kind C.cell dL cf hc1 aX C.fre
     (λi j z=>let ⟨y,n1,n2,n3⟩:=C.sel i j z;⟨y,n1,n2,n3,C.out _ (Cc n3) rfl⟩) C.len h0 hp af ru (hb cl ay pm c ct u) (he _ _ _ _ _ _ ((gJ.mono (Em _)).deeper _))
     ⟨(nF cap Y).set 0 (some (.sh di)),d,B,H0,V0,Z,IR iD eB gH,((IZ C.inj (r.mono (cU.trans (aR.trans bp)))).set rd),λw H4 gV rw'=>⟨gV,rw'⟩⟩
   have fin:∀{gt:Nat->Nat->Bool},qH gt ds=some d->∀b x v H3 s3,xs[b]?=some x->e9 x v->b=Y6 gt (xs.length-1) 1 0->j8 H2 H3->a9 X ((f,fo)::aa) U H3 s3->EP X aa U Q v s3:=λ{gt} fy b x v H3 s3 aI rb bx bp I3=>by obtain⟨dd,eL,rd⟩:=(jh.mono (x6 bp)).at aI;unfold qH at fy;rw[l1,<-bx,eL]at fy;cases fy;exact⟨x,H3,a9.tail I3,rb,q x H3 (cU.trans (aR.trans bp)) rd⟩
   unfold FD at e1;split at e1
   .cases e1
   .rename_i dh dr
    have ah:xs≠[]:=λz=>by rw[z]at l1;simp at l1
    split at e1
    .rename_i ns hn;have bF:=Z9 hn
     have gr:qD X ((f,fo)::aa) U H2 X.A.in1 Z ks (sL ns):=by rw[bF];exact GL ns
     exact OX (.inl ⟨f,rfl⟩) (I2.ok.hd hc) I2 (by omega) (IV ff) turn gr ah (fin e1)
    .split at e1
     .rename_i nss hn;obtain⟨bF,_⟩:=CV hn
      have gr:qD X ((f,fo)::aa) U H2 X.A.in1 Z ks (vO nss):=by rw[bF];exact ZX nss gJ.units0
      exact OX (.inl ⟨f,rfl⟩) (I2.ok.hd hc) I2 (by omega) (IV ff) turn gr ah (fin e1)
     .cases e1
  .cases e1
 .cases e1
end
end L3
namespace L3
open PySem PySem.Spec PyProof.Rows L2
abbrev oT(xs:Array Nat):Prop:=xs.toList.Pairwise (· < ·)
def AA(h:oT xs){i k:Nat}(hik:i<k)(hk:k<xs.size)(j:Nat):xs.getD i j<xs.getD k j:=by
 have hi:i<xs.size:=Dp hik hk
 have e1:xs.getD i j=xs.toList[i]'(by simpa using hi):=by simp[Eh,hi]
 have e2:xs.getD k j=xs.toList[k]'(by simpa using hk):=by simp[Eh,hk]
 rw[e1,e2];exact Hm.mp h i k _ _ hik
theorem JM(h:oT xs)(j:Nat):∀(fuel lo hi:Nat),lo<=hi->hi<=xs.size->hi-lo<=fuel->(∀i,i<lo->xs.getD i j<j)->(∀i,hi<=i->i<xs.size->j<=xs.getD i j) ->
  Jf xs j fuel lo hi<=xs.size/\(∀i,i<Jf xs j fuel lo hi->xs.getD i j<j)/\(∀i,Jf xs j fuel lo hi<=i->i<xs.size->j<=xs.getD i j)
 | 0,lo,hi,h1,h2,h3,a,b=>by
  have e:lo=hi:=by omega
  subst e;exact⟨h2,a,b⟩
 |fuel+1,lo,hi,h1,h2,h3,a,b=>by
  unfold Jf;by_cases am:lo<hi
  .rw[z7 am];dsimp only
   have hm:(lo+hi) / 2<hi:=by omega
   have cA:lo<=(lo+hi) / 2:=by omega
   by_cases hc:xs.getD ((lo+hi) / 2) j<j
   .rw[z7 hc];refine JM h j fuel _ hi (by omega) h2 (by omega) (λi cu=>?_) b;by_cases e:i=(lo+hi) / 2
    .rw[e];exact hc
    .exact Dp (AA h (by omega:i<(lo+hi) / 2) (by omega) j) hc
   .rw[y3 hc];refine JM h j fuel lo _ cA (by omega) (by omega) a (λi cu dm=>?_);by_cases e:i=(lo+hi) / 2
    .rw[e];omega
    .have:=AA h (by omega:(lo+hi) / 2<i) dm j
     omega
  .rw[y3 am]
   have e:lo=hi:=by omega
   subst e;exact⟨h2,a,b⟩
def yK(h:oT xs)(j:Nat):Be xs j<=xs.size/\(∀i,i<Be xs j->xs.getD i j<j)/\(∀i,Be xs j<=i->i<xs.size->j<=xs.getD i j):=JM h j xs.size 0 xs.size (Bg _) (Aj _) (by omega) (λi hi=>w9 hi (Dv _)) (λi h1 h2=>w9 h2 (Nat.not_lt.mpr h1))
def ϖ(h:oT xs){i:Nat}(hi:i<xs.size):Be xs (xs.getD i 0+1)=i+1:=by
 obtain⟨b1,b2,b3⟩:=yK h (xs.getD i 0+1)
 have ge:∀k m n:Nat,k<xs.size->xs.getD k m=xs.getD k n:=λk m n hk=>by simp[Eh,hk]
 by_cases am:Be xs (xs.getD i 0+1)<=i
 .have:=b3 i am hi
  have e:=ge i (xs.getD i 0+1) 0 hi;omega
 .by_cases hgt:i+1<Be xs (xs.getD i 0+1)
  .have h1:=b2 (i+1) hgt;have h2:=AA h (by omega:i<i+1) (by omega) 0;have e:=ge (i+1) (xs.getD i 0+1) 0 (by omega);omega
  .omega
def Zy(h:oT xs):Be xs 0=0:=by
 obtain⟨b1,b2,b3⟩:=yK h 0;by_cases hz:Be xs 0=0
 .exact hz
 .exact w9 (b2 0 (by omega)) (Dv _)
def PY(h:oT xs)(hn:xs[Be xs j]?≠some j):oT (Ft xs (Be xs j) j):=by
 obtain⟨b1,b2,b3⟩:=yK h j;unfold oT;rw[Hw]
 have ge:∀(k:Nat) (hk:k<xs.toList.length),xs.getD k j=xs.toList[k]:=λk hk=>by
  have bN:k<xs.size:=by simpa using hk
  simp[Eh,bN]
 rw[D0];refine⟨h.sublist (L1 _ _),Ds.mpr ⟨λy hy=>?_,h.sublist (List.drop_sublist _ _)⟩,λx hx y hy=>?_⟩
 .obtain⟨k,hk,rfl⟩:=E3 hy;rw[G8]at hk;rw[List.getElem_drop]
  have gk:Be xs j+k<xs.toList.length:=by omega
  have iW:Be xs j+k<xs.size:=by simpa using gk
  have hb:=b3 _ (Lq _ k) iW;rw[ge _ gk]at hb;rcases Nat.lt_or_ge j (xs.toList[Be xs j+k]) with z|z
  .exact z
  .exfalso
   have e:xs.toList[Be xs j+k]=j:=by omega
   by_cases k0:k=0
   .subst k0;apply hn
    have hs:Be xs j<xs.size:=by simpa using iW
    rw[En hs];simpa using e
   .have hs:Be xs j<xs.size:=by omega
    have h1:=AA h (by omega:Be xs j<Be xs j+k) iW j;rw[ge _ gk,e]at h1;have h2:=b3 _ (Aj _) hs;omega
 .obtain⟨k,hk,rfl⟩:=E3 hx;rw[E9]at hk;rw[List.getElem_take]
  have gk:k<xs.toList.length:=by omega
  have h1:=b2 k (by omega);rw[ge k gk]at h1;rcases Ad.mp hy with z|z
  .rw[z];exact h1
  .obtain⟨m,hm,rfl⟩:=E3 z;rw[G8]at hm;rw[List.getElem_drop]
   have cA:Be xs j+m<xs.toList.length:=by omega
   have h2:=b3 _ (Lq _ m) (by simpa using cA);rw[ge _ cA]at h2;omega
def KG{t:D1}(h:t.slot j = .empty\/t.slot j = .dummy):t.place[Be t.place j]?≠some j:=λz=>by unfold Ll at h;dsimp only at h;rw[z]at h;simp at h
theorem JS{t:D1}:∀(fuel:Nat) (p:Gx) (j:Nat) (d:Option Nat),(∀d',p.dummy=some d'->t.slot d' = .dummy)->Gt t f h fuel p=some (.empty j d)->t.slot j = .empty/\∀d',d=some d'->t.slot d' = .dummy
 | 0,p,j,d,_,e=>by cases e
 |fuel+1,p,j,d,hp,e=>by
  have adv:∀q:Gx,(t.advance q).dummy=q.dummy:=λq=>by
   unfold Ls
   split<;>rfl
  unfold Gt at e;split at e
  .rename_i hs;cases e;exact⟨hs,hp⟩
  .rename_i hs;refine JS fuel _ j d (λd' hd=>?_) e;rw[adv]at hd;cases hd;exact hs
  .split at e
   .cases e
   .refine JS fuel _ j d (λd' hd=>?_) e;rw[adv]at hd;exact hp d' hd
def Wm{t:D1}{j:Nat}{b:Bool}(e:t.freeSlot h=some (j,b)):t.place[Be t.place j]?≠some j:=by
 unfold D1.freeSlot at e;split at e
 .rename_i k d hp
  have:=JS (t:=t) _ _ k d (λd' hd=>by
   unfold D1.probeStart at hd
   cases hd) hp
  cases e
  cases d with
  |none=>exact KG (.inl this.1)
  |some d'=>exact KG (.inr (this.2 d' rfl))
 .cases e
def Tb(L:Bool)(t:D1):Prop:=(t.plain=true->oT t.place)/\t.led=L
def CN(h:Tb L t)(n:Nat):Tb L (t.standIn n):=⟨(λz=>by cases z),h.2⟩
def Yr(hT:Tb L t)(es:Array (Int×Aa))(h:Int)(x:Aa):Tb L (layNew t es h x).2.1:=by
 unfold layNew;split
 .rename_i slot wd hs;dsimp only;unfold D1.orStandIn
  have jr:Tb L (t.put slot).1:=by unfold D1.put;refine⟨λz=>?_,hT.2⟩;exact PY (hT.1 z) (Wm hs)
  split
  .exact jr
  .exact CN jr _
 .exact CN hT _
def Xq(hT:Tb L t)(es:Array (Int×Aa))(cF:Nat):Tb L (Mh t es cF).2.1:=by
 unfold Mh;split
 .rename_i t' aO hr;dsimp only;split
  .unfold D1.relaid My at hr
   cases ho:La (Ku cF-1) (es.map (·.1)) with
   |none=>rw[ho]at hr;cases hr
   |some owner=>
    rw[ho]at hr;simp only[Option.bind_eq_bind,Option.bind_some,Option.pure_def,Option.some.injEq,Prod.mk.injEq]at hr;obtain⟨rfl,_⟩:=hr;refine⟨λ_=>?_,hT.2⟩;unfold oT;show Lm _ (((A9 (Ku cF-1+1)).filterMap λj=>(owner.getD j none).map (j,·)).map (·.1));rw[Bd,Ip];refine Dz.imp λ{a b} cB p hp q hq=>?_
    obtain⟨k,_,rfl⟩:=B9.mp hp;obtain⟨m,_,rfl⟩:=B9.mp hq;exact cB
  .exact CN hT _
 .exact CN hT _
theorem erase_perm{α:Type}:∀(l:List α) (i:Nat) (h:i<l.length),l.Perm (l[i]::l.eraseIdx i)
 | [],i,h=>w9 h (Dv _)
 |x::l,0,_=>Fb _
 |x::l,i+1,h=>by
  have hi:i<l.length:=by simpa using h
  have ih:=erase_perm l i hi;show (x::l).Perm (l[i]::x::l.eraseIdx i);exact(ih.cons x).trans (Jg _ _ _)
theorem Rn{α:Type}(next:Nat->Nat):∀(fuel k:Nat) (left:List α) (out:Array α),left.length=fuel->(Nl next fuel k left out).toList.Perm (out.toList++left)
 | 0,k,left,out,h=>by
  have:left=[]:=List.length_eq_zero_iff.mp h
  subst this;show out.toList.Perm (out.toList++[]);rw[Bx]
 |fuel+1,k,left,out,h=>by
  have hl:next k % left.length<left.length:=Nat.mod_lt _ (by omega);unfold Nl;rw[A4 hl];dsimp only;refine(Rn next fuel (k+1) _ _ (by rw[List.length_eraseIdx_of_lt hl];omega)).trans ?_
  rw[L7,Co];exact List.Perm.append_left _ (erase_perm left _ hl).symm
def YI{α:Type}(next:Nat->Nat)(xs:Array α):(Mt next xs).toList.Perm xs.toList:=by
 have:=Rn next xs.size 0 xs.toList #[] (by simp)
 show (Nl next xs.size 0 xs.toList #[]).toList.Perm _;simpa using this
abbrev nM(w:Cg):Bool:=w.params.followText "set-order"
def nR(prog:Bw)(w:Cg)(h:Cf)(a:Av)(ms:List Int):Prop:=∃o es ep t,h.get? a=some o/\o.ExactSet/\o.data = .set es ep t/\ElemsOf (Fc prog w) es.toList/\Ci (es.toList.map (·.2)) ms/\ms.Nodup/\es.size<scanBound/\t.fits es.size=true/\Tb (!nM w) t
theorem Ph{vs iY:List Aa}(p:iY.Perm vs):∀{ns:List Int},Ci vs ns->∃bK,Ci iY bK/\bK.Perm ns:=by
 induction p with
 |nil=>exact λh=>⟨_,h,Fb _⟩
 |cons x p ih=>
  intro ns h
  cases h with
  |cons n t h'=>obtain⟨bK,h1,h2⟩:=ih h';exact⟨n::bK,.cons n t h1,h2.cons n⟩
 |swap x y l=>
  intro ns h
  cases h with
  |cons n t h'=>
   cases h' with
   |cons m u h''=>exact⟨_,.cons m u (.cons n t h''),Jg _ _ _⟩
 |trans p1 p2 ih1 ih2=>intro ns h;obtain⟨n1,h1,q1⟩:=ih2 h;obtain⟨n2,h2,q2⟩:=ih1 h1;exact⟨n2,h2,q2.trans q1⟩
theorem Pi:∀{vs:List Aa} {ns:List Int},Ci vs ns->Ci (vs++[.int k t]) (ns++[k])
 |_,_,.nil=>.cons k t .nil
 |_,_,.cons n u h=>.cons n u (Pi h)
theorem RT:∀{vs:List Aa} {ns:List Int} {k:Int},Ci vs ns->(k∈ns↔∃t,If k t∈vs)
 |_,_,k,.nil=>by simp
 |_,_,k,.cons n t h=>by
  have ih:=RT (k:=k) h;rw[Ad];constructor
  .rintro (z|z)
   .rw[z];exact⟨t,A6⟩
   .obtain⟨u,hu⟩:=ih.mp z;exact⟨u,A7 _ hu⟩
  .rintro ⟨u,hu⟩;rcases Ad.mp hu with z|z
   .cases z;exact .inl rfl
   .exact .inr (ih.mpr ⟨u,z⟩)
section
variable{prog:Bw}{w:Cg}{A:C1}{E:VP}{s:Ai}
def Tn{es:List (Int×Aa)}(hi:Ci (es.map (·.2)) ms):(∃e∈es,(Fc prog w).is k e.2=true)↔k∈ms:=by
 rw[RT hi];constructor
 .rintro ⟨e,he,hk⟩;have hm:e.2∈es.map (·.2):=C3 he;obtain⟨n,t,hn⟩:∃n t,e.2=If n t:=hi.all _ hm
  have:k=n:=(Fc prog w).inj e.2 k n hk (by rw[hn];exact intKind_is _ _ _ _)
  subst this;exact⟨t,by rw[<-hn];exact hm⟩
 .rintro ⟨t,ht⟩;obtain⟨e,he,hv⟩:=Ak.mp ht;exact⟨e,he,by rw[hv];exact intKind_is _ _ _ _⟩
theorem Ο{k:Int}{Q:Bool->Ai->Prop}(hS:nR prog w s.heap a ms)(hroom:ms.length+1<scanBound)(h:∀b h' aQ,Dh a s.heap h'->nR prog w h' a aQ->(∀x,x∈aQ↔x∈ms\/x=k)->aQ.length<=ms.length+1->Q b { s with heap:=h' }):
  Ap (B0 prog w) A (Nm a (.int k tk) ((Fc prog w).hash k)) Q E s:=by
 obtain⟨o,es,ep,t,ho,bM,hd,hX,hi,av,hb,hf,hT⟩:=hS
 have ab:es.size=ms.length:=by
  have:=hi.length
  rw[A0,Au]at this;exact this
 have bj:(Fc prog w).is k (.int k tk)=true:=intKind_is _ _ _ _;unfold Nm setAddHashedIn;refine Cp (A3 (D2 ho hd hf ?_));dsimp only;rw[byScan_of (knd:=Fc prog w) rfl hb hX];simp only[↓reduceIte];unfold setAddByScan;refine A3 (A3 (Kr (A3 (wpAny_setScan_of bj ho hd hf hX ?_))))
 cases hr:List.findIdx? (λe=>(Fc prog w).is k e.2) es.toList with
 |some j=>
  dsimp only;obtain⟨hj,hpj,_⟩:=List.findIdx?_eq_some_iff_getElem.mp hr;have hm:k∈ms:=(Tn hi).mp ⟨es.toList[j],Cd hj,hpj⟩;refine w6 (w6 ?_)
  have e:s={ s with heap:=s.heap }:=by cases s;rfl
  rw[e];exact h _ s.heap ms (Dh.refl a s.heap) ⟨o,es,ep,t,ho,bM,hd,hX,hi,av,hb,hf,hT⟩ (λx=>⟨.inl,λz=>z.elim id λq=>q▸hm⟩) (Em _)
 |none=>
  dsimp only
  have hm:k∉ms:=λz=>by
   obtain⟨e,he,hp⟩:=(Tn (prog:=prog) (w:=w) hi).mpr z
   have:=List.findIdx?_eq_none_iff.mp hr e he
   rw[hp]at this;cases this
  have hgw:∀(b:Bool) {s₁:Ai} {Q':Unit->Ai->Prop},Q' () s₁->Ap (B0 prog w) A (match b with|true=>rule "set.scan.the-table-gave-way" |false=>Cr ()) Q' E s₁:=λb s₁ Q' hq=>by cases b<;>first|exact w6 hq|exact Kr hq
  have bP:=layNew_perm t es ((Fc prog w).hash k) (.int k tk);have cQ:=layNew_fits t es ((Fc prog w).hash k) (.int k tk);have gc:=Yr hT es ((Fc prog w).hash k) (.int k tk);generalize hL:layNew t es ((Fc prog w).hash k) (.int k tk)=Lx at bP cQ gc ⊢;obtain⟨bi,t1,wd,gave⟩:=Lx;dsimp only at bP cQ gc ⊢;rw[L7]at bP;have hel1:ElemsOf (Fc prog w) bi.toList:=(hX.push bj rfl).perm bP
  obtain⟨gL,bI,dU⟩:∃gL,Ci (bi.toList.map (·.2)) gL/\gL.Perm (ms++[k]):=by have p2:(bi.toList.map (·.2)).Perm ((es.toList++[((Fc prog w).hash k,If k tk)]).map (·.2)):=bP.map _;refine Ph p2 ?_;rw[B6];exact Pi hi
  have hnd1:gL.Nodup:=dU.nodup_iff.mpr (Bz.mpr ⟨av,by simp,λx hx y hy z=>hm (by rw[Ae.mp hy]at z;exact z▸hx)⟩)
  have hsz1:bi.size=ms.length+1:=by rw[<-Au,bP.length_eq,Ah,Au,ab];rfl
  have gZ:bi.size<scanBound:=by omega
  have jv:∀x,x∈gL↔x∈ms\/x=k:=λx=>by rw[dU.mem_iff,Aw,Ae]
  have ce:gL.length<=ms.length+1:=by rw[dU.length_eq,Ah];exact Aj _
  have fz:∀{h0:Cf} {o0:Jy} {es0:Array (Int×Aa)} {eW:Nat} {t0 t2:D1} {aV:Array (Int×Aa)},h0.get? a=some o0->o0.ExactSet->o0.data = .set es0 eW t0->aV.toList.Perm bi.toList->t2.fits aV.size=true->Tb (!nM w) t2 ->
    (h0.update a (Gy aV t2)).get? a=some { o0 with data:=.set aV (eW+1) t2 }/\∃cn,nR prog w (h0.update a (Gy aV t2)) a cn/\(∀x,x∈cn↔x∈ms\/x=k)/\cn.length<=ms.length+1:=λ{h0 o0 es0 eW t0 t2 aV} g0 x0 d0 p2 f2 b2=>by
   have hg:(h0.update a (Gy aV t2)).get? a=some { o0 with data:=.set aV (eW+1) t2 }:=by
    have:=D6 (Gy aV t2) g0 (by rw[Nr aV t2 d0];rfl)
    rw[Nr aV t2 d0]at this;exact this
   obtain⟨cn,dm,fX⟩:=Ph (p2.map (·.2)) bI
   have hsz2:aV.size=bi.size:=by rw[<-Au,p2.length_eq,Au]
   exact⟨hg,cn,⟨_,aV,eW+1,t2,hg,x0,rfl,hel1.perm p2,dm,fX.nodup_iff.mpr hnd1,by rw[hsz2];exact gZ,f2,b2⟩,λx=>by rw[fX.mem_iff];exact jv x,by rw[fX.length_eq];exact ce⟩
  have tail:∀(t2:D1),t2.fits bi.size=true->Tb (!nM w) t2->∀{R:Option Bool->Ai->Prop},(∀h',Dh a s.heap h'->(∃cn,nR prog w h' a cn/\(∀x,x∈cn↔x∈ms\/x=k)/\cn.length<=ms.length+1)->R (some true) { s with heap:=h' })->∀{g:Bool->Sem Unit},
    (∀(b:Bool) (s₁:Ai) (Q':Unit->Ai->Prop),Q' () s₁->Ap (B0 prog w) A (g b) Q' E s₁) ->
    Ap (B0 prog w) A (do
     storeSet a bi t2
     if (!wd&&t2.tooFull)=true then do
       g (Mh t2 bi (Ez bi.size)).2.2
       storeSet a (Mh t2 bi (Ez bi.size)).1 (Mh t2 bi (Ez bi.size)).2.1
       Cr (some true)
      else Cr (some true)) R E s:=λt2 f2 b2 {R} hR {g} hg=>by
   refine A3 (Jh ho hd ?_ (fits_of_scanBound gZ));obtain⟨g1,ms1',G1⟩:=fz ho bM hd (Fb _) f2 b2;have sb1:=By s.heap a (Gy bi t2);split
   .have hp:=relayAll_perm t2 bi (Ez bi.size);have bT:=relayAll_fits t2 bi (Ez bi.size);have htr:=Xq b2 bi (Ez bi.size);generalize Mh t2 bi (Ez bi.size)=Rl at hp bT htr ⊢;obtain⟨aV,t3,gave2⟩:=Rl;dsimp only at hp bT htr ⊢
    have hsz:aV.size=bi.size:=by rw[<-Au,hp.length_eq,Au]
    refine A3 (hg _ _ _ (A3 (Jh g1 rfl ?_ (fits_of_scanBound (by rw[hsz];exact gZ)))))
    obtain⟨_,ms2',G2⟩:=fz g1 bM rfl hp bT htr;exact w6 (hR _ (sb1.trans (By _ a _)) ⟨ms2',G2⟩)
   .exact w6 (hR _ sb1 ⟨ms1',G1⟩)
  refine A3 (hgw _ ?_);have ic:∀h',Dh a s.heap h'->(∃cn,nR prog w h' a cn/\(∀x,x∈cn↔x∈ms\/x=k)/\cn.length<=ms.length+1)->Q true { s with heap:=h' }:=λh' sb ⟨cn,G,m,l⟩=>h _ h' cn sb G m l;have hgg:∀(b:Bool) (s₁:Ai) (Q':Unit->Ai->Prop),Q' () s₁->Ap (B0 prog w) A (match b with|true=>rule "set.scan.the-table-gave-way" |false=>Cr ()) Q' E s₁:=λb s₁ Q' q=>hgw b q
  split
  .refine A3 ?_;rw[hashByValue_scannable 8 rfl];refine w6 ?_;refine tail _ ?_ ?_ (λh' sb z=>?_) hgg
   .exact cQ
   .exact gc
   .dsimp only;exact w6 (ic h' sb z)
  .refine A3 (w6 ?_);simp only[↓reduceIte];refine tail _ cQ gc (λh' sb z=>?_) hgg;dsimp only;exact w6 (ic h' sb z)
theorem NP{κ:Type}{it S:Av}{val:Nat->κ}{G:Cf->List κ->Prop}{R:Lf->Ai->Prop}(W:Nb prog w A.in1 it fp [it] n P Sx)(fV:S∉fp)(bc:it∈fp)(fr:∀h h' ms,G h ms->(∀b o,b≠it->h.get? b=some o->h'.get? b=some o)->G h' ms)(add:∀(i:Nat) (v:Aa) (s:Ai) (ms:List κ) (Q:Bool->Ai->Prop) (E:VP),i<n->P i v->G s.heap ms->ms.length<=i->(∀b h' tk aQ,Dh S s.heap h'->G h' aQ->(∀x,x∈aQ↔x∈ms\/x=val i)->aQ.length<=ms.length+1->Q b { s with heap:=h',toks:=tk })->Ap (B0 prog w) A.in1 (N8 S v) Q E s):
  ∀(r i:Nat) (s:Ai) (ms:List κ),n-i=r->i<=n->Sx i s.heap->G s.heap ms->ms.length<=i ->
   (∀h' tk aQ,(∀b o,b≠S->b≠it->s.heap.get? b=some o->h'.get? b=some o)->G h' aQ->(∀x,x∈aQ↔x∈ms\/∃j,i<=j/\j<n/\x=val j)->R (.ok (.ret .none)) { s with heap:=h',toks:=tk }) ->
   Ew (B0 prog w) A (.builtin "set.update.loop" ⟨[.ref S,.ref it],[]⟩) R s
 | 0,i,s,ms,hr,hi,hx,hS,hl,hR=>by
  have dv:i=n:=by omega
  subst dv;refine codeAny_builtin PyProof.Rows.F.entry_set_update_loop ?_;rw[C6 F3 _];show Ap _ A.in1 (Ir (.ref it) >>= _) _ _ s;refine A3 (W.done s _ _ hx λh' tk hk=>w6 (hR h' tk ms (λb o _ h2 e=>hk b o (by simpa using h2) e) (fr _ _ _ hS λb o z e=>hk b o (by simpa using z) e) λx=>?_));constructor
  .exact .inl
  .rintro (z|⟨j,h1,h2,_⟩)
   .exact z
   .omega
 |r+1,i,s,ms,hr,hi,hx,hS,hl,hR=>by
  have am:i<n:=by omega
  refine codeAny_builtin PyProof.Rows.F.entry_set_update_loop ?_;rw[C6 F3 _];show Ap _ A.in1 (Ir (.ref it) >>= _) _ _ s;refine A3 (W.item i s _ _ am hx λv h1 tk1 hv hx1 hk1=>?_);have eA:=fr _ h1 _ hS λb o z e=>hk1 b o (by simpa using z) e;show Ap _ A.in1 (Hd [v] (N8 S v) >>= _) _ _ _;refine A3 (Cp ?_)
  refine add i v _ ms _ _ am hv eA hl λb h2 tk2 cn sb hS2 cA fO=>?_;refine w6 ⟨plainId_quiet F3 _,NP W fV bc fr add r (i+1) _ cn (by omega) am ?_ hS2 (by omega) λh3 tk3 ms3 iW hS3 hm3=>?_⟩
  .exact W.frame _ _ _ hx1 λb aI o e=>(sb.2 b (λz=>fV (z▸aI))).trans e
  .refine hR h3 tk3 ms3 (λb o n1 n2 e=>iW b o n1 n2 ((sb.2 b n1).trans (hk1 b o (by simpa using n2) e))) hS3 λx=>?_;rw[hm3,cA];constructor
   .rintro ((z|z)|⟨j,h1,h2,h3⟩)
    .exact .inl z
    .exact .inr ⟨i,Aj _,am,z⟩
    .exact .inr ⟨j,by omega,h2,h3⟩
   .rintro (z|⟨j,h1,h2,h3⟩)
    .exact .inl (.inl z)
    .by_cases e:j=i
     .subst e;exact .inl (.inr h3)
     .exact .inr ⟨j,by omega,h2,h3⟩
end
def NO:Nt (.type "tuple") (.type "set")=Cr false:=by rw[Kv];kernel_rfl
def Qj:Nt (.type "tuple") (.type "frozenset")=Cr false:=by rw[Kv];kernel_rfl
section
variable{prog:Bw}{w:Cg}{A:C1}{E:VP}{s:Ai}
abbrev oJ(w:Cg):Jy:={ cls:=.type "set",dict:=none,data:=.set #[] 0 (.fresh 0 0 (!nM w)) }
def õ(a:Aa){Q₁:VP}(h:Q₁ (.ref s.heap.objs.size) { s with heap:=s.heap.push (oJ w) }):
  Ew (B0 prog w) A (.call (.builtin "set.__new__") ⟨[.type "set",a],[]⟩) (wants Q₁ E) s:=by
 refine M9 ?_;show Ap _ A.in1 (do checkBuiltinCall "set.__new__" ⟨[.type "set",a],[]⟩;Nc (.builtin "set.__new__" ⟨[.type "set",a],[]⟩)) _ _ s
 refine A3 (Ey (F.newCall_set_1 a) (w6 ⟨plainId_quiet F.plain_set_new _,codeAny_builtin F.entry_set_new ?_⟩));rw[C6 F.plain_set_new _];unfold Cl.«set.__new__» Cl.Frozenset.newClass;have bY:=sub_set_self;obtain⟨hp,g,d,tk,os⟩:=s;dsimp only
 wp_walk
 refine Gb (w6 ?_);dsimp only;simp only[newObj];exact A3 (wpAny_alloc (w6 (w6 h)))
def QM{h:Cf}{a:Av}(ho:h.get? a=some (oJ w)):nR prog w h a []:=
 ⟨_,#[],0,_,ho,⟨rfl,rfl,rfl⟩,rfl,λe he=>by simp at he,.nil,E6,by decide,by rfl,λ_=>Eg,rfl⟩
theorem BF{κ:Type}{l:Av}{ol:Jy}{val:Nat->κ}{G:Cf->List κ->Prop}{oI:Jy}{Q:VP}(cT:s.heap.get? l=some ol)(ar:ol.cls = .type T)(fA:Nt (.type T) (.type "set")=Cr false)(bH:Nt (.type T) (.type "frozenset")=Cr false)(ah:(Cm T==Cm "dict")=false)(hoI:oI.isFreed=false)(iz:∀(A':C1) (E':VP) (s':Ai) (Q':VP),s'.heap.get? l=some ol->Q' (.ref s'.heap.objs.size) { s' with heap:=s'.heap.push oI }->Ap (B0 prog w) A' (N3 (.ref l)) Q' E' s')(hW:Nb prog w A.in1.in1.in1 (s.heap.objs.size+1) [s.heap.objs.size+1,l] [s.heap.objs.size+1] n P Sx)(hx:∀h,h.get? l=some ol->h.get? (s.heap.objs.size+1)=some oI->Sx 0 h)(g0:∀h,(∀b o,s.heap.get? b=some o->h.get? b=some o)->h.get? s.heap.objs.size=some (oJ w)->G h [])(fr:∀h h' ms,G h ms->(∀b o,b≠s.heap.objs.size+1->h.get? b=some o->h'.get? b=some o)->G h' ms)(add:∀(i:Nat) (v:Aa) (s':Ai) (ms:List κ) (Q:Bool->Ai->Prop) (E:VP),i<n->P i v->G s'.heap ms->ms.length<=i->(∀b h' tk aQ,Dh s.heap.objs.size s'.heap h'->G h' aQ->(∀x,x∈aQ↔x∈ms\/x=val i)->aQ.length<=ms.length+1->Q b { s' with heap:=h',toks:=tk })->Ap (B0 prog w) A.in1.in1.in1 (N8 s.heap.objs.size v) Q E s')(h:∀(h':Cf) (tk:Nat) (ms:List κ),G h' ms->(∀x,x∈ms↔∃j,j<n/\x=val j)->(∀b o,s.heap.get? b=some o->h'.get? b=some o)->Q (.ref s.heap.objs.size) { s with heap:=h',toks:=tk }):
  Ap (B0 prog w) A (call (.type "set") [.ref l]) Q E s:=by
 obtain⟨c,tl,hmro⟩:=F.called_set.mro;have hmade:=F.called_set.made;have bY:=F.called_set.sub;refine Nz (M9 ?_);show Ap _ _ (callAny (.type "set") _) _ _ _;refine w6 ⟨Code.quiet_builtin _ (by decide +kernel),codeAny_builtin F.entry_type_call ?_⟩;rw[C1.under_plain (weight_type_call_type "set" [.ref l] []) rfl];have h1:=F.called_set.notType;have h2:=F.called_set.canCreate
 have hct:=F.typeCall_set_1 (.ref l)
 repeat (any_goals (first|assumption|wp_step))
 refine Kg (õ (.ref l) (E:=E) (Q₁:=λobj s₁=>obj = .ref s.heap.objs.size/\s₁={ s with heap:=s.heap.push (oJ w) }) ⟨rfl,rfl⟩) λr s₁ hr=>?_
 cases r with
 |error e=>exact hr
 |ok fl=>
  cases fl with
  |ret obj=>
   obtain⟨rfl,rfl⟩:=hr;have hS:(s.heap.push (oJ w)).get? s.heap.objs.size=some (oJ w):=Ar _ rfl;have hT:Mz { s with heap:=s.heap.push (oJ w) } (.ref s.heap.objs.size) "set":=⟨_,hS,rfl⟩;have hli:=F.called_set.init.lookup;have hbi:=F.called_set.init.bind (.ref s.heap.objs.size)
   repeat (any_goals (first|assumption|wp_step))
   refine Kg (codeAny_call_builtin (R:=wants (λr s₂=>r = .none/\∃h' tk ms,s₂={ s with heap:=h',toks:=tk }/\G h' ms/\(∀x,x∈ms↔∃j,j<n/\x=val j) /\
     (∀b o,s.heap.get? b=some o->h'.get? b=some o)) E) F.called_set.init.plain F.entry_set_init (check_set_init_1 hT ?_)) λr₂ s₂ hr₂=>?_
   .obtain⟨ocls,ik,jx,gz⟩:=ol;have hcl':ocls = .type T:=ar;subst hcl';have jk:(s.heap.push (oJ w)).get? l=some { cls:=.type T,dict:=ik,data:=jx,slots:=gz }:=A8 _ cT;unfold Cl.«set.__init__» noKeywords Cl.Frozenset.updateFrom;generalize hPI:N3=PI
    wp_walk
    subst hPI;refine iz _ _ _ _ jk ?_;have hz:(s.heap.push (oJ w)).objs.size=s.heap.objs.size+1:=Dr ..;rw[hz];refine A3 (Kq ?_);have hlS:l<s.heap.objs.size:=Ao cT
    have fV:s.heap.objs.size∉[s.heap.objs.size+1,l]:=by simp only[Ad,Dk,or_false,not_or];exact⟨Aq (Dy _),D8 hlS⟩
    have gI:((s.heap.push (oJ w)).push oI).get? (s.heap.objs.size+1)=some oI:=by have g:=Ar (s.heap.push (oJ w)) (o:=oI) hoI;rw[hz]at g;exact g
    refine NP hW fV A6 fr add (n-0) 0 _ [] rfl (Bg _) (hx _ (A8 _ jk) gI) (g0 _ (λb o e=>A8 _ (A8 _ e)) (A8 _ hS)) (Bg _) λh' tk ms hk hG hm=>?_;refine w6 (w6 ⟨rfl,h',tk,ms,rfl,hG,λx=>?_,λb o e=>?_⟩)
    .rw[hm];constructor
     .rintro (z|⟨j,_,z⟩)
      .cases z
      .exact⟨j,z⟩
     .rintro ⟨j,z⟩;exact .inr ⟨j,Bg _,z⟩
    .have gZ:=Ao e;exact hk b o (Aq gZ) (Aq (C2 gZ)) (A8 _ (A8 _ e))
   .cases r₂ with
    |error e=>exact hr₂
    |ok fl₂=>
     cases fl₂ with
     |ret r=>
      obtain⟨rfl,h',tk,ms,rfl,hG,hm,hk⟩:=hr₂
      repeat (any_goals (first|assumption|wp_step))
      exact h _ _ _ hG hm hk
     |_=>exact hr₂.elim
  |_=>exact hr.elim
end
def wW:Slot "set_iterator" "__next__" "set_iterator.__next__" :=
 .of (owner:="set_iterator") (n:="__next__") (by rw[Ma,Jk];kernel_rfl) (by decide +kernel) (by decide +kernel) (by decide +kernel)
  (by first|exact .inl (by decide +kernel)|exact .inr (by decide +kernel)) (by rw[Kv];kernel_rfl)
def Qp:Nk table "set_iterator.__next__" = some Cl.«set_iterator.__next__»:=entryFor_of_tree (by kernel_rfl)
def PL(a:Aa):Lj "set_iterator.__next__" ⟨[a],[]⟩:=by unfold Lj;kernel_rfl
def Wl:Nk table "set.__iter__" = some Cl.«frozenset.__iter__»:=entryFor_alias (id':="frozenset.__iter__") (by kernel_rfl) rfl (by decide +kernel) (by kernel_rfl)
section
variable{prog:Bw}{w:Cg}{A:C1}{E:VP}{s:Ai}
abbrev xQ(first:Aa)(i:Nat)(a:Av)(n ep:Nat):Jy:={ cls:=.type "set_iterator",data:=.fields #[first,rawInt i,.ref a,rawInt n,rawInt ep] }
def Yz{it a:Av}{slot i n ep nx:Nat}{x:Aa}{o:Jy}{Q:Option Aa->Ai->Prop}(bc:s.heap.get? it=some (xQ (rawInt slot) i a n ep))(ho:s.heap.get? a=some o)(hd:o.data = .set es ep t)(hf:t.fits es.size=true)(hn:es.size=n)(hnx:∀(A':C1) (Q':Option (Aa×Nat)->Ai->Prop) (E':VP),Q' (some (x,nx)) s->Ap (B0 prog w) A' (Kj a slot i ep) Q' E' s)(hQ:∀h',Dh it s.heap h'->h'.get? it=some (xQ (rawInt nx) (i+1) a n ep)->Q (some x) { s with heap:=h' }):Ap (B0 prog w) A (Ir (.ref it)) Q E s:=by
 have hT:s.TypeIs (.ref it) "set_iterator":=⟨_,bc,rfl⟩;unfold Ir;refine A3 (Mx (F0 (name:=Bt "__next__") hT wW (Eu wW hT Qp ?_ (PL _))));unfold Cl.«set_iterator.__next__»;refine A3 (Ey (show slotArgs "__next__" 0 ⟨[.ref it],[]⟩=Cr (.ref it,[]) from rfl) ?_);dsimp only;refine A3 (wpAny_fieldsOf bc rfl ?_)
 show Ap _ _ (setEntries a >>= _) _ _ s;refine A3 (Ke ho hd hf ?_);rw[hn]
 have e0:((n:Int) != (n:Int))=false:=by simp
 simp only[e0,Bj,if_false];show Ap _ _ (Kj a slot i ep >>= _) _ _ s;refine A3 (hnx _ _ _ ?_);dsimp only;refine A3 (Iy bc rfl (by simp) ?_);have g1:(s.heap.update it (Jy.mapFields (·.setIfInBounds 0 (rawInt nx)))).get? it=some (xQ (rawInt nx) i a n ep):=D6 _ bc rfl;refine A3 (Iy g1 rfl (by simp) (w6 ⟨x,rfl,w6 (hQ _ ((By ..).trans (By ..)) ?_)⟩))
 exact D6 _ g1 rfl
def Yy{it a:Av}{slot i n ep:Nat}{o:Jy}{es:Array (Int×Aa)}{t:D1}{Q:Option Aa->Ai->Prop}(hh:A.handled=none)(bc:s.heap.get? it=some (xQ (rawInt slot) i a n ep))(ho:s.heap.get? a=some o)(hd:o.data = .set es ep t)(hf:t.fits es.size=true)(hn:es.size=n)(hnx:∀(A':C1) (Q':Option (Aa×Nat)->Ai->Prop) (E':VP),Q' none s->Ap (B0 prog w) A' (Kj a slot i ep) Q' E' s)(hQ:∀h',Cf.ExtBut it s.heap h'->Q none { s with heap:=h' }):Ap (B0 prog w) A (Ir (.ref it)) Q E s:=by
 have hT:s.TypeIs (.ref it) "set_iterator":=⟨_,bc,rfl⟩;unfold Ir;refine A3 (Mx (F0 (name:=Bt "__next__") hT wW (Eu wW hT Qp ?_ (PL _))));unfold Cl.«set_iterator.__next__»;refine A3 (Ey (show slotArgs "__next__" 0 ⟨[.ref it],[]⟩=Cr (.ref it,[]) from rfl) ?_);dsimp only;refine A3 (wpAny_fieldsOf bc rfl ?_)
 show Ap _ _ (setEntries a >>= _) _ _ s;refine A3 (Ke ho hd hf ?_);rw[hn]
 have e0:((n:Int) != (n:Int))=false:=by simp
 simp only[e0,Bj,if_false];show Ap _ _ (Kj a slot i ep >>= _) _ _ s;refine A3 (hnx _ _ _ ?_);dsimp only;refine A3 (Iy bc rfl (by simp) ?_);simp only[newExc,Oa];refine A3 (A3 (Cb ?_ (by size_fits)));refine A3 (m:=Ks _ _) (Ey (a:=Ca) (by first|rfl|(simp only[Ks];rfl)) ?_)
 refine Cb ?_ (by size_fits);simp only[raiseNew];refine A3 (wpAny_handled ?_);rw[show A.in1.handled=none from hh];refine A3 (w6 (wpAny_throw ?_));refine A3 (wpAny_isInstance (T:="StopIteration") (b:=true) ⟨_,Ar _ rfl,rfl⟩ isSubtype_stop ?_);exact w6 (hQ _ (((By ..).extBut.push _).push _))
end
section
variable{prog:Bw}{w:Cg}{A:C1}{E:VP}{s:Ai}{a:Av}{o:Jy}{es:Array (Int×Aa)}{t:D1}{ep:Nat}
def Pq{slot i:Nat}{Q:Option (Aa×Nat)->Ai->Prop}(hb:nM w=true)(ho:s.heap.get? a=some o)(hd:o.data = .set es ep t)(hf:t.fits es.size=true)(h:Q (((Mt (w.params.setOrder a ep) es)[i]?).map λe=>(e.2,slot)) s):Ap (B0 prog w) A (Kj a slot i ep) Q E s:=by
 unfold Kj;refine A3 (D2 ho hd hf ?_);dsimp only;unfold N9;refine A3 (A3 (Gb (w6 ?_)));show Ap _ _ (if nM w=true then _ else _) _ _ _;rw[z7 hb];simp only[bne_self_eq_false,Bj,if_false];unfold setWalk;refine A3 (A3 (D2 ho hd hf ?_));dsimp only;unfold N9;refine A3 (A3 (Gb (w6 ?_)))
 show Ap _ _ (if nM w=true then _ else _) _ _ _;rw[z7 hb];refine A3 (Gb (w6 (w6 h)))
def P5{Q:Option (Aa×Nat)->Ai->Prop}(hb:nM w=false)(ho:s.heap.get? a=some o)(hd:o.data = .set es ep t)(hf:t.fits es.size=true)(hp:t.plain=true\/es.size<=1)(hL:t.led=true)(h:Q (match es[Be t.place slot]?,t.place[Be t.place slot]? with|some (_,x),some j=>some (x,j+1)|_,_=>none) s):Ap (B0 prog w) A (Kj a slot i ep) Q E s:=by
 unfold Kj;refine A3 (D2 ho hd hf ?_);dsimp only;unfold N9;refine A3 (A3 (Gb (w6 ?_)));show Ap _ _ (if nM w=true then _ else _) _ _ _;rw[y3 (by rw[hb];exact B3)]
 split
 .rename_i hz;have hz':(!t.plain&&decide (es.size>1))=true:=hz;rw[Bi]at hz';have z2:=lC hz'.2;rcases hp with q|q
  .rw[q]at hz';cases hz'.1
  .omega
 .refine A3 ?_;show Ap _ _ (if (!t.led&&!es.isEmpty)=true then unsupported _ else Cr ()) _ _ _;rw[hL];exact w6 (w6 h)
def Oo:Slot "set_iterator" "__iter__" "set_iterator.__iter__" :=
 .of (owner:="set_iterator") (n:="__iter__") (by rw[Ma,Jk];kernel_rfl) (by decide +kernel) (by decide +kernel) (by decide +kernel)
  (by first|exact .inl (by decide +kernel)|exact .inr (by decide +kernel)) (by rw[Kv];kernel_rfl)
def UO:Nk table "set_iterator.__iter__" = some Cl.«dict_keyiterator.__iter__»:=entryFor_alias (id':="dict_keyiterator.__iter__") (by kernel_rfl) rfl (by decide +kernel) (by kernel_rfl)
def WR(a:Aa):Lj "set_iterator.__iter__" ⟨[a],[]⟩:=by unfold Lj;kernel_rfl
def Yl{Q:VP}(hT:s.TypeIs (.ref it) "set_iterator")(h:Q (.ref it) s):Ap (B0 prog w) A (N3 (.ref it)) Q E s:=by refine wpAny_pyIter_slot hT Oo (Eu Oo hT UO ?_ (WR _));exact w6 ⟨_,rfl,"set_iterator",_,hT,wW.lookup,h⟩
end
def V6:N6 (.type "set") "__len__" = Cr (some (.builtin "set.__len__")):=by rw[Ma,Jk];kernel_rfl
section
variable{prog:Bw}{w:Cg}{A:C1}{E:VP}{s:Ai}{a:Av}{ms:List Int}
def Ua{α:Type}{M:Model}{c:Prop}[Decidable c]{x y:Sem α}{Q:α->Ai->Prop}(h:c)(hx:Ap M A x Q E s):Ap M A (if c then x else y) Q E s:=by rw[z7 h];exact hx
end
end L3
namespace L3
open PySem PySem.Spec PyProof.Rows L2 PySem.SeqAt
def lS{α:Type}[DecidableEq α]:List α->List α
 | []=>[]
 |x::xs=>if x∈lS xs then lS xs else x::lS xs
theorem rV{α:Type}[DecidableEq α]:∀{xs:List α} {y:α},y∈lS xs↔y∈xs
 | [],y=>Iff.rfl
 |x::xs,y=>by
  unfold lS;by_cases h:x∈lS xs
  .rw[z7 h,rV,Ad];constructor
   .exact .inr
   .rintro (z|z)
    .rw[z];exact rV.mp h
    .exact z
  .rw[y3 h,Ad,Ad,rV]
theorem wX{α:Type}[DecidableEq α]:∀xs:List α,(lS xs).Nodup
 | []=>E6
 |x::xs=>by
  unfold lS;by_cases h:x∈lS xs
  .rw[z7 h];exact wX xs
  .rw[y3 h];exact Bq.mpr ⟨h,wX xs⟩
theorem yQ{α:Type}:∀{xs ys:List α},xs.Nodup->ys.Nodup->(∀a,a∈xs↔a∈ys)->xs.Perm ys
 | [],ys,_,_,h=>by
  cases ys with
  |nil=>exact Fb _
  |cons y ys=>exact w9 ((h y).mpr A6) (by simp)
 |x::xs,ys,hx,hy,h=>by
  have hm:x∈ys:=(h x).mp A6;obtain⟨k,hk,e⟩:=E3 hm;have p:=erase_perm ys k hk;rw[e]at p;have hy':=Bq.mp (p.nodup_iff.mp hy);have aC:=Bq.mp hx;refine(List.Perm.cons x (yQ aC.2 hy'.2 λa=>?_)).trans p.symm;constructor
  .intro ha
   have:=p.mem_iff.mp ((h a).mp (A7 _ ha))
   rcases Ad.mp this with z|z
   .rw[z]at ha;exact w9 ha aC.1
   .exact z
  .intro ha
   have:=(h a).mpr (p.mem_iff.mpr (A7 _ ha))
   rcases Ad.mp this with z|z
   .rw[z]at ha;exact w9 ha hy'.1
   .exact z
section
variable{X:Cx}
abbrev LP(X:Cx)(a:Av)(ms:List Int):HO:=.ext λh=>nR X.prog X.w h a ms
def ô(G:nR X.prog X.w h a ms):kU X.prog X.w H h a (LP X a ms):=by obtain⟨o,es,ep,t,ho,z⟩:=G;refine⟨⟨o,es,ep,t,ho,z⟩,⟨o,ho⟩,λh1 h2 hz k=>?_⟩;obtain⟨o',cI,dM,t',bJ,z'⟩:=hz;exact⟨o',cI,dM,t',k _ bJ,z'⟩
def UG{h1 h2:Cf}(G:nR X.prog X.w h1 S ms)(k:∀b o,b≠S+1->h1.get? b=some o->h2.get? b=some o):nR X.prog X.w h2 S ms:=by obtain⟨o,es,ep,t,ho,z⟩:=G;exact⟨o,es,ep,t,k _ _ (Aq (Dy _)) ho,z⟩
def Uj{Q:Bool->Ai->Prop}{s:Ai}{v:Aa}(hv:∃t,v = .int k t)(G:nR X.prog X.w s.heap S ms)(hr:ms.length+1<scanBound)(hQ:∀b h' tk aQ,Dh S s.heap h'->nR X.prog X.w h' S aQ->(∀x,x∈aQ↔x∈ms\/x=k)->aQ.length<=ms.length+1->Q b { s with heap:=h',toks:=tk }):Ap (B0 X.prog X.w) A (N8 S v) Q E s:=by obtain⟨t,rfl⟩:=hv;unfold N8;exact Cp (A3 ((Fc X.prog X.w).pyHash (k:=k) (intKind_is _ _ _ _) (Ο G hr λb h2 cn sb hS2 cA fO=>hQ b h2 _ cn sb hS2 cA fO)))
def ť(X:Cx):List V->Hp->VK->Prop:=λxs H Q=>∃(p:Av) (ns:List Int),xs=[.ref p]/\(i5 X.K H p (ns.map V.int)\/i8 X.K H p (ns.map V.int))/\ns.length+1<scanBound/\∀(a:Av) (ms:List Int),H a=none->ms.Nodup->(∀x,x∈ms↔x∈ns)->Q (.ref a) (upd H a (LP X a ms))
def ZM(hc:X.calm=true):kT X (.type "set") (ť X):=by
 intro aa s U H xs us Q I r h;obtain⟨p,ns,rfl,hq,hb,q⟩:=h;obtain⟨u,rfl,rx⟩:=l9 r;cases rx;have hh:X.A.handled=none:=I.ok.hd hc
 have fin:∀(h':Cf) (tk:Nat) (ms:List Int),nR X.prog X.w h' s.heap.objs.size ms->(∀x,x∈ms↔∃j,j<ns.length/\x=ns.getD j 0)->(∀b o,s.heap.get? b=some o->h'.get? b=some o)->EP X aa U Q (.ref s.heap.objs.size) { s with heap:=h',toks:=tk }:=λh' tk ms G hm hk=>by
  refine⟨.ref s.heap.objs.size,_,I.laid (t':=tk) hk (Aj _) (ô G),rfl,q _ ms (I.hok.fresh (Aj _)) ?_ λx=>?_⟩
  .obtain⟨o,es,ep,t,ho,bM,hd,hX,hi,av,_⟩:=G;exact av
  .rw[hm];constructor
   .rintro ⟨j,hj,rfl⟩;rw[J5 (A4 hj)];exact Cd hj
   .intro hx;obtain⟨j,hj,e⟩:=E3 hx;exact⟨j,hj,by rw[J5 (A4 hj),e]⟩
 rcases hq with hq|hq
 .obtain⟨its,rv,pl,hz⟩:=I.list hq;have hi:Ci its ns:=W4 rv;have hl:=hi.length
  have cG:its.toArray.size=ns.length:=by simp[hl]
  obtain⟨ol,cT,ar,nl,dH⟩:=pl.isList;have af:p<s.heap.objs.size:=Ao cT;have vn:∀(i:Nat) (v:Aa),its.toArray[i]?=some v->∃t,v = .int (ns.getD i 0) t:=λi v hv=>Ci.int_at hi i v (by simpa using hv);have W0:=O9 (prog:=X.prog) (w:=X.w) (A:=X.A.in1.in1.in1) hh (s.heap.objs.size+1) p (Aq (C2 af)) its.toArray
  refine BF (T:="list") (n:=ns.length) (val:=λi=>ns.getD i 0) (oI:={ cls:=.type "list_iterator",data:=.fields #[.ref p,.int 0 0] }) (Sx:=λi h=>h.IsListIter (s.heap.objs.size+1) p i/\h.IsList p its.toArray) cT ar F.sub_list_set F.sub_list_frozenset (by decide) rfl
   (λA' E' s' Q' g q'=>Gq ⟨ol,g,ar,nl,dH⟩ q')
   ⟨W0.sub,W0.frame,λi s1 Q1 E1 bI st hQ=>W0.item i s1 Q1 E1 (by simpa [hl] using bI) st λv h' tk hP a b=>hQ v h' tk (vn i v hP) a b,λs1 Q1 E1 st hQ=>W0.done s1 Q1 E1 (by rw[cG];exact st) hQ,W0.self⟩
   (λh' g1 g2=>⟨⟨_,g2,rfl,rfl⟩,⟨ol,g1,ar,nl,dH⟩⟩) (λh' _ g=>QM g) (λh1 h2 ms G k=>UG G k) (λi v s' ms Q' E' bI hv G cw hQ=>Uj hv G (by omega) hQ) fin
 .obtain⟨its,rv,pl,hz⟩:=I.tuple hq;have hi:Ci its ns:=W4 rv;have hl:=hi.length
  have cG:its.toArray.size=ns.length:=by simp[hl]
  obtain⟨ol,cT,ar,nl,dH⟩:=pl;have af:p<s.heap.objs.size:=Ao cT;have vn:∀(i:Nat) (v:Aa),its.toArray[i]?=some v->∃t,v = .int (ns.getD i 0) t:=λi v hv=>Ci.int_at hi i v (by simpa using hv);have W0:=Nb.tuple (prog:=X.prog) (w:=X.w) (A:=X.A.in1.in1.in1) hh (s.heap.objs.size+1) p (Aq (C2 af)) its.toArray
  refine BF (T:="tuple") (n:=ns.length) (val:=λi=>ns.getD i 0) (oI:={ cls:=.type "tuple_iterator",data:=.fields #[.ref p,.int 0 0] }) (Sx:=λi h=>h.IsTupleIter (s.heap.objs.size+1) p i/\h.IsTuple p its.toArray) cT ar NO Qj (by decide) rfl
   (λA' E' s' Q' g q'=>Ep ⟨ol,g,ar,nl,dH⟩ q')
   ⟨W0.sub,W0.frame,λi s1 Q1 E1 bI st hQ=>W0.item i s1 Q1 E1 (by simpa [hl] using bI) st λv h' tk hP a b=>hQ v h' tk (vn i v hP) a b,λs1 Q1 E1 st hQ=>W0.done s1 Q1 E1 (by rw[cG];exact st) hQ,W0.self⟩
   (λh' g1 g2=>⟨⟨_,g2,rfl,rfl⟩,⟨ol,g1,ar,nl,dH⟩⟩) (λh' _ g=>QM g) (λh1 h2 ms G k=>UG G k) (λi v s' ms Q' E' bI hv G cw hQ=>Uj hv G (by omega) hQ) fin
def ç(X:Cx):List V->Hp->VK->Prop:=λxs H Q=>∃(a:Av) (ms:List Int),xs=[.ref a]/\H a=some (LP X a ms)/\Q (.int ms.length) H
def Vf:kT X (.builtin "len") (ç X):=by intro aa s U H xs us Q I r h;obtain⟨a,ms,rfl,hH,q⟩:=h;obtain⟨u,rfl,rx⟩:=l9 r;cases rx;obtain⟨o,es,ep,t,ho,bM,hd,hX,hi,av,hb,hf,hT⟩:nR X.prog X.w s.heap a ms:=(I.hok a _ hH).1;have hl:=hi.length;rw[A0,Au]at hl;refine call_len_set ho bM hd hf (by unfold scanBound at hb;omega) ⟨.int ms.length,H,I.tok _,⟨_,by rw[hl]⟩,q⟩
variable{e:Expr}{fa:EL}{p p2 pos az:Hq}
def AU(fa:EL):EL:=λY=>match fa Y with
 |some ds=>(match Z6 ds with|some ns=>if ns.length<64 then some ((qR (lS ns)).map D.int) else none|none=>none)
 |none=>none
def DN(fa:EL):ED:=λY=>match fa Y with
 |some ds=>(match Z6 ds with|some ns=>if ns.length<4000 then some (.int (lS ns).length) else none|none=>none)
 |none=>none
def ù{K:A5}{Z:List Av}{H:Hp}{a:Av}{xs:List V}{ns:List Int}(hq:i5 K H a xs\/i8 K (K5 Z H) a xs)(rr:g9 K (K5 Z H) (ns.map D.int) xs):i5 K H a (ns.map V.int)\/i8 K H a (ns.map V.int):=by rw[Y2]at rr;subst rr;exact hq.imp id (j9 x8)
def ę(hc:X.calm=true)(hm:X.mg "len" = none)(hms:X.mg "set" = none)(ha:ZQ X e fa)(hg:Gl X "len":=by rfl)(hgs:Gl X "set":=by rfl)(hv:B5 "len" = some (.builtin "len"):=by decide +kernel)(cZ:B5 "set" = some (.type "set"):=by decide +kernel)(he:Ab [e] X.env=(false,Ce e X.env)::Ab [] X.env:=by exact u4 rfl)(af:(C8 az (Ab [] X.env)).any (·.1)=false:=by exact J3 rfl)(aZ:Ab [.Call (.Name "set" p2) [e] [] az] X.env=(false,Ce (.Call (.Name "set" p2) [e] [] az) X.env)::Ab [] X.env:=by exact u4 rfl)(cb:(C8 pos (Ab [] X.env)).any (·.1)=false:=by exact J3 rfl):ZE X (.Call (.Name "len" p) [.Call (.Name "set" p2) [e] [] az] [] pos) (DN fa):=
 ⟨have ha:=ha.h;
 j3 (rO Vf hg hm hv (J4 (pK (ZM hc) hgs hms cZ (J4 ha Y8 he) (by decide) (by decide) he af) Y8 aZ) (by decide) (by decide) aZ cb) λU H Q h_=>by
  refine f7 h_ λY es B H0 V0 Z e1 r q=>?_;unfold DN at e1;split at e1
  .rename_i ds aH;split at e1
   .rename_i ns hn;split at e1
    .rename_i fB;cases e1;have fN:=Z9 hn;subst fN;refine⟨Y,_,B,H0,V0,Z,aH,r,λa xs H1 s1 hq rr=>⟨a,ns,rfl,ù hq rr,by unfold scanBound;omega,λb ms hb av aN=>?_⟩⟩
     have pm:ms.Perm (lS ns):=yQ av (wX ns) λx=>by rw[aN,rV]
     refine⟨b,ms,rfl,v8,q _ _ (s1.trans (u9 hb)) (v4.mpr ?_)⟩;rw[pm.length_eq]
    .cases e1
   .cases e1
  .cases e1⟩
end
end L3
namespace L3
open PySem PySem.Spec PyProof.Rows L2
def pC(m:Nat):Nat->Nat->Nat->List Nat
 | 0,_,_=>[]
 |f+1,i,p=>L6 i (Dw m i+1-i)++pC m f (C9 m i p).1 (C9 m i p).2
abbrev mR(m:Nat)(h:Int):List Nat:=pC m (m+15) (F7 h % (m+1)) (F7 h)
def Pv(m i:Nat):i<=Dw m i:=by unfold Dw;split<;>omega
def pG(m:Nat)(f:Nat)(p:Gx):List Nat:=L6 p.j (p.more+1)++pC m f (C9 m p.i p.perturb).1 (C9 m p.i p.perturb).2
def ć(t:D1)(h:Int):mR t.mask h=pG t.mask (t.mask+14) (t.probeStart h):=by
 unfold mR pG D1.probeStart;show pC t.mask (t.mask+14+1) _ _=_;unfold pC
 have:=Pv t.mask (F7 h % (t.mask+1))
 congr 2;dsimp only;omega
def CU(t:D1):∀(f:Nat) (p:Gx),pG t.mask f p=p.j::(if 0<p.more\/0<f then pG t.mask (if 0<p.more then f else f-1) (t.advance p) else []):=by
 intro f p;unfold Ls;by_cases hm:p.more>0
 .rw[z7 hm,z7 (.inl hm),z7 hm];unfold pG;dsimp only;obtain⟨k,hk⟩:∃k,p.more=k+1:=⟨p.more-1,by omega⟩;rw[hk,List.range'_succ];rfl
 .have hz:p.more=0:=by omega
  rw[y3 hm,y3 hm];unfold pG;rw[hz]
  cases f with
  |zero=>simp[pC]
  |succ f=>
   rw[z7 (.inr (Nat.succ_pos _))];have ew:pC t.mask (f+1) (C9 t.mask p.i p.perturb).1 (C9 t.mask p.i p.perturb).2=L6 (C9 t.mask p.i p.perturb).1 (Dw t.mask (C9 t.mask p.i p.perturb).1+1-(C9 t.mask p.i p.perturb).1)++pC t.mask f (C9 t.mask (C9 t.mask p.i p.perturb).1 (C9 t.mask p.i p.perturb).2).1 (C9 t.mask (C9 t.mask p.i p.perturb).1 (C9 t.mask p.i p.perturb).2).2:=rfl
   rw[ew];dsimp only
   have:=Pv t.mask (C9 t.mask p.i p.perturb).1
   have e:Dw t.mask (C9 t.mask p.i p.perturb).1+1-(C9 t.mask p.i p.perturb).1=Dw t.mask (C9 t.mask p.i p.perturb).1-(C9 t.mask p.i p.perturb).1+1:=by omega
   rw[e];rfl
def XW(t:D1)(q:Gx):(t.advance q).dummy=q.dummy:=by
 unfold Ls
 split<;>rfl
theorem P8{t:D1}{g:Nat->Int}{h:Int}(hd:∀j,t.slot j≠.dummy):∀(fuel f:Nat) (p:Gx),p.dummy=none->(pG t.mask f p).length<=fuel->(∃j∈pG t.mask f p,t.slot j = .empty) ->
  ∃(a b:List Nat) (j:Nat),pG t.mask f p=a++j::b/\(∀x∈a,∃i,t.slot x = .live i/\g i≠h)/\((t.slot j = .empty/\Gt t g h fuel p=some (.empty j none))\/∃i nx,t.slot j = .live i/\g i=h/\Gt t g h fuel p=some (.candidate j i nx))
 | 0,f,p,_,hl,_=>by rw[CU]at hl;simp at hl
 |fuel+1,f,p,hp,hl,he=>by
  unfold Gt
  cases hs:t.slot p.j with
  |empty=>exact⟨[],_,p.j,CU t f p,λx hx=>(Dk hx).elim,.inl ⟨hs,by rw[hp]⟩⟩
  |dummy=>exact w9 hs (hd _)
  |live i=>
   dsimp only;by_cases hg:(g i==h)=true
   .rw[z7 hg];exact⟨[],_,p.j,CU t f p,λx hx=>(Dk hx).elim,.inr ⟨i,_,hs,eq_of_beq hg,rfl⟩⟩
   .rw[y3 hg];have st:=CU t f p;obtain⟨j0,je,e0⟩:=he;rw[st]at je hl
    have fC:j0∈(if 0<p.more\/0<f then pG t.mask (if 0<p.more then f else f-1) (t.advance p) else []):=by
     rcases Ad.mp je with z|z
     .rw[z,hs]at e0;cases e0
     .exact z
    split at fC
    .rename_i hc;rw[z7 hc]at hl st;obtain⟨a,b,j,e1,e2,e3⟩:=P8 hd fuel _ (t.advance p) (by rw[XW];exact hp) (by simpa using hl) ⟨j0,fC,e0⟩
     refine⟨p.j::a,b,j,by rw[st,e1];rfl,λx hx=>?_,e3⟩
     rcases Ad.mp hx with z|z
     .exact⟨i,by rw[z];exact hs,λq=>hg (by rw[q];exact beq_self_eq_true h)⟩
     .exact e2 x z
    .exact(Dk fC).elim
theorem OF(m:Nat):∀f i p,(pC m f i p).length<=10*f
 | 0,_,_=>Aj _
 |f+1,i,p=>by
  unfold pC;rw[Ah,List.length_range']
  have:=OF m f (C9 m i p).1 (C9 m i p).2
  have:Dw m i<=i+9:=by unfold Dw;split<;>omega
  omega
theorem Pe:∀(f i p:Nat),F6 m ow f i p=(pC m f i p).find? λj=>(ow.getD j (some 0)).isNone
 | 0,i,p=>rfl
 |f+1,i,p=>by
  unfold F6 pC;rw[List.find?_append]
  have e:(L6 i (Dw m i+1-i)).find? (λj=>(ow.getD j (some 0)).isNone)=((A9 (Dw m i+1-i)).find? λk=>(ow.getD (i+k) (some 0)).isNone).map (i+·):=by rw[List.range'_eq_map_range,List.find?_map];rfl
  rw[e]
  cases (A9 (Dw m i+1-i)).find? λk=>(ow.getD (i+k) (some 0)).isNone with
  |some k=>rfl
  |none=>dsimp only;rw[Pe f];rfl
def hP(p:Int×Int):Int:=reduceHash (Cl.Tuple.tupleHashOf [hashInt p.1,hashInt p.2])
def lW:List (Int×Int):=(A9 7).flatMap λ(a:Nat)=>(A9 7).map λ(b:Nat)=>((a:Int),(b:Int))
def Ĳ:∀p∈lW,∀j∈A9 8,j∈mR 7 (hP p):=by decide +kernel
def QF:∀p∈lW,∀j∈A9 32,j∈mR 31 (hP p):=by decide +kernel
def ï:∀p∈lW,∀j,¬j<32->j∉mR 31 (hP p):=λp hp j hj hm=>hj ((by decide +kernel:∀p∈lW,∀j∈mR 31 (hP p),j<32) p hp j hm)
def ĸ:∀p∈lW,∀q∈lW,hP p=hP q->p=q:=by decide +kernel
theorem DZ{α:Type}[DecidableEq α]:∀{xs ys:List α},xs.Nodup->(∀x∈xs,x∈ys)->xs.length<=ys.length
 | [],_,_,_=>Bg _
 |x::xs,ys,h,hs=>by
  rw[Bq]at h;have hx:=hs x A6
  have:=DZ (ys:=ys.erase x) h.2 λz hz=>(Jv (λ(q:z=x)=>h.1 (q▸hz))).mpr (hs z (A7 _ hz))
  rw[List.length_erase_of_mem hx]at this
  have:=List.length_pos_of_mem hx
  simp only[As];omega
def IW{t:D1}(h:t.slot j = .live i):t.place[i]?=some j:=by
 unfold Ll at h;dsimp only at h;split at h
 .rename_i e;cases h;exact eq_of_beq e
 .split at h<;>cases h
def Px{t:D1}(hr:oT t.place){j i:Nat}(h:t.place[i]?=some j):t.slot j = .live i:=by
 obtain⟨b1,b2,b3⟩:=yK hr j;obtain⟨hi,e⟩:=Gz.mp h
 have ge:∀k (hk:k<t.place.size),t.place.getD k j=t.place[k]:=λk hk=>by simp[Eh,hk]
 have hbi:Be t.place j=i:=by
  rcases Lb i (Be t.place j) with z|z|z
  .have:=b2 i z;rw[ge i hi,e]at this;omega
  .exact z.symm
  .have h1:=b3 _ (Aj _) (Dp z hi);have h2:=AA hr z hi j;rw[ge i hi,e]at h2;omega
 unfold Ll;dsimp only;rw[hbi,h,z7 (beq_self_eq_true _)]
structure lM(t:D1)(ks:List (Int×Int)):Prop where
 sz:t.place.size=ks.length
 ris:oT t.place
 le:∀j∈t.place.toList,j<=t.mask
 dum:t.dummies = #[]
 msk:t.mask=7\/t.mask=31
 few:ks.length<=t.mask
 small:∀k∈ks,k∈lW
 nd:ks.Nodup
 reach:∀(i j:Nat) (k:Int×Int),t.place[i]?=some j->ks[i]?=some k->∃a b,mR t.mask (hP k)=a++j::b/\∀x∈a,x∈t.place.toList
 plain:t.plain=true
def lM.nodummy(T:lM t ks)(j:Nat):t.slot j≠.dummy:=λh=>by
 unfold Ll at h;dsimp only at h;split at h
 .cases h
 .rw[T.dum]at h;split at h
  .rename_i z;simp[D1.has]at z
  .cases h
def lM.live(T:lM t ks){j:Nat}(h:j∈t.place.toList):∃i,t.slot j = .live i/\t.place[i]?=some j:=by obtain⟨i,hi⟩:=Jw h;rw[Cq]at hi;exact⟨i,Px T.ris hi,hi⟩
theorem lM.empty(T:lM t ks){j:Nat}(h:j∉t.place.toList):t.slot j = .empty:=by
 cases hs:t.slot j with
 |empty=>rfl
 |dummy=>exact w9 hs (T.nodummy j)
 |live i=>
  have:=IW hs
  rw[<-Cq]at this;exact w9 (C5 this) h
def lM.cover(T:lM t ks){k:Int×Int}(hk:k∈lW){j:Nat}(hj:j<=t.mask):j∈mR t.mask (hP k):=by
 rcases T.msk with e|e
 .rw[e]at hj ⊢;exact Ĳ k hk j (Ag.mpr (by omega))
 .rw[e]at hj ⊢;exact QF k hk j (Ag.mpr (by omega))
def lM.hole(T:lM t ks):∃j,j<=t.mask/\j∉t.place.toList:=by
 apply C4;intro bG
 have:=DZ (Cj (n:=t.mask+1)) (ys:=t.place.toList) λj hj=>C4 λz=>bG ⟨j,by have:=Ag.mp hj;omega,z⟩
 rw[At,Au,T.sz]at this
 have:=T.few
 omega
def lM.find(T:lM t ks){k:Int×Int}(hk:k∈lW){g:Nat->Int}(hg:∀(i:Nat) (k':Int×Int),ks[i]?=some k'->g i=hP k'):
  (∃j a b,t.probe g (hP k) (t.probeStart (hP k))=some (.empty j none)/\k∉ks/\j∉t.place.toList/\mR t.mask (hP k)=a++j::b/\∀x∈a,x∈t.place.toList)\/∃j i nx,t.probe g (hP k) (t.probeStart (hP k))=some (.candidate j i nx)/\ks[i]?=some k:=by
 obtain⟨j0,l0,n0⟩:=T.hole;have rs:=ć t (hP k)
 have hl:(pG t.mask (t.mask+14) (t.probeStart (hP k))).length<=10*Kw t.mask:=by rw[<-rs];exact OF _ _ _ _
 obtain⟨a,b,j,e1,e2,e3⟩:=P8 (g:=g) (h:=hP k) T.nodummy _ _ (t.probeStart (hP k)) rfl hl ⟨j0,by rw[<-rs];exact T.cover hk l0,T.empty n0⟩
 rw[<-rs]at e1
 have aA:∀{x i:Nat},t.slot x = .live i->∃k',ks[i]?=some k'/\g i=hP k':=λ{x i} h=>by have h1:=IW h;have h2:=(Gz.mp h1).1;rw[T.sz]at h2;exact⟨ks[i],A4 h2,hg _ _ (A4 h2)⟩
 rcases e3 with⟨es,ep⟩|⟨i,nx,es,eg,ep⟩
 .have hj:j∉t.place.toList:=λz=>by obtain⟨i,hi,_⟩:=T.live z;rw[es]at hi;cases hi
  refine .inl ⟨j,a,b,ep,λhm=>?_,hj,e1,λx hx=>?_⟩
  .obtain⟨i,hi⟩:=Jw hm
   have bI:i<t.place.size:=by rw[T.sz];exact(B2.mp hi).1
   have hp:=En bI;obtain⟨a',b',f1,f2⟩:=T.reach i _ k hp hi;have dv:t.place[i]∈t.place.toList:=Array.getElem_mem_toList bI;have jw:t.slot t.place[i] = .live i:=Px T.ris hp;rw[e1]at f1;rcases List.append_eq_append_iff.mp f1 with⟨c,c1,c2⟩|⟨c,c1,c2⟩
   .cases c with
    |nil=>cases c2;exact hj dv
    |cons y c=>cases c2;exact hj (f2 j (by rw[c1];simp))
   .cases c with
    |nil=>cases c2;exact hj dv
    |cons y c=>
     cases c2;obtain⟨i',h1,h2⟩:=e2 t.place[i] (by rw[c1];simp)
     rw[jw]at h1;cases h1;exact h2 (hg i k hi)
  .obtain⟨i,hi,_⟩:=e2 x hx
   have:=IW hi
   rw[<-Cq]at this;exact C5 this
 .obtain⟨k',h1,h2⟩:=aA es;have bN:=T.small k' (C5 h1)
  have:k'=k:=ĸ k' bN k hk (h2.symm.trans eg)
  subst this;exact .inr ⟨j,i,nx,ep,h1⟩
def nG{α:Type}(xs:List α)(p:Nat)(x:α):List α:=xs.take p++x::xs.drop p
def oH{α:Type}(xs:List α)(p:Nat)(x:α):(nG xs p x).Perm (x::xs):=by unfold nG;refine List.perm_middle.trans ?_;rw[List.take_append_drop]
def RR{α:Type}(xs:List α){p:Nat}(hp:p<=xs.length)(x:α)(i:Nat):(nG xs p x)[i]?=if i<p then xs[i]? else if i=p then some x else xs[i-1]?:=by
 unfold nG;by_cases h1:i<p
 .rw[z7 h1,Dg (by rw[E9];omega),List.getElem?_take_of_lt h1]
 .rw[y3 h1,F9 (by rw[E9];omega),E9,Mb hp]
  by_cases h2:i=p
  .rw[z7 h2,h2,Nn];rfl
  .rw[y3 h2];obtain⟨m,hm⟩:∃m,i-p=m+1:=⟨i-p-1,by omega⟩;rw[hm,Ec,Kx];congr 1;omega
def lM.put(T:lM t ks){k:Int×Int}(hk:k∈lW)(hn:k∉ks){j:Nat}(hj:j∉t.place.toList)(hjm:j<=t.mask){a b:List Nat}(e1:mR t.mask (hP k)=a++j::b)(e2:∀x∈a,x∈t.place.toList)(hl:ks.length+1<=t.mask):
  (t.put j).2<=ks.length/\lM (t.put j).1 (nG ks (t.put j).2 k):=by
 have hb:Be t.place j<=ks.length:=by rw[<-T.sz];exact(yK T.ris j).1
 have hsl:t.place[Be t.place j]?≠some j:=KG (.inl (T.empty hj));have af:(t.put j).1.place.toList=nG t.place.toList (Be t.place j) j:=Hw ..
 have aN:∀x,x∈(t.put j).1.place.toList↔x=j\/x∈t.place.toList:=λx=>by rw[af,(oH _ _ _).mem_iff,Ad]
 refine⟨hb,?_,PY T.ris hsl,λx hx=>?_,?_,T.msk,?_,λq hq=>?_,?_,λi x q h1 h2=>?_,T.plain⟩
 .rw[<-Au,af,(oH _ _ _).length_eq,(oH _ _ _).length_eq,As,As,Au,T.sz]
 .rcases (aN x).mp hx with z|z
  .rw[z];exact hjm
  .exact T.le x z
 .show (if D1.has t.dummies j=true then _ else t.dummies) = #[];rw[T.dum];rfl
 .rw[(oH _ _ _).length_eq];exact hl
 .rcases Ad.mp ((oH _ _ _).mem_iff.mp hq) with z|z
  .rw[z];exact hk
  .exact T.small q z
 .rw[(oH _ _ _).nodup_iff,Bq];exact⟨hn,T.nd⟩
 .rw[<-Cq,af,RR _ (by rw[Au,T.sz];exact hb)]at h1
  have bn:(nG ks (Be t.place j) k)[i]?=some q:=h2;rw[RR _ hb]at bn;show ∃a b,mR t.mask (hP q)=a++x::b/\_
  have old:∀i',t.place.toList[i']?=some x->ks[i']?=some q->∃a b,mR t.mask (hP q)=a++x::b/\∀x∈a,x∈(t.put j).1.place.toList:=λi' q1 q2=>by rw[Cq]at q1;obtain⟨a',b',f1,f2⟩:=T.reach i' x q q1 q2;exact⟨a',b',f1,λy hy=>(aN y).mpr (.inr (f2 y hy))⟩
  split at h1
  .rename_i hc;rw[z7 hc]at bn;exact old i h1 bn
  .rename_i hc;rw[y3 hc]at bn;split at h1
   .rename_i aX;rw[z7 aX]at bn;cases h1;cases bn;exact⟨a,b,e1,λy hy=>(aN y).mpr (.inr (e2 y hy))⟩
   .rename_i aX;rw[y3 aX]at bn;exact old _ h1 bn
def mN(ow:Array (Option Nat)):List (Nat×Nat):=(A9 32).filterMap λj=>(ow.getD j none).map (j,·)
structure yB(ow:Array (Option Nat))(ks:List (Int×Int)):Prop where
 sz:ow.size=32
 perm:((mN ow).map (·.2)).Perm (A9 ks.length)
 reach:∀(j i:Nat) (k:Int×Int),ow.getD j none=some i->ks[i]?=some k->∃a b,mR 31 (hP k)=a++j::b/\∀x∈a,(ow.getD x none).isSome=true
theorem BG{α β:Type}{f g:α->Option β}:∀{L:List α},(∀x∈L,f x=g x)->L.filterMap f=L.filterMap g
 | [],_=>rfl
 |x::L,h=>by rw[Cs,Cs,h x A6,BG λy hy=>h y (A7 _ hy)]
theorem Tf{f f':Nat->Option (Nat×Nat)}{v:Nat×Nat}(h0:f j=none)(h1:f' j=some v)(h2:∀x,x≠j->f' x=f x):∀{L:List Nat},L.Nodup->j∈L->(L.filterMap f').Perm (v::L.filterMap f)
 | [],_,h=>(Dk h).elim
 |x::L,hn,h=>by
  rw[Bq]at hn;by_cases e:x=j
  .subst e;rw[Cs,h1,Cs,h0];dsimp only
   have:L.filterMap f'=L.filterMap f:=BG λy hy=>h2 y λq=>hn.1 (q▸hy)
   rw[this]
  .have hm:j∈L:=(Ad.mp h).resolve_left λq=>e q.symm;have ih:=Tf h0 h1 h2 hn.2 hm;rw[Cs,h2 x e,Cs]
   cases f x with
   |none=>exact ih
   |some y=>exact(ih.cons y).trans (Jg _ _ _)
theorem Te{α β:Type}{f:α->Option β}:∀{L:List α},(∀x∈L,(f x).isSome=true)->(L.filterMap f).length=L.length
 | [],_=>rfl
 |x::L,h=>by obtain⟨y,e⟩:=Dj.mp (h x A6);rw[Cs,e];simp[Te λz hz=>h z (A7 _ hz)]
theorem yB.step(O:yB ow ks){k:Int×Int}(hk:k∈lW)(hl:ks.length<=30):
  ∃j,F6 31 ow (Kw 31) (F7 (hP k) % (31+1)) (F7 (hP k))=some j/\yB (ow.setIfInBounds j (some ks.length)) (ks++[k]):=by
 have ab:(mN ow).length=ks.length:=by have:=O.perm.length_eq;rwa [A0,At]at this
 obtain⟨j0,je,e0⟩:∃j∈A9 32,ow.getD j none=none:=by
  apply C4;intro bG
  have h1:(mN ow).length=(A9 32).length:=Te λj hj=>by
   cases h:ow.getD j none with
   |none=>exact w9 ⟨j,hj,h⟩ bG
   |some i=>rfl
  rw[ab,At]at h1;omega
 have dv:∀j,j<32->ow.getD j (some 0)=ow.getD j none:=λj hj=>by simp[Eh,O.sz,hj]
 have bq:∀j,¬j<32->ow.getD j (some 0)=some 0:=λj hj=>by simp[Eh,O.sz,hj]
 cases hf:(mR 31 (hP k)).find? λj=>(ow.getD j (some 0)).isNone with
 |none=>
  have:=List.find?_eq_none.mp hf j0 (QF k hk j0 je)
  rw[dv j0 (Ag.mp je),e0]at this;simp at this
 |some j=>
  obtain⟨hjp,a,b,e1,e2⟩:=List.find?_eq_some_iff_append.mp hf
  have hj:j<32:=C4 λz=>by rw[bq j z]at hjp;cases hjp
  rw[dv j hj]at hjp
  have dy:ow.getD j none=none:=by simpa using hjp
  have gd:∀x,(ow.setIfInBounds j (some ks.length)).getD x none=if x=j then some ks.length else ow.getD x none:=λx=>by
   have hs:j<ow.size:=by rw[O.sz];exact hj
   by_cases e:x=j
   .subst e;simp[Eh,hs]
   .rw[y3 e];by_cases hx:x<ow.size
    .simp[Eh,hx,Array.getElem_setIfInBounds,Ch e]
    .simp[Eh,hx]
  have up:∀x,(ow.getD x none).isSome=true->((ow.setIfInBounds j (some ks.length)).getD x none).isSome=true:=λx hx=>by
   rw[gd];split
   .rfl
   .exact hx
  refine⟨j,(Pe _ _ _).trans hf,by simpa using O.sz,?_,λx i q h1 h2=>?_⟩
  .have p1:(mN (ow.setIfInBounds j (some ks.length))).Perm ((j,ks.length)::mN ow):=Tf (by rw[dy];rfl) (by rw[gd,z7 rfl];rfl) (λx hx=>by rw[gd,y3 hx]) Cj (Ag.mpr hj)
   refine(p1.map (·.2)).trans ?_;rw[Af,Ah];show (ks.length::(mN ow).map (·.2)).Perm (A9 (ks.length+1));rw[Hz];exact(O.perm.cons _).trans (Ha _ _).symm
  .rw[gd]at h1;split at h1
   .rename_i e;subst e;cases h1;rw[F9 (Aj _),Nn]at h2;cases h2;refine⟨a,b,e1,λy hy=>up y ?_⟩
    have:=e2 y hy
    by_cases hy2:y<32
    .rw[dv y hy2]at this
     cases h:ow.getD y none with
     |none=>rw[h]at this;cases this
     |some _=>rfl
    .rw[bq y hy2]at this;have hc:y∉mR 31 (hP k):=λz=>?_
     .exact w9 (by rw[e1];simp[hy]) hc
     .exact w9 z (ï k hk y hy2)
   .have hi:i∈A9 ks.length:=by
     rw[<-O.perm.mem_iff]
     have gh:x<32:=C4 λz=>by
      have:ow.getD x none=none:=by simp[Eh,O.sz,z]
      rw[this]at h1;cases h1
     exact Ak.mpr ⟨(x,i),Er.mpr ⟨x,Ag.mpr gh,by rw[h1];rfl⟩,rfl⟩
    rw[Dg (Ag.mp hi)]at h2;obtain⟨a',b',f1,f2⟩:=O.reach x i q h1 h2;exact⟨a',b',f1,λy hy=>up y (f2 y hy)⟩
def MS(acc:Option (Array (Option Nat)×Nat))(h:Int):Option (Array (Option Nat)×Nat):=do
 let (owner,k) <-acc
 let j <-F6 31 owner (Kw 31) (F7 h % (31+1)) (F7 h)
 Cr (owner.setIfInBounds j (some k),k+1)
def Yq{n j:Nat}(e:F6 31 ow (Kw 31) (F7 h % (31+1)) (F7 h)=some j):MS (some (ow,n)) h=some (ow.setIfInBounds j (some n),n+1):=by unfold MS;simp only[Option.bind_eq_bind,Option.bind_some];rw[e];rfl
theorem ń(ks:List (Int×Int)):∀(done:List (Int×Int)) (ow:Array (Option Nat)),yB ow done->(∀k∈ks,k∈lW)->done.length+ks.length<=31 ->
  ∃ow',(ks.map hP).foldl MS (some (ow,done.length))=some (ow',done.length+ks.length)/\yB ow' (done++ks):=by
 induction ks with
 |nil=>exact λdone ow O _ _=>⟨ow,rfl,by rw[Bx];exact O⟩
 |cons k ks ih=>
  intro done ow O hs hl;rw[As]at hl;obtain⟨j,e,O'⟩:=O.step (hs k A6) (by omega);obtain⟨ow',e',O''⟩:=ih (done++[k]) _ O' (λq hq=>hs q (A7 _ hq)) (by rw[Ah,Bb];omega)
  refine⟨ow',?_,by rw[Co]at O'';exact O''⟩
  rw[Af,Fh,Yq e];rw[Ah,Bb]at e';rw[e',As,Nat.add_assoc,Nat.add_comm 1]
def Ù:yB (Array.replicate 32 none) []:=⟨by simp,by decide +kernel,λj i k _ h=>by simp at h⟩
theorem MB{α:Type}{xs:List α}:∀{L:List Nat},(∀i∈L,i<xs.length)->∀n:Nat,(L.filterMap (xs[·]?))[n]?=L[n]?.bind (xs[·]?)
 | [],_,n=>by simp
 |i::L,h,n=>by
  have hi:=h i A6;rw[Cs,A4 hi]
  cases n with
  |zero=>simp[hi]
  |succ n=>exact MB (λq hq=>h q (A7 _ hq)) n
def zX{α:Type}{xs:List α}{L:List Nat}(h:L.Perm (A9 xs.length)):(L.filterMap (xs[·]?)).Perm xs:=by
 refine(h.filterMap _).trans ?_
 have:(A9 xs.length).filterMap (xs[·]?)=xs:=by
  apply Fu;intro n;rw[MB λi hi=>Ag.mp hi];by_cases hn:n<xs.length
  .rw[Dl hn];rfl
  .rw[Cv (by simpa using hn),Cv (by simpa using hn)];rfl
 rw[this]
def lM.relay(T:lM t ks)(hl:ks.length<=18){hs:Array Int}(he:hs.toList=ks.map hP):
  ∃t' aO,My 31 t.finger (t.movedTo 31) t.led t.plain hs=some (t',aO)/\aO.toList.Perm (A9 ks.length)/\lM t' (aO.toList.filterMap (ks[·]?))/\t'.mask=31/\t'.led=t.led:=by
 obtain⟨ow,e1,O⟩:=ń ks [] _ Ù T.small (by simp;omega)
 have ec:La 31 hs=some ow:=by unfold La;rw[<-Array.foldl_toList,he];exact lD (Option.map _) e1
 rw[Kb]at O;have am:∀i∈(mN ow).map (·.2),i<ks.length:=λi hi=>Ag.mp (O.perm.mem_iff.mp hi);refine⟨{ mask:=31,place:=((mN ow).map (·.1)).toArray,dummies:=#[],finger:=t.finger,led:=t.led,moves:=t.movedTo 31,plain:=t.plain },((mN ow).map (·.2)).toArray,by unfold My;rw[ec];rfl,?_,⟨?_,?_,?_,rfl,.inr rfl,?_,?_,?_,?_,T.plain⟩,rfl,rfl⟩
 .exact O.perm
 .show ((mN ow).map (·.1)).toArray.size=(((mN ow).map (·.2)).filterMap _).length;rw[(zX O.perm).length_eq]
  have:=O.perm.length_eq
  simpa using this
 .show Lm _ ((mN ow).map (·.1));unfold mN;rw[Bd,Ip];refine Dz.imp λ{a b} cB p hp q hq=>?_;obtain⟨k,_,rfl⟩:=B9.mp hp;obtain⟨m,_,rfl⟩:=B9.mp hq;exact cB
 .intro j hj;have eD:j∈(mN ow).map (·.1):=hj;obtain⟨⟨x,i⟩,hm,rfl⟩:=Ak.mp eD;obtain⟨y,hy,e⟩:=Er.mp hm;obtain⟨_,_,e⟩:=B9.mp e;cases e
  have:=Ag.mp hy
  exact Nat.le_of_lt_succ this
 .rw[(zX O.perm).length_eq];show ks.length<=31;omega
 .intro k hk;exact T.small k ((zX O.perm).mem_iff.mp hk)
 .exact(zX O.perm).nodup_iff.mpr T.nd
 .intro n j k h1 h2
  have eu:((mN ow).map (·.1))[n]?=some j:=by simpa using h1
  have bn:(((mN ow).map (·.2)).filterMap (ks[·]?))[n]?=some k:=h2;rw[MB am]at bn;rw[Am]at eu bn
  cases hn:(mN ow)[n]? with
  |none=>rw[hn]at eu;cases eu
  |some p=>
   rw[hn]at eu bn;cases eu;obtain⟨y,hy,e⟩:=Er.mp (C5 hn);obtain⟨i,ei,e⟩:=B9.mp e;cases e;obtain⟨a,b,f1,f2⟩:=O.reach y i k ei bn;refine⟨a,b,f1,λx hx=>?_⟩;obtain⟨i',cu⟩:=Dj.mp (f2 x hx)
   have gh:x<32:=C4 λz=>by
    have:ow.getD x none=none:=by simp[Eh,O.sz,z]
    rw[this]at cu;cases cu
   show x∈(mN ow).map (·.1);exact Ak.mpr ⟨(x,i'),Er.mpr ⟨x,Ag.mpr gh,by rw[cu];rfl⟩,rfl⟩
section
variable{prog:Bw}{w:Cg}{A:C1}{E:VP}{s:Ai}
abbrev oX(prog:Bw)(w:Cg)(h:Cf)(k:Int×Int)(a:Av):Prop:=IsTupleKey (Fc prog w) h [k.1,k.2] a
def YF(k:Int×Int):tupleKeyHash (Fc prog w) [k.1,k.2]=hP k:=rfl
def Sf{Q:Bool->Ai->Prop}(hk:oX prog w s.heap k a)(h:Q false s):Ap (B0 prog w) A (Lc 8 (.ref a)) Q E s:=by
 have hT:=hk.typeIs;obtain⟨o,items,n,ho,_,hd,hi⟩:=hk;unfold Lc;refine A3 (Iw hT ?_);dsimp only;refine A3 (w6 ?_);simp only[Hx,Bj,if_false];refine A3 (Ei ho hd ?_);dsimp only;refine A3 ?_;rw[<-Array.forIn_toList];refine G7 _ (λrest r s'=>r.1=none/\s'=s/\∃ks,ItemsAre (Fc prog w) ks rest) _ ?_ ?_ _ _ ⟨rfl,rfl,_,hi⟩
 .rintro v rest r s' ⟨hr,rfl,ks,bF⟩
  cases bF with
  | @cons k' _ iI _ h1 h2=>obtain⟨t,rfl⟩:=Ky h1;unfold Lc;refine A3 (w6 ?_);simp only[Bj,if_false];exact w6 ⟨rfl,rfl,iI,h2⟩
 .rintro ⟨r1,r2⟩ s' ⟨hr,rfl,_⟩;simp only at hr;subst hr;exact w6 h
def Xd{Q:Bool->Ai->Prop}(hk:oX prog w s.heap k a)(h:Q true s):Ap (B0 prog w) A (Nv 8 (.ref a)) Q E s:=by
 have hT:=hk.typeIs;obtain⟨o,items,n,ho,_,hd,hi⟩:=hk;unfold Nv;refine A3 (M8 hT F.slot_tuple_hash.lookup ?_);dsimp only;refine A3 (Ei ho hd ?_);refine A3 ?_;show Ap _ _ (forIn items _ _) _ _ s;rw[<-Array.forIn_toList];refine G7 _ (λrest r s'=>r.1=none/\s'=s/\∃ks,ItemsAre (Fc prog w) ks rest) _ ?_ ?_ _ _ ⟨rfl,rfl,_,hi⟩
 .rintro v rest r s' ⟨hr,rfl,ks,bF⟩
  cases bF with
  | @cons k' _ iI _ h1 h2=>obtain⟨t,rfl⟩:=Ky h1;unfold Nv;refine A3 (w6 ?_);simp only[Hx,Bj,if_false];exact w6 ⟨rfl,rfl,iI,h2⟩
 .rintro ⟨r1,r2⟩ s' ⟨hr,rfl,_⟩;simp only at hr;subst hr;exact w6 h
def Vs{ys:List Aa}{Q:Bool->Ai->Prop}(hk:oX prog w s.heap k a)(hy:∀y∈ys,∃q b,y = .ref b/\oX prog w s.heap q b)(h:Q false s):Ap (B0 prog w) A (searchCouldBeSeen (.ref a) ys) Q E s:=by
 unfold searchCouldBeSeen;refine A3 ?_;refine G7 _ (λrest r s'=>r.1=none/\s'=s/\∀y∈rest,∃q b,y = .ref b/\oX prog w s.heap q b) _ ?_ ?_ _ _ ⟨rfl,rfl,hy⟩
 .rintro v rest r s' ⟨hr,rfl,hv⟩;obtain⟨q,b,rfl,hb⟩:=hv v A6;have bO:=λy hy=>hv y (A7 _ hy);dsimp only;split
  .exact w6 ⟨rfl,rfl,bO⟩
  .refine A3 (wpAny_eqIsQuiet_tuple hk ?_);simp only[Hx,Bj,if_false];refine A3 (wpAny_eqIsQuiet_tuple hb ?_);simp only[Hx,Bj,if_false];refine A3 (Sf hk ?_);simp only[Bj,if_false];refine A3 (Sf hb ?_);simp only[Bj,if_false];exact w6 ⟨rfl,rfl,bO⟩
 .rintro ⟨r1,r2⟩ s' ⟨hr,rfl,_⟩;simp only at hr;subst hr;exact w6 h
abbrev AT(p:(Int×Int)×Av):Int×Aa:=(hP p.1,.ref p.2)
def qT(prog:Bw)(w:Cg)(h:Cf)(S:Av)(ps:List ((Int×Int)×Av)):Prop:=∃o es ep t,h.get? S=some o/\o.ExactSet/\o.data = .set es ep t/\es.toList=ps.map AT/\lM t (ps.map (·.1))/\t.tooFull=false/\t.led = !nM w/\∀p∈ps,p.2<S/\oX prog w h p.1 p.2
def BX{h h':Cf}(hp:oX prog w h k a)(e:∀o,h.get? a=some o->h'.get? a=some o):oX prog w h' k a:=by obtain⟨o,it,n,ho,z⟩:=hp;exact⟨o,it,n,e o ho,z⟩
def lM.fits(T:lM t ks){n:Nat}(e:n=ks.length):t.fits n=true:=by
 unfold D1.fits D1.fill;rw[T.dum,T.sz,e]
 have:=T.few
 simp[this]
def lM.inRoad{m:Nat}(hm:m=7\/m=31){k:Int×Int}(hk:k∈lW){j:Nat}(hj:j∈mR m (hP k)):j<=m:=by
 rcases hm with rfl|rfl
 .exact(by decide +kernel:∀k∈lW,∀j∈mR 7 (hP k),j<=7) k hk j hj
 .exact(by decide +kernel:∀k∈lW,∀j∈mR 31 (hP k),j<=31) k hk j hj
def qT.frame{h h':Cf}(G:qT prog w h S ps)(k:∀b o,b<=S->h.get? b=some o->h'.get? b=some o):qT prog w h' S ps:=by obtain⟨o,es,ep,t,ho,h1,h2,h3,h4,h5,h6,h7⟩:=G;exact⟨o,es,ep,t,k _ _ (Aj _) ho,h1,h2,h3,h4,h5,h6,λp hp=>⟨(h7 p hp).1,BX (h7 p hp).2 λo e=>k _ o (D7 (h7 p hp).1) e⟩⟩
def FO(T:lM t ks):t.fill=ks.length:=by unfold D1.fill;rw[T.dum,T.sz];rfl
def RS{α β:Type}(f:α->β)(xs:List α)(p:Nat)(x:α):(nG xs p x).map f=nG (xs.map f) p (f x):=by unfold nG;rw[B6,Af,List.map_take,List.map_drop]
def Ry{h0:Cf}{S:Av}{o0:Jy}{es0 aV:Array (Int×Aa)}{ps:List ((Int×Int)×Av)}(g0:h0.get? S=some o0)(x0:o0.ExactSet)(d0:o0.data = .set es0 eW t0)(e2:aV.toList=ps.map AT)(T2:lM t2 (ps.map (·.1)))(l2:t2.led = !nM w)(hp:∀p∈ps,p.2<S/\oX prog w h0 p.1 p.2):
  (h0.update S (Gy aV t2)).get? S=some { o0 with data:=.set aV (eW+1) t2 }/\(t2.tooFull=false->qT prog w (h0.update S (Gy aV t2)) S ps):=by
 have hg:(h0.update S (Gy aV t2)).get? S=some { o0 with data:=.set aV (eW+1) t2 }:=by
  have:=D6 (Gy aV t2) g0 (by rw[Nr aV t2 d0];rfl)
  rw[Nr aV t2 d0]at this;exact this
 exact⟨hg,λf2=>⟨_,aV,eW+1,t2,hg,x0,rfl,e2,T2,f2,l2,λp hq=>⟨(hp p hq).1,BX (hp p hq).2 λo e=>((By h0 S _).2 _ (Aq (hp p hq).1)).trans e⟩⟩⟩
def Ρ{k:Int×Int}{Q:Bool->Ai->Prop}(hu:A.units<D4)(hS:qT prog w s.heap S ps)(hk:k∈lW)(ha:oX prog w s.heap k a)(haS:a<S)(hl:ps.length+1<=18)(h:∀b h' tk cx,Dh S s.heap h'->qT prog w h' S cx->(∀x,x∈cx.map (·.1)↔x∈ps.map (·.1)\/x=k)->cx.length<=ps.length+1->(∀p∈cx,p∈ps\/p=(k,a))->Q b { s with heap:=h',toks:=tk }):
  Ap (B0 prog w) A (N8 S (.ref a)) Q E s:=by
 unfold N8;refine Cp (A3 (wpAny_pyHash_tuple hu ha ?_));rw[YF];generalize s.toks+([k.1,k.2].length+1)=tk;have hS0:=hS;obtain⟨o,es,ep,t,ho,bM,hd,he,T,hf,hL,hp⟩:=hS
 have hes:es.size=(ps.map (·.1)).length:=by rw[<-Au,he,A0,A0]
 have cW:=T.fits hes;unfold Nm setAddHashedIn;refine Cp (A3 (D2 ho hd cW ?_));dsimp only;rw[show byScan (.ref a) es=false from rfl];simp only[Bj,↓reduceIte];refine A3 ?_;unfold setSearch setSearchFrom;refine A3 (D2 ho hd cW ?_);dsimp only
 have hgw:t.gaveWay=false:=by unfold D1.gaveWay;rcases T.msk with e|e<;>rw[e]<;>rfl
 rw[hgw];simp only[Bj,↓reduceIte]
 have gM:∀(i:Nat) (q:Int×Int),(ps.map (·.1))[i]?=some q->∃p,ps[i]?=some p/\p.1=q/\es[i]?=some (AT p):=λi q e=>by
  rw[Am]at e
  cases hp:ps[i]? with
  |none=>rw[hp]at e;cases e
  |some p=>rw[hp]at e;refine⟨p,rfl,by simpa using e,?_⟩;rw[<-Cq,he,Am,hp];rfl
 have hg:∀(i:Nat) (q:Int×Int),(ps.map (·.1))[i]?=some q->((es[i]?.map (·.1)).getD 0)=hP q:=λi q e=>by obtain⟨p,_,e2,e3⟩:=gM i q e;rw[e3,<-e2,Option.map_some,Option.getD_some]
 rcases T.find hk hg with⟨j,ra,rb,fR,hn,hj,e1,e2⟩|⟨j,i,nx,fR,hi⟩
 .split
  .rename_i met hm;cases fR.symm.trans hm;refine w6 ?_;dsimp only;refine A3 (D2 ho hd cW ?_);dsimp only;have hjm:j<=t.mask:=lM.inRoad T.msk hk (by rw[e1];simp)
   have fO:(ps.map (·.1)).length+1<=t.mask:=by
    have h4:t.mask=7->ps.length<=4:=λe=>by
     unfold Lt at hf;rw[FO T,e,A0]at hf
     have:=pQ hf
     omega
    rw[A0];rcases T.msk with e|e
    .have:=h4 e;omega
    .omega
   obtain⟨hb,T2⟩:=T.put hk hn hj hjm e1 e2 fO;have af:(t.put j).1.plain=true:=T.plain;rw[z7 af];refine A3 (Xd ha ?_);simp only[if_true]
   have cr:(Ft es (t.put j).2 (hP k,D3 a)).toList=(nG ps (t.put j).2 (k,a)).map AT:=by rw[RS,Hw,he];rfl
   have T3:lM (t.put j).1 ((nG ps (t.put j).2 (k,a)).map (·.1)):=by rw[RS];exact T2
   have hp3:∀p∈nG ps (t.put j).2 (k,a),p.2<S/\oX prog w s.heap p.1 p.2:=λp hq=>by
    rcases Ad.mp ((oH _ _ _).mem_iff.mp hq) with z|z
    .rw[z];exact⟨haS,ha⟩
    .exact hp p z
   have aN:∀(cx:List ((Int×Int)×Av)),cx.Perm (nG ps (t.put j).2 (k,a))->(∀x,x∈cx.map (·.1)↔x∈ps.map (·.1)\/x=k)/\cx.length<=ps.length+1/\∀p∈cx,p∈ps\/p=(k,a):=λcx pp=>by
    have pq:=pp.trans (oH _ _ _);refine⟨λx=>?_,by rw[pq.length_eq];exact Aj _,λp hp=>(Ad.mp (pq.mem_iff.mp hp)).symm⟩
    rw[(pq.map (·.1)).mem_iff,Af,Ad];exact Or.comm
   have hsz:(Ft es (t.put j).2 (hP k,D3 a)).size=ps.length+1:=by rw[<-Au,cr,A0,(oH _ _ _).length_eq];rfl
   obtain⟨g1,G1⟩:=Ry (prog:=prog) (w:=w) ho bM hd cr T3 hL hp3;refine A3 (Jh ho hd ?_ (by rw[hsz,Bs];omega))
   split
   .rename_i htf
    have cV:(t.put j).1.tooFull=true:=by simpa using htf
    have h5:t.mask=7/\ps.length=4:=by unfold Lt at cV hf;rw[FO T2,(oH _ _ _).length_eq,As,A0]at cV;rw[FO T,A0]at hf;have hmk:(t.put j).1.mask=t.mask:=rfl;rw[hmk]at cV;have z1:=lC cV;have z2:=pQ hf;rcases T.msk with e|e<;>rw[e]at z1 z2<;>omega
    refine A3 ?_;unfold setRelay;refine A3 (D2 g1 rfl (T3.fits (by rw[hsz,A0,(oH _ _ _).length_eq];rfl)) ?_)
    dsimp only
    have e20:Ku (Ez (es.size+1))=32:=by rw[hes,A0,h5.2];rfl
    rw[e20,y3 (by rw[Bs];decide)]
    obtain⟨t',aO,f1,f2,f3,f4,f5⟩:=T3.relay (by rw[A0,(oH _ _ _).length_eq,As];omega) (hs:=(Ft es (t.put j).2 (hP k,D3 a)).map (·.1)) (by rw[Array.toList_map,cr,B1,B1];rfl)
    have er:(t.put j).1.relaid ((Ft es (t.put j).2 (hP k,D3 a)).map (·.1)) (Ez (es.size+1))=some (t',aO):=by unfold D1.relaid;rw[e20];exact f1
    rw[er];generalize hE:Ft es (t.put j).2 (hP k,D3 a)=aV at *;generalize hP2:nG ps (t.put j).2 (k,a)=ps2 at *;rw[A0]at f2;have p4:=zX (xs:=ps2) f2
    have e4:(aO.filterMap (aV[·]?)).toList=(aO.toList.filterMap (ps2[·]?)).map AT:=by rw[Array.toList_filterMap,List.map_filterMap];refine BG λi _=>?_;rw[<-Cq,cr,Am]
    have s4:(aO.filterMap (aV[·]?)).size=aV.size:=by rw[<-Au,e4,A0,p4.length_eq,<-Au,cr,A0]
    refine A3 ?_;show Ap _ _ (if ((aO.filterMap (aV[·]?)).size != aV.size)=true then _ else _) _ _ _;rw[y3 (by rw[s4];simp)]
    refine w6 ?_;dsimp only
    have e5:aO.toList.filterMap ((ps2.map (·.1))[·]?)=(aO.toList.filterMap (ps2[·]?)).map (·.1):=by rw[List.map_filterMap];exact BG λi _=>Am ..
    rw[e5]at f3;obtain⟨g2,G2⟩:=Ry (prog:=prog) (w:=w) g1 bM rfl e4 f3 (f5.trans hL) λp hq=>⟨(hp3 p (p4.mem_iff.mp hq)).1,BX (hp3 p (p4.mem_iff.mp hq)).2 λo e=>((By s.heap S _).2 _ (Aq (hp3 p (p4.mem_iff.mp hq)).1)).trans e⟩;obtain⟨m1,m2,m3⟩:=aN _ p4;refine Jh g1 rfl (w6 (h _ _ tk _ ((By s.heap S _).trans (By _ S _)) (G2 ?_) m1 m2 m3)) (by rw[s4,hsz,Bs];omega)
    unfold Lt;rw[FO f3,f4,A0,p4.length_eq,<-hP2,(oH _ _ _).length_eq,As,h5.2];rfl
   .rename_i htf
    have cV:(t.put j).1.tooFull=false:=by simpa using htf
    obtain⟨m1,m2,m3⟩:=aN _ (Fb _);exact w6 (h _ _ tk _ (By s.heap S _) (G1 cV) m1 m2 m3)
  .rename_i hm;exact w9 fR (hm _)
 .split
  .rename_i met hm;cases fR.symm.trans hm;dsimp only;obtain⟨p,q1,q2,q3⟩:=gM i k hi;obtain⟨hpS,fy⟩:=hp p (C5 q1);have hm:k∈ps.map (·.1):=C5 hi;rw[q3];dsimp only;have fin:Ap (B0 prog w) A (Cr false) Q E { s with toks:=tk }:=w6 (h _ s.heap tk ps (Dh.refl S s.heap) hS0 (λx=>⟨.inl,λz=>z.elim id λq=>q▸hm⟩) (Em _) λ_=>.inl)
   have hd1:decide ([p.1.1,p.1.2]=[k.1,k.2])=true:=by rw[q2];exact K9 rfl
   cases hled:t.led with
   |true=>simp only[Hx,Bj,if_false];refine A3 (Cp (wpAny_eqBool_tuple hu fy ha ?_));rw[hd1];exact A3 (D2 ho hd cW (w6 fin))
   |false=>
    simp only[Bool.not_false,if_true];refine A3 (Vs ha (λy hy=>?_) ?_)
    .obtain⟨e,he1,rfl⟩:=Ak.mp hy
     have aZ:e∈es.toList:=by rw[Array.toList_filter]at he1;exact(Az.mp he1).1
     rw[he]at aZ;obtain⟨q,hq,rfl⟩:=Ak.mp aZ;exact⟨q.1,q.2,rfl,(hp q hq).2⟩
    .simp only[Bj,if_false];refine A3 (Cp (wpAny_eqBool_tuple hu fy ha ?_));rw[hd1];exact A3 (D2 ho hd cW (w6 fin))
  .rename_i hm;exact w9 fR (hm _)
end
section
variable{prog:Bw}{w:Cg}{A:C1}{E:VP}{s:Ai}{a:Av}
def vI(w:Cg)(h:Cf)(a:Av)(vs:List Aa):Prop:=∃o es ep t,h.get? a=some o/\o.ExactSet/\o.data = .set es ep t/\es.toList.map (·.2)=vs/\es.size<scanBound/\t.fits es.size=true/\oT t.place/\t.led=(!nM w)/\t.plain=true
theorem v0J{Q:VP}(hh:A.handled=none)(hG:vI w s.heap a vs)
  (h:∀(it:Av) (s':Ai) (cq:List Aa) (St:Nat->Cf->Prop) (fp:List Av),(∃hp d,s'={ s with heap:=hp,drawn:=d })->(∀b ob,s.heap.get? b=some ob->s'.heap.get? b=some ob)->cq.Perm vs->(∀b∈fp,b<s'.heap.objs.size)->it∈fp->(∀b∈fp,b=a\/s.heap.objs.size<=b)->s'.TypeIs (.ref it) "set_iterator" ->
   St 0 s'.heap->Nb prog w A.in1 it fp [it] cq.length (λi v=>cq[i]?=some v) St->Q (.ref it) s'):
  Ap (B0 prog w) A (N3 (.ref a)) Q E s:=by
 obtain⟨o,es,ep,t,ho,bM,hd,rfl,hb,hf,iS,hL0,af⟩:=hG;have hTy:s.TypeIs (.ref a) "set":=⟨o,ho,bM.1⟩
 have cW:t.place.size=es.size:=by unfold D1.fits at hf;simp only[Bi,beq_iff_eq]at hf;exact hf.1
 refine wpAny_pyIter_slot hTy F.slot_set_iter (Eu F.slot_set_iter hTy Wl ?_ (F.args_set_iter_1 _));unfold Cl.«frozenset.__iter__» Cl.Frozenset.slot0;refine A3 (A3 (Ey (show slotArgs "__iter__" 0 ⟨[.ref a],[]⟩=Cr (.ref a,[]) from rfl) ?_));show Ap _ _ (Cr a) _ _ s;refine w6 ?_;unfold Cl.Frozenset.sizeOf;refine A3 (A3 (Ke ho hd hf (w6 ?_)))
 unfold setDrawn;refine A3 (A3 (D2 ho hd hf ?_));dsimp only;unfold N9;refine A3 (A3 (Gb (w6 ?_)))
 have fR:∀(s1:Ai) {A1:C1} {E1:VP} {Q1:Nat->Ai->Prop},s1.heap.get? a=some o->Q1 ep s1->Ap (B0 prog w) A1 (setEpoch a) Q1 E1 s1:=λs1 {A1 E1 Q1} g q=>by unfold setEpoch;exact A3 (D2 g hd hf (w6 q))
 show Ap _ _ (Cr (!nM w&&_) >>= _) _ _ s;refine A3 (w6 ?_);have jf:a<s.heap.objs.size:=Ao ho
 have num:∀(slot:Nat->Nat) (cq:List Aa),slot 0=0->cq.length=es.size->cq.Perm (es.toList.map (·.2)) ->
   (∀i x,cq[i]?=some x->∀(s1:Ai),s1.heap.get? a=some o->∀(A':C1) (Q':Option (Aa×Nat)->Ai->Prop) (E':VP),Q' (some (x,slot (i+1))) s1->Ap (B0 prog w) A' (Kj a (slot i) i ep) Q' E' s1) ->
   (∀(s1:Ai),s1.heap.get? a=some o->∀(A':C1) (Q':Option (Aa×Nat)->Ai->Prop) (E':VP),Q' none s1->Ap (B0 prog w) A' (Kj a (slot es.size) es.size ep) Q' E' s1) ->
   Ap (B0 prog w) A.in1 (do
    let e <-setEpoch a
    let r <-newFields "set_iterator" [rawInt 0,rawInt 0,.ref a,rawInt es.size,rawInt e]
    ret r) (λfin s'=>∃v,fin = .done (.ret v)/\∃T' r,s'.TypeIs v T'/\N6 (.type T') "__next__" = Cr (some r)/\Q v s') E s:=λslot cq h0 hl hp hn1 iN=>by
  refine A3 (fR s ho ?_);unfold newFields;refine A3 (Cb (w6 ⟨_,rfl,"set_iterator",_,⟨_,Ar _ rfl,rfl⟩,wW.lookup,?_⟩) (by size_fits));refine h s.heap.objs.size _ cq (λi hp=>hp.get? a=some o/\hp.get? s.heap.objs.size=some (xQ (rawInt (slot i)) i a es.size ep)) [s.heap.objs.size,a] ⟨_,s.drawn,rfl⟩ (λb ob e=>A8 _ e) hp (λb hb=>?_) A6 (λb hb=>(Ad.mp hb).elim (λz=>.inr (z▸Aj _)) λz=>.inl (Ae.mp z)) ⟨_,Ar _ rfl,rfl⟩ ⟨A8 _ ho,by rw[h0];exact Ar _ rfl⟩ ⟨λb hb=>?_,λi h1 h2 st hk=>⟨hk _ (by simp) _ st.1,hk _ (by simp) _ st.2⟩,λi s1 Q1 E1 bI st hQ=>?_,λs1 Q1 E1 st hQ=>?_,λi s1 Q1 E1 st q=>?_⟩
  .rw[Dr];rcases Ad.mp hb with z|z
   .rw[z];exact Dy _
   .rw[Ae.mp z];exact C2 jf
  .simp at hb;simp[hb]
  .have hx:=A4 bI;refine Yz (slot:=slot i) (nx:=slot (i+1)) st.2 st.1 hd hf rfl (λA' Q' E' q=>hn1 i _ hx s1 st.1 A' Q' E' q) λh' sb g=>?_;exact hQ _ h' s1.toks hx ⟨(sb.2 a (Aq jf)).trans st.1,g⟩ λb ob hb e=>(sb.2 b (by simpa using hb)).trans e
  .have aS:s1.heap.get? a=some o/\s1.heap.get? s.heap.objs.size=some (xQ (rawInt (slot es.size)) es.size a es.size ep):=by rw[<-hl];rw[<-hl]at st;exact st
   refine Yy (A:=A.in1) hh aS.2 aS.1 hd hf rfl (λA' Q' E' q=>iN s1 aS.1 A' Q' E' q) λh' sb=>?_;exact hQ h' s1.toks λb ob hb e=>sb b ob (by simpa using hb) e
  .exact Yl ⟨_,st.2,rfl⟩ q
 cases iH:nM w with
 |true=>
  refine w6 ?_;show Ap _ _ (if false=true then _ else _) _ _ s;rw[y3 B3];refine A3 (w6 ?_);have pp:=YI (w.params.setOrder a ep) es
  have hl:((Mt (w.params.setOrder a ep) es).toList.map (·.2)).length=es.size:=by rw[A0,pp.length_eq,Au]
  refine num (λ_=>0) _ rfl hl (pp.map (·.2)) (λi x hx s1 g A' Q' E' q=>?_) (λs1 g A' Q' E' q=>?_)
  .refine Pq iH g hd hf ?_;rw[Am,Cq]at hx
   cases he:(Mt (w.params.setOrder a ep) es)[i]? with
   |none=>rw[he]at hx;cases hx
   |some e=>rw[he]at hx;cases hx;exact q
  .refine Pq iH g hd hf ?_
   have hz:(Mt (w.params.setOrder a ep) es).size=es.size:=by rw[<-Au,pp.length_eq,Au]
   rw[Array.getElem?_eq_none (by omega)];exact q
 |false=>
  have hL:t.led=true:=by rw[hL0,iH];rfl
  refine w6 ?_;show Ap _ _ (if (!t.plain&&decide (es.size>1))=true then _ else _) _ _ s;rw[y3 (by rw[af];exact B3)]
  refine A3 (w6 ?_)
  have slotAt:∀i,i<=es.size->Be t.place (if i=0 then 0 else t.place.getD (i-1) 0+1)=i:=λi bI=>by
   by_cases hz:i=0
   .subst hz;rw[z7 rfl];exact Zy iS
   .rw[y3 hz,ϖ iS (by omega)];omega
  refine num (λi=>if i=0 then 0 else t.place.getD (i-1) 0+1) (es.toList.map (·.2)) rfl (by simp) (Fb _) (λi x hx s1 g A' Q' E' q=>?_) (λs1 g A' Q' E' q=>?_)
  .refine P5 iH g hd hf (.inl af) hL ?_;rw[Am,Cq]at hx
   cases he:es[i]? with
   |none=>rw[he]at hx;cases hx
   |some e=>
    rw[he]at hx;cases hx;have bI:i<es.size:=(Gz.mp he).1;rw[slotAt i (D7 bI),he]
    have hpi:t.place[i]?=some (t.place.getD i 0):=by
     have:i<t.place.size:=by omega
     rw[En this];simp[Eh,this]
    rw[hpi]
    have e2:(if i+1=0 then 0 else t.place.getD (i+1-1) 0+1)=t.place.getD i 0+1:=by rw[y3 (by omega)];rfl
    rw[e2]at q;exact q
  .refine P5 iH g hd hf (.inl af) hL ?_;rw[slotAt es.size (Aj _),Array.getElem?_eq_none (Aj _)];exact q
def ϙ{Q:List Aa->Ai->Prop}(hh:A.handled=none)(hG:vI w s.heap a vs)(hQ:∀s' cq,(∃hp tk d,s'={ s with heap:=hp,toks:=tk,drawn:=d })->(∀b o,s.heap.get? b=some o->s'.heap.get? b=some o)->s.heap.objs.size<=s'.heap.objs.size->cq.Perm vs->Q cq s'):Ap (B0 prog w) A (L4 (.ref a)) Q E s:=by
 have lms:vs.length<scanBound:=by obtain⟨o,es,ep,t,ho,bM,hd,rfl,hb,_⟩:=hG;rw[A0,Au];exact hb
 have jf:a<s.heap.objs.size:=by obtain⟨o,es,ep,t,ho,_⟩:=hG;exact Ao ho
 unfold L4;refine A3 (Kq (codeAny_builtin F.entry_proto_collect ?_));rw[C6 F.plain_proto_collect _];show Ap _ A.in1 (Nf [] >>= λl=>Nc (.builtin "list.__iadd__" ⟨[l,.ref a],[]⟩)) _ _ s;refine A3 (Cb ?_);refine w6 ⟨plainId_quiet F.plain_list_iadd _,codeAny_builtin F.entry_list_iadd ?_⟩;rw[C6 F.plain_list_iadd _]
 generalize ig:s.heap.push { cls:=.type "list",data:=.seq ([]:List Aa).toArray }=h1
 have g1:h1.get? s.heap.objs.size=some { cls:=.type "list",data:=.seq ([]:List Aa).toArray }:=by rw[<-ig];exact Ar _ rfl
 have k1:∀b o,s.heap.get? b=some o->h1.get? b=some o:=λb o e=>by rw[<-ig];exact A8 _ e
 have G1:vI w h1 a vs:=by obtain⟨o,es,ep,t,ho,z⟩:=hG;exact⟨o,es,ep,t,k1 _ _ ho,z⟩
 have hTy:Mz { s with heap:=h1 } (.ref a) "set":=by obtain⟨o,es,ep,t,ho,bM,_⟩:=G1;exact⟨o,ho,bM.1⟩
 show Ap _ A.in1 (F5 (.ref s.heap.objs.size) (.ref a) (.ref s.heap.objs.size)) _ _ { s with heap:=h1 };unfold F5;refine A3 (Iw hTy ?_)
 have e1:Cl.List.listSameRef (.ref s.heap.objs.size) (.ref a)=false:=by simp[Cl.List.listSameRef,D8 jf]
 have e2:(Cm "set"==Cm "list")=false:=by decide
 have e3:(Cm "set"==Cm "tuple")=false:=by decide
 simp only[e1,e2,e3,Lg,Bj,if_false];refine A3 (v0J (prog:=prog) (A:=A.in1) hh G1 λit s2 cq St fp bH k2 hp fu bc hfa hJ st W=>?_);obtain⟨h2,d2,rfl⟩:=bH
 have eZ:Mz { s with heap:=h2,drawn:=d2 } (.ref a) "set":=by obtain⟨o,es,ep,t,ho,bM,_⟩:=G1;exact⟨o,k2 _ _ ho,bM.1⟩
 refine A3 (Cp ?_);unfold Cl.List.listLengthHint;refine A3 (M8 eZ V6 ?_)
 have eE:splitId "set.__len__" = some ("set","__len__"):=by decide +kernel
 dsimp only;rw[eE];dsimp only;refine A3 (wpAny_isInstance eZ sub_set_self ?_);rw[y3 (show ¬((!true)=true) by decide)];refine Ua ?_ ?_
 .rfl
 refine A3 (Iw eZ ?_);refine w6 (Ua ?_ ?_)
 .rfl
 refine A3 (Kr ?_);have gS:h2.get? s.heap.objs.size=some { cls:=.type "list",data:=.seq ([]:List Aa).toArray }:=k2 _ _ g1;refine A3 ?_;show Ap _ A.in1 (Hi s.heap.objs.size (·.push .none) >>= λ_=>Hi s.heap.objs.size (·.pop)) _ _ { s with heap:=h2,drawn:=d2 };refine A3 (F2 gS rfl ?_);have fJ:=D6 (Ct (·.push Ca)) gS rfl
 refine F2 fJ rfl ?_;have gS3:=D6 (Ct (·.pop)) fJ rfl
 have z1:s.heap.objs.size<h1.objs.size:=by rw[<-ig,Dr];exact Dy _
 have fV:s.heap.objs.size∉fp:=λz=>by
  rcases hfa _ z with y|y
  .exact D8 jf y
  .exact Dc _ (B8 z1 y)
 have oth:∀b o,b≠s.heap.objs.size->h2.get? b=some o->((h2.update s.heap.objs.size (Ct (·.push Ca))).update s.heap.objs.size (Ct (·.pop))).get? b=some o:=λb o hb e=>(Bo _ _ (Ch hb)).trans ((Bo _ _ (Ch hb)).trans e)
 have olen:cq.length=vs.length:=hp.length_eq;refine w6 ⟨plainId_quiet F.plain_extend_loop _,codeAny_extend_loopS (Nb.of_in1 W).toS (by rw[olen,Bs];unfold scanBound at lms;omega) _ fV _ cq.length 0 _ _ _ rfl (Bg _) (W.frame 0 _ _ st λb hb o e=>oth b o (λz=>fV (z▸hb)) e) gS3 (ItemsOf.nil _) λs' acc c hm hS aM=>?_⟩
 show Ap _ A (load s.heap.objs.size >>= _) _ _ s';refine A3 (N4 hS ?_)
 have eacc:acc.toList=cq:=by
  apply Fu;intro j;rw[Cq]
  cases hj:acc[j]? with
  |some v=>exact(aM.2 j v hj).symm
  |none=>
   have:acc.size<=j:=by
    rcases Nat.lt_or_ge j acc.size with z|z
    .rw[En z]at hj;cases hj
    .exact z
   rw[aM.1]at this;exact(Cv this).symm
 show Ap _ A (Cr acc.toList) Q E s';rw[eacc]
 have itn:∀b o,s.heap.get? b=some o->b≠it:=λb o e z=>by
  rcases hfa it bc with y|y
  .obtain⟨o1,q1,c1⟩:=hJ;obtain⟨o2,q2,c2⟩:=eZ;rw[y]at q1;have q3:some o1=some o2:=q1.symm.trans q2;cases q3;rw[c1]at c2;exact w9 (Cm.inj c2) (by decide)
  .exact Dc _ (B8 (Dp (z▸Ao e) z1) y)
 refine w6 (hQ s' cq ⟨s'.heap,s'.toks,d2,?_⟩ (λb o e=>?_) (D7 (Ao hS)) hp)
 .have e1:=hm.gens;have e2:=hm.drawn;have e3:=hm.os;cases s';simp only at e1 e2 e3;subst e1;subst e2;subst e3;rfl
 .have hb:=Ao e
  exact hm.heap b o (by
   simp only[Ad,Dk,or_false,not_or]
   exact⟨Aq hb,itn b o e⟩) (oth b o (Aq hb) (k2 _ _ (k1 _ _ e)))
end
end L3
namespace L3
open PySem PySem.Spec PyProof.Rows L2 PySem.SeqAt
def pD(p:Int×Int):D:=.tup [.int p.1,.int p.2]
def Ww{xs ys:List (List Int)}(h:xs.Perm ys):qS xs=qS ys:=zI (le:=λa b=>HT.lexLt b a=false) (λa b h1 h2=>BH a b h2 h1) ((zH xs).trans (h.trans (zH ys).symm)) (BO xs) (BO ys) KC
theorem JB:∀ps:List (Int×Int),mB (ps.map pD)=some (ps.map λp=>[p.1,p.2])
 | []=>rfl
 |p::ps=>by rw[Af,Af];show (mB (ps.map pD)).map _=_;rw[JB ps];rfl
theorem Qd{xs ys:List (Int×Int)}(h:xs.Perm ys):lR (xs.map pD)=lR (ys.map pD):=by
 unfold lR;rw[A0,A0,h.length_eq,JB,JB];dsimp only;rw[Ww (h.map λp=>[p.1,p.2])]
 cases xs with
 |nil=>
  have:=h.symm.eq_nil
  subst this;rfl
 |cons x xs=>
  cases ys with
  |nil=>exact w9 h.eq_nil (by simp)
  |cons y ys=>rfl
theorem Vt{α β:Type}{f:α->β}{ys:List β}{zs:List β}(h:ys.Perm zs):∀{xs:List α},zs=xs.map f->∃cS:List α,cS.Perm xs/\ys=cS.map f:=by
 induction h with
 |nil=>exact λ{xs} e=>⟨xs,Fb _,e⟩
 |cons y _ ih=>
  intro xs e
  cases xs with
  |nil=>cases e
  |cons x xs=>cases e;obtain⟨cS,p,e'⟩:=ih rfl;exact⟨x::cS,p.cons x,by rw[e'];rfl⟩
 |swap y z l=>
  intro xs e
  match xs,e with
  |a::b::xs,e=>cases e;exact⟨b::a::xs,Jg _ _ _,rfl⟩
 |trans _ _ ih1 ih2=>intro xs e;obtain⟨x2,p2,e2⟩:=ih2 e;obtain⟨x1,p1,e1⟩:=ih1 e2;exact⟨x1,p1.trans p2,e1⟩
section
variable{X:Cx}
abbrev FF(X:Cx)(a:Av)(ps:List ((Int×Int)×Av)):HO:=.ext λh=>vI X.w h a (ps.map λp=>D3 p.2)
def ó{ps:List ((Int×Int)×Av)}(G:vI X.w h a (ps.map λp=>D3 p.2)):kU X.prog X.w H h a (FF X a ps):=by obtain⟨o,es,ep,t,ho,z⟩:=G;refine⟨⟨o,es,ep,t,ho,z⟩,⟨o,ho⟩,λh1 h2 hz k=>?_⟩;obtain⟨o',cI,dM,t',bJ,z'⟩:=hz;exact⟨o',cI,dM,t',k _ bJ,z'⟩
def qT.toV(G:qT X.prog X.w h S ps)(hl:ps.length<=18):vI X.w h S (ps.map λp=>D3 p.2):=by
 obtain⟨o,es,ep,t,ho,h1,h2,h3,T,h5,h6,_⟩:=G
 have hz:es.size=ps.length:=by rw[<-Au,h3,A0]
 exact⟨o,es,ep,t,ho,h1,h2,by rw[h3,B1];rfl,by rw[hz];unfold scanBound;omega,T.fits (by rw[hz,A0]),T.ris,h6,T.plain⟩
def ķ{h:Cf}{a:Av}(ho:h.get? a=some (oJ X.w)):qT X.prog X.w h a []:=
 ⟨_,#[],0,_,ho,⟨rfl,rfl,rfl⟩,rfl,rfl,⟨rfl,Eg,λj hj=>(Dk hj).elim,rfl,.inl rfl,Bg _,λk hk=>(Dk hk).elim,E6,(λi j k h1=>by simp[D1.fresh]at h1),rfl⟩,rfl,rfl,λp hp=>(Dk hp).elim⟩
def v00(X:Cx):List V->Hp->VK->Prop:=λxs H Q=>∃(p:Av) (us:List V) (ns:List (Int×Int)) (Hh:Hp),xs=[.ref p]/\j8 Hh H/\(i5 X.K H p us\/i8 X.K H p us)/\g9 X.K Hh (ns.map pD) us/\(∀n∈ns,n∈lW)/\ns.length<=17 /\
 ∀(a:Av) (ps:List ((Int×Int)×Av)),H a=none->(ps.map (·.1)).Nodup->(∀x,x∈ps.map (·.1)↔x∈ns)->g9 X.K Hh (ps.map λp=>pD p.1) (ps.map λp=>V.ref p.2)->Q (.ref a) (upd H a (FF X a ps))
theorem IU{K:A5}{H:Hp}{α:Type}{f:α->D}{g:α->V}:∀{ps:List α},(∀p∈ps,d8 K H (f p) (g p))->g9 K H (ps.map f) (ps.map g)
 | [],_=>K3.mpr rfl
 |p::ps,h=>j7.mpr ⟨_,_,rfl,h p A6,IU λq hq=>h q (A7 _ hq)⟩
def X2(hc:X.calm=true)(hu:X.A.units+64<D4):kT X (.type "set") (v00 X):=by
 intro aa s U H xs vs Q I r h;obtain⟨p,us,ns,Hh,rfl,sH,hq,fw,hsm,h17,q⟩:=h;have hr:=fw.mono sH;obtain⟨u,rfl,rx⟩:=l9 r;cases rx;have hh:X.A.handled=none:=I.ok.hd hc
 have ab:ns.length=us.length:=by have:=hr.length;rwa [A0]at this
 have itm:∀{its:List Aa},Y7 us its->∀(j:Nat) (v:Aa),its[j]?=some v->∃(k:Int×Int) (b:Av),ns[j]?=some k/\v = .ref b/\d8 X.K Hh (pD k) (.ref b)/\b<s.heap.objs.size/\oX X.prog X.w s.heap k b:=λ{its} rv j v hv=>by
  have hj:j<ns.length:=by
   have:=(B2.mp hv).1
   rw[<-rv.length,<-ab]at this;exact this
  obtain⟨x,e1,r1⟩:=fw.get (i:=j) (d:=pD ns[j]) (by rw[Am,A4 hj];rfl)
  obtain⟨v',e2,r2⟩:=rv.get e1;rw[hv]at e2;cases e2;obtain⟨b,o,it,n,rfl,ho,ar,hd,hi⟩:=sW (ns:=[ns[j].1,ns[j].2]) I (r1.mono sH) r2;obtain⟨b',_,e3,_⟩:=j5.mp r1;subst e3;cases r2;refine⟨ns[j],b,A4 hj,rfl,r1,Ao ho,o,it,n,ho,ar,hd,?_⟩;revert hi;generalize it.toList=L;intro hi
  cases hi with
  |cons m t h'=>
   cases h' with
   |cons m' t' h''=>cases h'';exact .cons (intKind_is _ _ _ _) (.cons (intKind_is _ _ _ _) .nil)
 let G:List Aa->Cf->List (Int×Int)->Prop:=λits h ms=>∃ps,ps.map (·.1)=ms/\qT X.prog X.w h s.heap.objs.size ps/\(∀p∈ps,∃j:Nat,its[j]?=some (.ref p.2)/\ns[j]?=some p.1)/\∀b o,b<s.heap.objs.size->s.heap.get? b=some o->h.get? b=some o
 have fr:∀its h h' ms,G its h ms->(∀b o,b≠s.heap.objs.size+1->h.get? b=some o->h'.get? b=some o)->G its h' ms:=λits h h' ms ⟨ps,e,g1,g2,g3⟩ k=>
  ⟨ps,e,g1.frame λb o hb e=>k b o (Aq (Nat.lt_succ_of_le hb)) e,g2,λb o hb e=>k b o (Aq (C2 hb)) (g3 b o hb e)⟩
 have add:∀{its:List Aa},Y7 us its->∀(i:Nat) (v:Aa) (s':Ai) (ms:List (Int×Int)) (Q:Bool->Ai->Prop) (E:VP),i<ns.length->its[i]?=some v->G its s'.heap ms->ms.length<=i->(∀b h' tk aQ,Dh s.heap.objs.size s'.heap h'->G its h' aQ->(∀x,x∈aQ↔x∈ms\/x=ns.getD i (0,0))->aQ.length<=ms.length+1->Q b { s' with heap:=h',toks:=tk })->Ap (B0 X.prog X.w) X.A.in1.in1.in1 (N8 s.heap.objs.size v) Q E s':=λ{its} rv i v s' ms Q E hi hv ⟨ps,e,g1,g2,g3⟩ hl hQ=>by
  subst e;obtain⟨k,b,hk,rfl,_,eV,fy⟩:=itm rv i v hv;rw[A0]at hl;refine Ρ (k:=k) (by show X.A.units+3<D4;omega) g1 (hsm k (C5 hk)) (BX fy λo e=>g3 b o eV e) eV (by omega) λbb h' tk cx sb G' m1 m2 m3=>hQ bb h' tk _ sb ⟨cx,rfl,G',λp hp=>?_,λb o hb e=>(sb.2 b (Aq hb)).trans (g3 b o hb e)⟩ (λx=>?_) (by simpa using m2)
  .rcases m3 p hp with z|z
   .exact g2 p z
   .rw[z];exact⟨i,hv,hk⟩
  .rw[m1,J5 hk]
 have fin:∀{its:List Aa},Y7 us its->∀(h':Cf) (tk:Nat) (ms:List (Int×Int)),G its h' ms->(∀x,x∈ms↔∃j,j<ns.length/\x=ns.getD j (0,0))->(∀b o,s.heap.get? b=some o->h'.get? b=some o)->EP X aa U Q (.ref s.heap.objs.size) { s with heap:=h',toks:=tk }:=λ{its} rv h' tk ms ⟨ps,e,g1,g2,g3⟩ hm hk=>by
  subst e
  have av:(ps.map (·.1)).Nodup:=by obtain⟨o,es,ep,t,_,_,_,_,T,_⟩:=g1;exact T.nd
  have aN:∀x,x∈ps.map (·.1)↔x∈ns:=λx=>by
   rw[hm];constructor
   .rintro ⟨j,hj,rfl⟩;rw[J5 (A4 hj)];exact Cd hj
   .intro hx;obtain⟨j,hj,e⟩:=E3 hx;exact⟨j,hj,by rw[J5 (A4 hj),e]⟩
  have hl:ps.length<=18:=by
   have:=DZ av (λx hx=>(aN x).mp hx)
   rw[A0]at this;omega
  refine⟨.ref s.heap.objs.size,_,I.laid (t':=tk) hk (Aj _) (ó (g1.toV hl)),rfl,q _ ps (I.hok.fresh (Aj _)) av aN (IU λp hp=>?_)⟩;obtain⟨j,e1,e2⟩:=g2 p hp;obtain⟨k,b,f1,f2,f3,_⟩:=itm rv j _ e1;cases f2;rw[e2]at f1;cases f1;exact f3
 have g0:∀its h,(∀b o,s.heap.get? b=some o->h.get? b=some o)->h.get? s.heap.objs.size=some (oJ X.w)->G its h []:=λits h k g=>⟨[],rfl,ķ g,λp hp=>(Dk hp).elim,λb o _ e=>k b o e⟩;rcases hq with hq|hq
 .obtain⟨its,rv,pl,hz⟩:=I.list hq
  have cG:its.toArray.size=ns.length:=by rw[An,<-rv.length,ab]
  obtain⟨ol,cT,ar,nl,dH⟩:=pl.isList;have af:p<s.heap.objs.size:=Ao cT;have W0:=O9 (prog:=X.prog) (w:=X.w) (A:=X.A.in1.in1.in1) hh (s.heap.objs.size+1) p (Aq (C2 af)) its.toArray;rw[cG]at W0
  exact BF (T:="list") (oI:={ cls:=.type "list_iterator",data:=.fields #[.ref p,.int 0 0] }) cT ar F.sub_list_set F.sub_list_frozenset (by decide) rfl
   (λA' E' s' Q' g q'=>Gq ⟨ol,g,ar,nl,dH⟩ q') W0 (λh' g1 g2=>⟨⟨_,g2,rfl,rfl⟩,⟨ol,g1,ar,nl,dH⟩⟩) (g0 its) (fr its) (λi v s' ms Q' E' hi hv=>add rv i v s' ms Q' E' hi (by simpa using hv)) (fin rv)
 .obtain⟨its,rv,pl,hz⟩:=I.tuple hq
  have cG:its.toArray.size=ns.length:=by rw[An,<-rv.length,ab]
  obtain⟨ol,cT,ar,nl,dH⟩:=pl;have af:p<s.heap.objs.size:=Ao cT;have W0:=Nb.tuple (prog:=X.prog) (w:=X.w) (A:=X.A.in1.in1.in1) hh (s.heap.objs.size+1) p (Aq (C2 af)) its.toArray;rw[cG]at W0
  exact BF (T:="tuple") (oI:={ cls:=.type "tuple_iterator",data:=.fields #[.ref p,.int 0 0] }) cT ar NO Qj (by decide) rfl
   (λA' E' s' Q' g q'=>Ep ⟨ol,g,ar,nl,dH⟩ q') W0 (λh' g1 g2=>⟨⟨_,g2,rfl,rfl⟩,⟨ol,g1,ar,nl,dH⟩⟩) (g0 its) (fr its) (λi v s' ms Q' E' hi hv=>add rv i v s' ms Q' E' hi (by simpa using hv)) (fin rv)
def Ŧ(X:Cx):List V->Hp->VK->Prop:=λxs H Q=>∃(a:Av) (ps:List ((Int×Int)×Av)) (es:List D) (Hh:Hp),xs=[.ref a]/\H a=some (FF X a ps)/\j8 Hh H/\g9 X.K Hh (ps.map λp=>pD p.1) (ps.map λp=>V.ref p.2)/\lR ((ps.map (·.1)).map pD)=some es/\∀l ys,H l=none->g9 X.K Hh es ys->Q (.ref l) (upd H l (.lst ys))
def ZN(hc:X.calm=true):kT X (.builtin "sorted") (Ŧ X):=by
 intro aa s U H xs us Q I r h;obtain⟨a,ps,es,Hh,rfl,hH,sH,hr,hs,q⟩:=h;obtain⟨u,rfl,rx⟩:=l9 r;cases rx;have hh:X.A.handled=none:=I.ok.hd hc;have G:vI X.w s.heap a (ps.map λp=>D3 p.2):=(I.hok a _ hH).1;refine QA (ϙ (prog:=X.prog) (A:=X.A.in1) hh G λs1 cq fA k1 hsz pm=>?_);obtain⟨h1,tk1,d1,rfl⟩:=fA;obtain⟨cx,pp,rfl⟩:=Vt pm rfl
 have mem:∀p∈ps,d8 X.K Hh (pD p.1) (V.ref p.2):=λp hp=>by
  obtain⟨i,hi⟩:=Jw hp;obtain⟨v,e1,e2⟩:=hr.get (i:=i) (d:=pD p.1) (by rw[Am,hi];rfl)
  rw[Am,hi]at e1;cases e1;exact e2
 have rv:∀qs:List ((Int×Int)×Av),Y7 (qs.map λp=>V.ref p.2) (qs.map λp=>D3 p.2):=λqs=>by
  induction qs with
  |nil=>exact .nil
  |cons x xs ih=>exact .cons rfl ih
 refine Qh (ds:=cx.map λp=>pD p.1) I sH (IU λp hp=>mem p (pp.mem_iff.mp hp)) (rv cx) ?_ k1 hsz q;rw[<-hs,B1]
 have e:(cx.map λp=>pD p.1)=(cx.map (·.1)).map pD:=by rw[B1];rfl
 rw[e,Qd (pp.map (·.1)),B1]
end
def wE:List D->Option (List (Int×Int))
 | []=>some []
 | .tup [.int a,.int b]::r=>(wE r).map ((a,b)::·)
 |_::_=>none
theorem VW:∀{ds:List D} {ns:List (Int×Int)},wE ds=some ns->ds=ns.map pD:=by
 intro ds
 fun_induction wE ds with
 |case1=>intro ns h;cases h;rfl
 |case2 a b r ih=>intro ns h;obtain⟨ms,e,rfl⟩:=B9.mp h;rw[ih e];rfl
 |case3=>intro ns h;cases h
def yZ(fa:EL):EL:=λY=>match fa Y with
 |some ds=>(match wE ds with|some ns=>if (∀n∈ns,n∈lW)/\ns.length<=17 then lR ((lS ns).map pD) else none|none=>none)
 |none=>none
section
variable{X:Cx}{e:Expr}{fa:EL}{p p2 pos az:Hq}
def V9(hc:X.calm=true)(hu:X.A.units+64<D4)(hm:X.mg "sorted" = none)(hms:X.mg "set" = none)(ha:ZQ X e fa)(hg:Gl X "sorted":=by rfl)(hgs:Gl X "set":=by rfl)(hv:B5 "sorted" = some (.builtin "sorted"):=by decide +kernel)(cZ:B5 "set" = some (.type "set"):=by decide +kernel)(he:Ab [e] X.env=(false,Ce e X.env)::Ab [] X.env:=by exact u4 rfl)(af:(C8 az (Ab [] X.env)).any (·.1)=false:=by exact J3 rfl)(aZ:Ab [.Call (.Name "set" p2) [e] [] az] X.env=(false,Ce (.Call (.Name "set" p2) [e] [] az) X.env)::Ab [] X.env:=by exact u4 rfl)(cb:(C8 pos (Ab [] X.env)).any (·.1)=false:=by exact J3 rfl):ZF X (.Call (.Name "sorted" p) [.Call (.Name "set" p2) [e] [] az] [] pos) (yZ fa):=
 ⟨have ha:=ha.h;
 j3 (rO (ZN hc) hg hm hv (J4 (pK (X2 hc hu) hgs hms cZ (J4 ha Y8 he) (by decide) (by decide) he af) Y8 aZ) (by decide) (by decide) aZ cb) λU H Q h_=>by
  refine f7 h_ λY es B H0 V0 Z e1 r q=>?_;unfold yZ at e1;split at e1
  .rename_i ds aH;split at e1
   .rename_i ns hn;split at e1
    .rename_i hs;have fN:=VW hn;subst fN;refine⟨Y,_,B,H0,V0,Z,aH,r,λa xs H1 s1 hq rr=>⟨a,xs,ns,K5 Z H1,rfl,x8,hq.imp id (j9 x8),rr,hs.1,hs.2,λb ps hb av aN hr=>?_⟩⟩
     have pm:(ps.map (·.1)).Perm (lS ns):=yQ av (wX ns) λx=>by rw[aN,rV]
     refine⟨b,ps,es,K5 Z H1,rfl,v8,x8.trans (u9 hb),hr,by rw[Qd pm];exact e1,λl ys hl hy=>?_⟩
     have hlb:l≠b:=λz=>by rw[z,v8]at hl;cases hl
     have sm:j8 H1 (upd (upd H1 b (FF X b ps)) l (.lst ys)):=(u9 hb).trans (u9 hl);rw[j6 hlb]at hl;exact q l _ _ (s1.trans sm) (s1.free hl) v8 (hy.mono (qK hl sm))
    .cases e1
   .cases e1
  .cases e1⟩
end
end L3
namespace L3
open PySem PySem.Spec PyProof.Rows L2
structure kM(K:A5)(mg:Bf->Option Aa)(x:Bf)(st:Do):Prop where
 ex:∃f fd,rE K x x st f fd/\mg x=some (.ref f)/\pP K fd.code x=true
def Ź{P:Bw}{w:Cg}{K:A5}{mg:Bf->Option Aa}{base:Cf}{x:Bf}{st:Do}{N ps:List Bf}{k n:Nat}{g:EO}(G:kM K mg x st)(S:i7 N ps (v7 st))(hb:∀(kV ay pm:Aa) (an:Option Av) (ak ct:Aa) (us:List Aa),us.length=ps.length->Gk (Dx x x (o5 st) (lX st) (v7 st) .none kV ay pm an ak ct) ⟨us,[]⟩=Cr (ps.zip us))(hn:ps.length=n) (ap:∀(f:Av) (ak:Aa) (A:C1) (outer:List Nq) (s:Ai) (H:Hp) (E:XK),pP K ak x=true->d4 k (A.deeper (Jl x (v7 st) s.heap.objs.size f ak)) ->
   ZB (nS lY P w K mg base N x (v7 st) f ak A outer s H E).nox (lX st) g):jO P w K mg base (k+1) x ps (jG n N g):=by
 have ap:=λf ak A outer s H E hl hr=>(ap f ak A outer s H E hl hr).h;obtain⟨f,fd,G1,G2,G3⟩:=G.ex;refine⟨f,fd,?_,G2,G1.kp,G1.binds hb⟩;obtain⟨oc,od,kV,ay,pm,an,ak,ct,dN,rfl,lk,aT⟩:=G1.ex;refine Sm lk aT S (λvs H Q E h=>?_) λA outer s H vs Q E hr h=>?_
 .obtain⟨Z,ds,d,zs,rr,e,q⟩:=h;rw[<-rr.length];unfold jG at e;split at e
  .rename_i hl;rw[hl,hn]
  .cases e
 .obtain⟨Z,ds,d,zs,rr,e,q⟩:=h
  have e2:kY (g (nO N ds))=some d:=by
   unfold jG at e;split at e
   .exact e
   .cases e
  refine⟨_,(ap f ak A outer s H E G3 hr).nox,?_⟩
  cases ho:g (nO N ds) with
  |none=>rw[ho]at e2;cases e2
  |some o=>
   refine⟨nO N ds,o,Z,H,K5 Z H,Z,ho,JU zs rr,?_⟩;rw[ho]at e2
   cases o with
   |rt d'=>cases e2;exact λv H' s' rv=>q v H' s' rv
   |nx Y=>cases e2;exact λU H' Z' r'=>q .non H' r'.same (Z8.mpr rfl)
   |bk _=>cases e2
   |ct _=>cases e2
def JH:ZB X sts (λ_=>none):=
 ⟨λaa s U H E I h=>by
 obtain⟨Y,o,B,H0,V0,Z,e,_⟩:=h
 cases e⟩
theorem mem_look{α:Type}{b:α}:∀{l:List (Av×α)},l.lookup a=some b->(a,b)∈l
 | [],h=>by cases h
 | (k,v)::l,h=>by
  rw[Bm]at h
  cases hk:a==k with
  |true=>
   rw[hk]at h
   have e:a=k:=by simpa using hk
   cases h;rw[e];exact A6
  |false=>rw[hk]at h;exact A7 _ (mem_look h)
def uF(K:A5)(ts:List (Av×Bf)):Bool:=
 (K.all λco=>match co.2 with
  |⟨.type "code",_,.fields vs,_⟩=>(match (vs[11]?:Option Aa) with
   |some (.ref P)=>(K.lookup P).isSome||!zY vs||(match (vs[1]?:Option Aa) with|some (.str q _)=>(match ts.lookup P with|some q'=>q==q'|none=>false)|_=>false)
   |_=>true)
  |_=>true)&&(ts.all λpq=>(K.lookup pq.1).isNone&&K.any λco=>Jo K co.1 pq.1)
def YY{K:A5}{ts:List (Av×Bf)}(h:uF K ts=true){H:Hp}(hH:∀P q,ts.lookup P=some q->H P=some (.tbl #[.str q 0])):TB K H:=λc o vs P h1 h2 h3 h4 h5 h5'=>by
 unfold uF at h;rw[Bi]at h;have h6:=Eb.mp h.1 (c,o) (mem_look h1);obtain⟨cls,dict,data,sl⟩:=o;simp only at h2 h3;subst h2;subst h3
 have h6:(match (vs[11]?:Option Aa) with
   |some (.ref P)=>(K.lookup P).isSome||!zY vs||(match (vs[1]?:Option Aa) with|some (.str q _)=>(match ts.lookup P with|some q'=>q==q'|none=>false)|_=>false)
   |_=>true)=true:=h6
 rw[h4]at h6;dsimp only at h6;rw[h5,h5']at h6;simp only[Option.isSome_none,Li,Hx]at h6;split at h6
 .rename_i q t hq;split at h6
  .rename_i q' jp
   have e:q=q':=by simpa using h6
   subst e;exact⟨q,t,hq,hH P q jp⟩
  .cases h6
 .cases h6
def Pz{K:A5}{ts:List (Av×Bf)}(h:uF K ts=true){P:Av}{q:Bf}(e:ts.lookup P=some q):K.lookup P=none/\∃c,Jo K c P=true:=by unfold uF at h;rw[Bi]at h;have h6:=Eb.mp h.2 (P,q) (mem_look e);rw[Bi]at h6;obtain⟨co,_,hc⟩:=Lp.mp h6.2;exact⟨by simpa using h6.1,co.1,hc⟩
theorem Yp{P:Bw}{K:A5}{fa a:Av}{x:Bf}{s₁:Ai}{vs:List Aa}(KX:K.In s₁.heap)(bQ:s₁.heap.Ns D5 mg)(hb:s₁.heap.Ns Ia mb)(hbb:∀x:Bf,x≠"__name__"->mb x=B5 x)(hlim:s₁.heap.NoLimit)(hbm:∃bm ob,mg "__builtins__" = some (.ref bm)/\bm≠Ia/\s₁.heap.get? bm=some ob/\ob.cls = .type "module"/\ob.dict=some Ia/\ob.data = .plain)(hg:s₁.gens = #[])(ha:s₁.heap.get? a=some { cls:=.type "list",data:=.seq vs.toArray })(hi:Ci vs ns)(hl:ns.length<=sizeLine)(hr:d4 k Mn)(iE:uF K ts=true)(iC:∀P q,ts.lookup P=some q->s₁.heap.get? P=some { cls:=.none,data:=.fields #[] })(F:∀base:Cf,K.In base->base.Ns D5 mg->kJ P w K mg base lY k fa fd [x] sp)(iy:∀(s:Ai) (u:Aa),Nd s fd ⟨[u],[]⟩ [(x,u)])(eE:∀H:Hp,TB K H->i5 K H a (ns.map V.int)->sp [.ref a] H (λv _=>v = .bl true) λ_ _ _=>False):
  Ew (B0 P w) Mn (.call (.ref fa) ⟨[.ref a],[]⟩) (λr s'=>r = .ok (.ret (.bool true))/\OldK s₁.heap s'.heap/\s'.os=s₁.os/\Kf s'.gens) s₁:=by
 have rv:=PF hi;have lenV:=hi.length
 have nota:∀q,ts.lookup a≠some q:=λq z=>by
  have:=iC a q z
  rw[ha]at this;cases this
 have iR:∀H:Hp,(∀b,(∃q,ts.lookup b=some q/\H b=some (.tbl #[.str q 0]))\/(ts.lookup b=none/\(H b=none\/(b=a/\K.lookup a=none/\H a=some (.frz { cls:=.type "list",data:=.seq vs.toArray } (.lst (ns.map V.int)))))))->i5 K H a (ns.map V.int) ->
   Ew (B0 P w) Mn (.call (.ref fa) ⟨[.ref a],[]⟩) (λr s'=>r = .ok (.ret (.bool true))/\OldK s₁.heap s'.heap/\s'.os=s₁.os/\Kf s'.gens) s₁:=λH hH hS=>by
  have hok:kR P w H s₁.heap:=λb u z=>by
   rcases hH b with⟨q,e1,e2⟩|⟨e1,e2|⟨rfl,_,e2⟩⟩
   .rw[e2]at z;cases z;exact⟨#[],iC b q e1,trivial,λp v c=>by cases c⟩
   .rw[e2]at z;cases z
   .rw[e2]at z;cases z;exact⟨ha,by rw[A0];exact hl,vs,_,rv,ha⟩
  have cj:∀{b:Av} {o:Jy},s₁.heap.get? b=some o->H b=none->(sI s₁.heap H).get? b=some o:=λe n=>ϥ e n
  have eX:∀{b:Av} {o:Jy} {es:Array DictEntry} {ep:Nat},s₁.heap.get? b=some o->o.data = .dict es ep->H b=none:=λ{b o es ep} e d=>by
   rcases hH b with⟨q,e1,e2⟩|⟨e1,e2|⟨rfl,_,e2⟩⟩
   .have:=iC b q e1
    rw[e]at this;cases this;cases d
   .exact e2
   .rw[ha]at e;cases e;cases d
  have noM:∀{b:Av} {o:Jy},s₁.heap.get? b=some o->o.data = .plain->H b=none:=λ{b o} e d=>by
   rcases hH b with⟨q,e1,e2⟩|⟨e1,e2|⟨rfl,_,e2⟩⟩
   .have:=iC b q e1
    rw[e]at this;cases this;cases d
   .exact e2
   .rw[ha]at e;cases e;cases d
  have nsK:∀{b:Av} {m:Bf->Option Aa},s₁.heap.Ns b m->(sI s₁.heap H).Ns b m:=λ{b m} ⟨o,es,ep,e,d,r⟩=>⟨o,es,ep,cj e (eX e d),d,r⟩
  have hKb:K.In (sI s₁.heap H):=λb o e=>cj (KX b o e) (by
   rcases hH b with⟨q,e1,e2⟩|⟨e1,e2|⟨rfl,e3,e2⟩⟩
   .rw[(Pz iE e1).1]at e;cases e
   .exact e2
   .rw[e3]at e;cases e)
  have hM:Mod K mg (sI s₁.heap H):=⟨hKb,nsK bQ,⟨mb,nsK hb,hbb⟩,(let ⟨mc,h1,h2⟩:=hlim;⟨mc,nsK h1,h2⟩),let ⟨bm,ob,m1,m2,m3,m4,m5,m6⟩:=hbm;⟨bm,ob,m1,m2,cj m3 (noM m3 m6),m4,m5,m6⟩⟩
  have e0:sO P w K mg (sI s₁.heap H) Mn [] s₁ H:=⟨rfl,hM,λb o e=>Ó e,Nat.le_of_eq (Yj _ _),trivial,λb hb=>w9 (show b∈([]:List Av) from hb) (by simp),hok,.of_eq hg⟩
  have tb:TB K H:=YY iE λQ q e=>by
   rcases hH Q with⟨q',e1,e2⟩|⟨e1,_⟩
   .rw[e]at e1;cases e1;exact e2
   .rw[e]at e1;cases e1
  refine Kg ((F _ hKb (nsK bQ)).run Mn [] s₁ H ⟨[.ref a],[]⟩ [.ref a] [.ref a] _ _ hr e0 (iy s₁ (.ref a)) (.cons rfl .nil) (eE H tb hS)) λr s' h=>?_
  cases r with
  |error e=>exact Fw h
  |ok fl=>
   cases fl with
   |next=>exact Fw h
   |brk=>exact Fw h
   |cont=>exact Fw h
   |ret u=>
    obtain⟨v,H',os,bare,un,iB,r',q⟩:=h;have q':v = .bl true:=q;subst q'
    obtain rfl:u=N2 true:=r'
    refine⟨rfl,⟨λb o e=>?_,λb o e=>un.there b o e (by simp)⟩,os,bare⟩;rcases hH b with⟨q,e1,e2⟩|⟨e1,e2|⟨rfl,_,e2⟩⟩
    .obtain⟨more,z2⟩:=un.tbls b _ e2;obtain⟨qs,z3,_⟩:=iB b _ z2;have e3:=iC b q e1;rw[e]at e3;cases e3;obtain⟨c,hc⟩:=(Pz iE e1).2;have ct:=(PySem.W.CodeHd.tab (PySem.W.codeHd_of_K KX hc) e).isCodeTable;exact .inr (.inl ⟨ct,rfl,#[],qs,rfl,by rw[z3];simp⟩)
    .exact .inl (un.keep b o e e2 (by intro z;exact w9 (show b∈([]:List Av) from z) (by simp)) (by simp))
    .have z2:=un.frzs b _ _ e2;obtain⟨z3,_⟩:=iB b _ z2;rw[ha]at e;cases e;exact .inl z3
 cases hk:K.lookup a with
 |some o=>
  have e:=KX a o hk;rw[ha]at e;cases e;refine iR (λb=>(ts.lookup b).map λq=>.tbl #[.str q 0]) (λb=>?_) (.inr ⟨_,vs.toArray,_,hk,rfl,rfl,rfl,by rw[An,lenV];exact hl,by simpa using rv⟩)
  cases aI:ts.lookup b with
  |none=>exact .inr ⟨rfl,.inl rfl⟩
  |some q=>exact .inl ⟨q,rfl,rfl⟩
 |none=>
  refine iR (λb=>if b=a then some (.frz { cls:=.type "list",data:=.seq vs.toArray } (.lst (ns.map V.int))) else (ts.lookup b).map λq=>.tbl #[.str q 0]) (λb=>?_) (.inl (.inr ⟨{ cls:=.type "list",data:=.seq vs.toArray },z7 rfl⟩));by_cases hba:b=a
  .subst hba;refine .inr ⟨?_,.inr ⟨rfl,hk,z7 rfl⟩⟩
   cases aI:ts.lookup b with
   |none=>rfl
   |some q=>exact w9 aI (nota q)
  .cases aI:ts.lookup b with
   |none=>exact .inr ⟨rfl,.inl (y3 hba)⟩
   |some q=>exact .inl ⟨q,rfl,y3 hba⟩
def XA{l:Mc}{n k:Nat}{q:Bw}{YP:Cg->Cf->Prop}{d:DefRec}{K:Params->A5}{sp:Cg->Sp}{x:Bf}(ts:List (Av×Bf))(hn:l.most=some n)(iN:n<=sizeLine)(iU:d.params.defaults=[])(hr:d4 k Mn)(hY:∀(w:Cg) (h:Cf),YP w h->(K w.params).In h)(hT:∀(w:Cg) (h:Cf),YP w h->∀P q,ts.lookup P=some q->h.get? P=some { cls:=.none,data:=.fields #[] })(hK:∀w:Cg,uF (K w.params) ts=true)
  (F:∀(w:Cg) (mg:Bf->Option Aa) (fa:Av) (h:Cf),(K w.params).In h->h.Ns D5 mg->mg d.name=some (.ref fa) ->
   ∃fd:Gu,(∀(s:Ai) (u:Aa),Nd s fd ⟨[u],[]⟩ [(x,u)]) /\
    ∀base:Cf,(K w.params).In base->base.Ns D5 mg->kJ l.prog w (K w.params) mg base lY k fa fd [x] (sp w))
  (eE:∀(w:Cg) (H:Hp) (a:Av) (ns:List Int),ns.length<=n->TB (K w.params) H->i5 (K w.params) H a (ns.map V.int)->sp w [.ref a] H (λv _=>v = .bl true) λ_ _ _=>False):
  PySem.W.WalkO q loose XP YP l.row.toRowW d [] (λf vs=>O5 f vs):=by
 refine Att.attach_call hn iU λw s₀ s₁ mg mb fa o pm cd ay a vs ns G ya ho hd aT iO gf dO ab hg=>?_;have KX:=hY w _ ya;obtain⟨fd,hb,hF⟩:=F w mg fa _ KX G.T.g iO;exact Yp KX G.T.g G.T.b G.T.builtins G.T.nolimit G.T.bmain hg gf dO (Bn ab iN) hr (hK w) (λP q e=>hT w _ ya P q e) hF hb (λH hO hS=>eE w H a ns ab hO hS)
mutual
def rH:D->Bool
 | .tup ds=>sX ds
 | .lst ds=>sX ds
 | .dct _ _=>false
 | .non=>true
 | .bl _=>true
 | .int _=>true
 | .str _=>true
def sX:List D->Bool
 | []=>true
 |d::ds=>rH d&&sX ds
end
def rY(H H':Hp):Prop:=∀b u,H b=some u->H' b=some u\/∃kvs,u=HO.dK kvs
section
variable{K:A5}{H H':Hp}
def rY.lst(e:rY H H')(h:i5 K H a xs):i5 K H' a xs:=by
 rcases h with (h|⟨o,h⟩)|h
 .rcases e _ _ h with z|⟨kvs,z⟩
  .exact .inl (.inl z)
  .cases z
 .rcases e _ _ h with z|⟨kvs,z⟩
  .exact .inl (.inr ⟨o,z⟩)
  .cases z
 .exact .inr h
def rY.tup(e:rY H H')(h:i8 K H a xs):i8 K H' a xs:=by
 rcases h with (h|⟨o,h⟩)|h
 .rcases e _ _ h with z|⟨kvs,z⟩
  .exact .inl (.inl z)
  .cases z
 .rcases e _ _ h with z|⟨kvs,z⟩
  .exact .inl (.inr ⟨o,z⟩)
  .cases z
 .exact .inr h
mutual
theorem d8.less(e:rY H H'):∀{d:D} {v:V},rH d=true->d8 K H d v->d8 K H' d v
 | .non,_,_,h=>by rw[Z8]at h ⊢;exact h
 | .bl _,_,_,h=>by rw[K4]at h ⊢;exact h
 | .int _,_,_,h=>by rw[v4]at h ⊢;exact h
 | .str _,_,_,h=>by rw[Z4]at h ⊢;exact h
 | .tup ds,_,n,h=>by rw[j5]at h ⊢;obtain⟨a,xs,h1,h2,h3⟩:=h;rw[rH]at n;exact⟨a,xs,h1,e.tup h2,g9.less e n h3⟩
 | .lst ds,_,n,h=>by rw[J6]at h ⊢;obtain⟨a,xs,h1,h2,h3⟩:=h;rw[rH]at n;exact⟨a,xs,h1,e.lst h2,g9.less e n h3⟩
 | .dct ks ds,_,n,h=>by rw[rH]at n;cases n
theorem g9.less(e:rY H H'):∀{ds:List D} {vs:List V},sX ds=true->g9 K H ds vs->g9 K H' ds vs
 | [],_,_,h=>by rw[K3]at h ⊢;exact h
 |d::ds,_,n,h=>by rw[g9]at h ⊢;obtain⟨v,vs,h1,h2,h3⟩:=h;rw[sX,Bi]at n;exact⟨v,vs,h1,d8.less e n.1 h2,g9.less e n.2 h3⟩
end
variable{B Z:List Av}{H0 V0:Hp}{U:St}{Y:K6}
def SR.lend(r:SR K B H0 V0 H Z U Y){i:Nat}(h:Y[i]?=some (some (.od ks vs))):
  ∃a kvs,H a=some (.dK kvs)/\SR K B H0 V0 H (Z.filter λb=>decide (b≠a)) U (Y.set i (some (.sh (.dct ks vs)))):=by
 obtain⟨a,o,h1,h2,h3,h4,h5,h6⟩:=r.own i (.d ks vs) h;obtain⟨kvs,rfl,_,_⟩:=h6;have iK:∀b∈Z.filter (λb=>decide (b≠a)),b∈Z:=λb hb=>(Az.mp hb).1;have jd:∀b,b∈Z->b≠a->b∈Z.filter (λb=>decide (b≠a)):=λb hb ne=>Az.mpr ⟨hb,K9 ne⟩;have na:a∉Z.filter (λb=>decide (b≠a)):=λz=>(lC (Az.mp z).2) rfl;have mono:j8 (K5 Z H) (K5 (Z.filter λb=>decide (b≠a)) H):=qJ iK
 have hi:i<Y.length:=(B2.mp h).1;obtain⟨a',o',q1,q2,q3,q4,q5,q6⟩:=r.own i (.d ks vs) h;rw[h1]at q1;cases q1;rw[h5]at q5;cases q5;refine⟨a,kvs,h5,r.same,r.tb,r.vis.trans mono,λb hb=>jd b (r.sub b hb) λz=>h3 (z▸hb),λz hz=>r.zs z (iK z hz),λj d q=>?_,λj c q=>?_,λj k c e b e1 e2 s1 s2=>?_,by rw[Cy];exact r.len⟩
 .rcases l5 q with⟨rfl,z,_⟩|⟨hj,q⟩
  .cases z;exact⟨.ref a,h1,(o8.mono mono q6).rep (c:=.d ks vs) (by rw[Q4 na];exact h5)⟩
  .obtain⟨v,e1,e2⟩:=r.sh j d q;exact⟨v,e1,e2.mono mono⟩
 .rcases l5 q with⟨_,z,_⟩|⟨hj,q⟩
  .exact(n8 z).elim
  .obtain⟨b,u,e1,e2,e3,e4,e5,e6⟩:=r.own j c q;refine⟨b,u,e1,jd b e2 λz=>?_,e3,e4,e5,e6.mono mono⟩;subst z;exact hj (r.inj i j (.d ks vs) c b h q h1 e1)
 .rcases l5 e1 with⟨_,z,_⟩|⟨n1,e1⟩
  .exact(n8 z).elim
  .rcases l5 e2 with⟨_,z,_⟩|⟨n2,e2⟩
   .exact(n8 z).elim
   .exact r.inj j k c e b e1 e2 s1 s2
def rY.unlend(h:H a=some (.dK kvs)):rY (K5 (Z.filter λb=>decide (b≠a)) H) (K5 Z H):=λb u e=>by
 obtain⟨h1,h2⟩:=W8 e;by_cases hb:b∈Z
 .by_cases ha:b=a
  .subst ha;rw[h]at h2;cases h2;exact .inr ⟨_,rfl⟩
  .exact w9 (Az.mpr ⟨hb,K9 ha⟩) h1
 .rw[Q4 hb];exact .inl h2
end
def qO(i:Nat)(f:ED):ED:=λY=>match Y[i]? with
 |some (some (.od ks vs))=>(match f (Y.set i (some (.sh (.dct ks vs)))) with|some d=>if rH d=true then some d else none|none=>none)
 |_=>none
section
variable{X:Cx}{e:Expr}{f:ED}
def JW(i:Nat)(h:ZE X e f):ZE X e (qO i f):=
 ⟨have h:=h.h;
 j3 h λU H Q h_=>by
  refine f7 h_ λY d B H0 V0 Z e r q=>?_;unfold qO at e;split at e
  .rename_i ks vs hρ;split at e
   .rename_i d' ed;split at e
    .rename_i av;cases e;obtain⟨a,kvs,ha,r'⟩:=r.lend hρ;exact⟨_,d,B,H0,V0,_,ed,r',λv H' s rr=>q v H' s (rr.less (rY.unlend (s _ _ ha)) av)⟩
    .cases e
   .cases e
  .cases e⟩
end
def m8:Nat->(EB)->(EO)->EO
 | 0,_,_,_=>none
 |n+1,fc,g,Y=>match fc Y with
  |some true=>(match g Y with
   |some (.nx Y')=>m8 n fc g Y'
   |some (.ct Y')=>m8 n fc g Y'
   |some (.bk Y')=>some (.nx Y')
   |some (.rt v)=>some (.rt v)
   |none=>none)
  |some false=>some (.nx Y)
  |none=>none
section
variable{X:Cx}{c:Expr}{body:List Do}{fc:EB}{g:EO}{pos:Hq}
def GC(n:Nat)(hp:Mm (B0 X.prog X.w) X.A X.env X.xe)(hc:ZT X c fc)(hb:ZB X body g):ZS X (.While c body [] pos) (m8 n fc g):=
 ⟨have hc:=hc.h;
 have hb:=hb.h;
 nA (Xk hp hc hb) λE U H h_=>by
  refine f7 h_ λY o B H0 V0 Z e r q=>?_;refine⟨λm U' H'=>∃Y' Z',m8 m fc g Y'=some o/\SR X.K B H0 V0 H' Z' U' Y',⟨n,Y,Z,e,r⟩,?_⟩;rintro m U1 H1 ⟨Y1,Z1,e1,r1⟩
  cases m with
  |zero=>cases e1
  |succ m=>
   unfold m8 at e1
   cases hf:fc Y1 with
   |none=>rw[hf]at e1;cases e1
   |some b=>
    rw[hf]at e1
    cases b with
    |false=>
     cases e1;exact⟨Y1,false,B,H0,V0,Z1,hf,r1,λH2 s2=>t9 (q U1 H2 Z1 (r1.mono s2))⟩
    |true=>
     refine⟨Y1,true,B,H0,V0,Z1,hf,r1,λH2 s2=>uA ⟨λU' H'=>∃Y' Z',m8 m fc g Y'=some o/\SR X.K B H0 V0 H' Z' U' Y',λU' H' ⟨Y',Z',h1,h2⟩=>⟨m,Dy m,Y',Z',h1,h2⟩,?_⟩⟩;dsimp only at e1
     cases hg:g Y1 with
     |none=>rw[hg]at e1;cases e1
     |some og=>
      rw[hg]at e1
      cases og with
      |nx Y2=>exact⟨Y1,.nx Y2,B,H0,V0,Z1,hg,r1.mono s2,λU' H' Z' r'=>⟨Y2,Z',e1,r'⟩⟩
      |ct Y2=>exact⟨Y1,.ct Y2,B,H0,V0,Z1,hg,r1.mono s2,λU' H' Z' r'=>⟨Y2,Z',e1,r'⟩⟩
      |bk Y2=>cases e1;exact⟨Y1,.bk Y2,B,H0,V0,Z1,hg,r1.mono s2,λU' H' Z' r'=>q U' H' Z' r'⟩
      |rt v=>
       cases e1
       exact⟨Y1,.rt v,B,H0,V0,Z1,hg,r1.mono s2,λv' H' s' rr=>q v' H' s' rr⟩⟩
def tN(i:Nat)(f:ED):EO:=λY=>match z9 i Y with
 |some (.int a)=>(match f Y with|some (.int b)=>some (.nx (Y.set i (some (.sh (.int (a+b))))))|_=>none)
 |_=>none
def JY{i:Nat}{x:Bf}(he:ZE X e f)(hN:X.N.Nodup)(hi:X.N[i]?=some x:=by rfl)(hx:mT X.env.scope x:=by first|exact E8 rfl|exact Db rfl)(hf:X.fn x=true\/X.env.scope.names.lookup x=some .local:=by first|exact .inl rfl|exact .inr rfl):ZS X (.AugAssign (.Name x aU) .Add e pos) (tN i f):=
 ⟨have he:=he.h;
 nA (Ş hN hi hx he ĺ hf) λE U H h_=>by
  refine f7 h_ λY o B H0 V0 Z e r q=>?_;unfold tN at e
  cases hv:z9 i Y with
  |none=>rw[hv]at e;cases e
  |some d=>
   rw[hv]at e
   cases d with
   |int a=>
    dsimp only at e
    cases eY:f Y with
    |none=>rw[eY]at e;cases e
    |some d2=>
     rw[eY]at e
     cases d2 with
     |int b=>
      cases e;obtain⟨v,h1,h2⟩:=r.sh i _ (Pa hv)
      obtain rfl:=v4.mp h2
      refine⟨_,h1,Y,.int b,B,H0,V0,Z,eY,r,λy H1 s1 r1=>?_⟩
      obtain rfl:=v4.mp r1
      exact⟨a,b,rfl,rfl,q _ H1 Z ((r.mono s1).set (v4.mpr rfl))⟩
     |non=>cases e
     |bl _=>cases e
     |str _=>cases e
     |tup _=>cases e
     |lst _=>cases e
     |dct _ _=>cases e
   |non=>cases e
   |bl _=>cases e
   |str _=>cases e
   |tup _=>cases e
   |lst _=>cases e
   |dct _ _=>cases e⟩
def Ψ:List V->Hp->VK->Prop:=λxs H Q=>∃a kvs,xs=[.ref a]/\Rd H a (.dK kvs)/\Q (.int kvs.length) H
theorem X0:kT X (.builtin "len") Ψ:=by
 intro aa s U H xs vs Q I rv h;obtain⟨a,kvs,rfl,e,q⟩:=h
 cases rv with
 |cons r1 r2=>cases r2;cases r1;exact v0R I e λt s' I'=>⟨.int kvs.length,H,I',⟨t,rfl⟩,q⟩
def uY(f:ED):ED:=λY=>match f Y with|some (.dct ks _)=>some (.int ks.length)|_=>none
def OG{p:Hq}(hm:X.mg "len" = none)(h:ZE X a f)(hg:Gl X "len":=by rfl)(he:Ab [a] X.env=(false,Ce a X.env)::Ab [] X.env:=by exact u4 rfl)(af:(C8 pos (Ab [] X.env)).any (·.1)=false:=by exact J3 rfl):ZE X (.Call (.Name "len" p) [a] [] pos) (uY f):=
 ⟨have h:=h.h;
 j3 (rO X0 hg hm PySem.boot_len (J4 h Y8 he) (by decide) (by decide) he af) λU H Q h_=>by
  refine f7 h_ λY d B H0 V0 Z e r q=>?_;unfold uY at e
  cases hf:f Y with
  |none=>rw[hf]at e;cases e
  |some d'=>
   rw[hf]at e
   cases d' with
   |dct ks vs=>cases e;refine⟨Y,_,B,H0,V0,Z,hf,r,λv H' s rr=>?_⟩;obtain⟨a',kvs,rfl,h1,h2,_⟩:=l4.mp rr;exact⟨a',kvs,rfl,.inl (W8 h1).2,q _ H' s (by rw[<-h2,A0];exact v4.mpr rfl)⟩
   |non=>cases e
   |bl _=>cases e
   |int _=>cases e
   |str _=>cases e
   |tup _=>cases e
   |lst _=>cases e⟩
end
def é:V->List V->Hp->VK->Prop:=λx xs H Q=>∃a kvs k y,x = .ref a/\xs=[kV k,y]/\H a=some (.dK kvs)/\kvs.length<sizeLine/\(∀v,lT kvs k=some v->Q v H)/\(lT kvs k=none->Q y (upd H a (.dK (lQ kvs k y))))
def pF(kvs more:List (d3×V)):List (d3×V):=more.foldl (λacc kv=>lQ acc kv.1 kv.2) kvs
def ë:V->List V->Hp->VK->Prop:=λx xs H Q=>∃a b kvs more,x = .ref a/\xs=[.ref b]/\a≠b/\H a=some (.dK kvs)/\H b=some (.dK more)/\kvs.length+more.length<=sizeLine/\Q .non (upd H a (.dK (pF kvs more)))
theorem Og:∀(more kvs:List (d3×V)),(pF kvs more).length<=kvs.length+more.length
 | [],kvs=>Aj _
 |p::r,kvs=>by have h1:=Og r (lQ kvs p.1 p.2);have h2:=CT kvs p.1 p.2;show (pF (lQ kvs p.1 p.2) r).length<=_;rw[As];omega
theorem KV.merge:∀{more:List (d3×V)} {ms:List (d3×Aa)},KV more ms->∀{kvs:List (d3×V)} {vs:List (d3×Aa)},KV kvs vs->KV (pF kvs more) (merged vs ms):=λ{more ms} h=>by
 unfold KV at h
 induction h with
 |nil=>intro kvs vs r;exact r
 | @cons p q ps qs hq t ih=>
  intro kvs vs r
  have:=KV.put r p.1 hq.2
  rw[hq.1]at this;show KV (pF (lQ kvs p.1 p.2) ps) (merged (stored vs q.1 q.2) qs);rw[hq.1];exact ih this
section
variable{X:Cx}
def Yw:AZ X "dict.setdefault" é:=by
 intro aa s U H x xs v us Q I rx rv h;obtain⟨a,kvs,k,y,rfl,rfl,e,hl,q1,q2⟩:=h;cases rx;obtain⟨u1,u2,rfl,r1,r2⟩:=rv.two;obtain⟨z,hd,vs,aP,dd⟩:=vA I.hok e;refine No PySem.F.slot_dict_setdefault dd.typeIs PySem.F.entry_dict_setdefault (PySem.F.args_dict_setdefault_3 _ _ _) (kt_meets_setdefault (mM X.prog X.w) a (xM r1) hd u2) ⟨vs,dd,by rw[<-aP.length];exact z,λv hv=>?_,λhn h' dq hs=>?_⟩
 .have:=aP.val k
  rw[hv]at this
  cases hk:lT kvs k with
  |none=>rw[hk]at this;exact this.elim
  |some w'=>rw[hk]at this;exact⟨w',H,I.tok _,this,q1 w' hk⟩
 .have:=aP.val k
  rw[hn]at this
  cases hk:lT kvs k with
  |some w'=>rw[hk]at this;exact this.elim
  |none=>
   have he:∃q,h'.get? a=some q:=let ⟨q,_,_,hq,_⟩:=dq;⟨q,hq⟩
   have cw:(lQ kvs k y).length<=sizeLine:=by have:=CT kvs k y;omega
   exact⟨y,_,DP I (by rw[e];exact Gi) hs he (EJ cw hd (aP.put k r2) dq),r2,q2 hk⟩
def Yx:AZ X "dict.update" ë:=by
 intro aa s U H x xs v us Q I rx rv h;obtain⟨a,b,kvs,more,rfl,rfl,cB,e,eb,hl,q⟩:=h;cases rx;obtain⟨u1,rfl,r1⟩:=rv.one;cases r1;obtain⟨z,hd,vs,aP,dd⟩:=vA I.hok e;obtain⟨z2,bB,ms,jo,cK⟩:=vA I.hok eb;refine No PySem.F.slot_dict_update dd.typeIs PySem.F.entry_dict_update (PySem.F.args_dict_update_2 _ _) (meets_dict_update (mM X.prog X.w) a b cB bB) ⟨vs,ms,dd,cK,by rw[<-aP.length,<-jo.length];exact hl,λh' dq _ hs=>?_⟩
 have he:∃q,h'.get? a=some q:=let ⟨q,_,_,hq,_⟩:=dq;⟨q,hq⟩
 have cw:(pF kvs more).length<=sizeLine:=Bn (Og more kvs) hl;exact⟨.non,_,DP (t':=s.toks) I (by rw[e];exact Gi) hs he (EJ cw hd (KV.merge jo aP) dq),rfl,q⟩
end
section
variable{X:Cx}{a b:Expr}{fa fb:ED}{pos:Hq}
def oF(i:Nat)(fk fv:ED):EO:=λY=>match pN i Y with
 |some d=>(match fk Y with
  |some kd=>(match qX kd with
   |some k=>(match fv Y with
    |some v=>if d.1.Nodup/\d.1.length<d9 then (if (kF d.1 d.2 k).isSome=true then some (.nx Y) else some (.nx (Y.set i (some (.od (kP d.1 d.2 k v).1 (kP d.1 d.2 k v).2))))) else none
    |none=>none)
   |none=>none)
  |none=>none)
 |none=>none
def GT{i:Nat}{x:Bf}{p1 p2 p3:Hq}(hk:ZE X a fa)(cM:ZE X b fb)(hN:X.N[i]?=some x:=by rfl)(hv:mS X.env.scope x:=by first|exact E8 rfl|exact Db (E8 rfl)|exact Db (Db rfl))(hd:(x==("__debug__":Bf))=false:=by decide)(aT:(x==("__classdict__":Bf))=false:=by decide)(aG:Fx (.Name x p1) "setdefault" X.env (Ce (.Name x p1) X.env)=Ce (.Name x p1) X.env:=by rfl) (bC:((C8 p3 (Ab [a,b] X.env)).all (λx=>!x.1)&&(Mf p3 (Jt [] X.env)).all (λx=>x.1.isSome)
   && decide (([a,b]:List Expr).length+([]:List Ix).length+(if ([]:List Ix).isEmpty then 0 else 1)<30))=true:=by rfl) (aE:(p2.endLine==p3.line)=true:=by rfl) (hs:Ab [a,b] X.env=(false,Ce a X.env)::Ab [b] X.env:=by exact u4 rfl) (bH:Ab [b] X.env=(false,Ce b X.env)::Ab [] X.env:=by exact u4 rfl) (aF:(C8 p3 (Ab [b] X.env)).any (·.1)=false:=by exact J3 rfl) (bW:Ej (.Call (.Attribute (.Name x p1) "setdefault" p2) [a,b] [] p3) none pos.line X.env=Cr false:=by rfl):ZS X (.Expr (.Call (.Attribute (.Name x p1) "setdefault" p2) [a,b] [] p3) pos) (oF i fa fb):=
 ⟨have hk:=hk.h;
 have cM:=cM.h;
 nA (Ax (AI Iq PySem.F.slot_dict_setdefault PySem.F.type_dict_setdefault Yw (nN hN hv hd aT) (J4 hk (J4 cM Y8 bH) hs) aG bC aE hs aF) bW) λE U H h_=>by
  refine f7 h_ λY o B H0 V0 Z e r q=>?_;unfold oF at e
  cases ed:pN i Y with
  |none=>rw[ed]at e;cases e
  |some dd=>
   rw[ed]at e;dsimp only at e
   cases ek:fa Y with
   |none=>rw[ek]at e;cases e
   |some kd=>
    rw[ek]at e;dsimp only at e
    cases gH:qX kd with
    |none=>rw[gH]at e;cases e
    |some k=>
     rw[gH]at e;dsimp only at e
     cases ev:fb Y with
     |none=>rw[ev]at e;cases e
     |some v=>
      rw[ev]at e;dsimp only at e;by_cases hz:dd.1.Nodup/\dd.1.length<d9
      .rw[z7 hz]at e;obtain⟨n,kvs,h1,h2,hb,h3,h4,h5,h6⟩:=r.od i dd.1 dd.2 (uV ed);refine⟨.ref n,h1,.inr (.inr (.inl ⟨rfl,.inl ⟨_,h4⟩⟩)),Y,kd,B,H0,V0,Z,ek,r,λy H1 s1 r1=>⟨Y,v,B,H0,V0,Z,ev,r.mono s1,λz H2 s2 r2=>?_⟩⟩
       obtain rfl:=wK gH r1
       have ab:kvs.length<sizeLine:=by
        have:kvs.length=dd.1.length:=by rw[<-h5,A0]
        rw[this];exact EN (D7 hz.2)
       have hlk:(kF dd.1 dd.2 k).isSome=(lT kvs k).isSome:=by rw[<-h5];exact zC h6
       have R2:=(r.mono s1).mono s2;refine⟨n,kvs,k,z,rfl,rfl,s2 _ _ (s1 _ _ h4),ab,λw' hw=>?_,λhw=>?_⟩
       .rw[hw]at hlk;rw[z7 (show (kF dd.1 dd.2 k).isSome=true from hlk)]at e;cases e;exact q U H2 Z R2
       .rw[hw]at hlk;rw[y3 (show ¬(kF dd.1 dd.2 k).isSome=true by rw[hlk];exact B3)]at e
        cases e;show E.nx U (upd H2 n (.dK (lQ kvs k z)));rw[BZ k z kvs (by rw[h5];exact hz.1)]
        obtain⟨p1,p2⟩:=DX (j:=k) (h6.mono (x6 (s1.trans s2))) r2;rw[h5]at p1 p2;exact q U _ Z (R2.updC (c:=.d dd.1 dd.2) (e:=.d (kP dd.1 dd.2 k v).1 (kP dd.1 dd.2 k v).2) (uV ed) h1 ⟨_,rfl,p1,p2⟩)
      .rw[y3 hz]at e;cases e⟩
def o4:List d3->List D->List d3->List D->List d3×List D
 |ks,vs,k::r,v::w=>o4 (kP ks vs k v).1 (kP ks vs k v).2 r w
 |ks,vs,_,_=>(ks,vs)
theorem Pt(j:d3)(d:V):∀kvs:List (d3×V),∀y∈(nT kvs j d).map (·.1),y∈kvs.map (·.1)\/y=j
 | [],y,h=>.inr (by simpa [nT] using h)
 |p::r,y,h=>by
  unfold nT at h;by_cases hp:p.1=j
  .rw[z7 hp]at h;exact .inl h
  .rw[y3 hp,Af]at h;rcases Ad.mp h with z|z
   .exact .inl (by rw[z];exact A6)
   .rcases Pt j d r y z with q|q
    .exact .inl (A7 _ q)
    .exact .inr q
theorem P9(j:d3)(d:V):∀kvs:List (d3×V),(kvs.map (·.1)).Nodup->((nT kvs j d).map (·.1)).Nodup
 | [],_=>by simp[nT]
 |p::r,h=>by
  rw[Af,Bq]at h;unfold nT;by_cases hp:p.1=j
  .rw[z7 hp];exact Bq.mpr h
  .rw[y3 hp,Af,Bq];refine⟨λz=>?_,P9 j d r h.2⟩;rcases Pt j d r _ z with q|q
   .exact h.1 q
   .exact hp q
theorem Pp{K:A5}{H:Hp}:∀(more kvs:List (d3×V)) (vs fI:List D),g9 K H vs (kvs.map (·.2))->g9 K H fI (more.map (·.2))->(kvs.map (·.1)).Nodup ->
  (pF kvs more).map (·.1)=(o4 (kvs.map (·.1)) vs (more.map (·.1)) fI).1/\g9 K H (o4 (kvs.map (·.1)) vs (more.map (·.1)) fI).2 ((pF kvs more).map (·.2))
 | [],kvs,vs,fI,h1,h2,hn=>by
  have:o4 (kvs.map (·.1)) vs (([]:List (d3×V)).map (·.1)) fI=(kvs.map (·.1),vs):=by cases fI<;>rfl
  rw[this];exact⟨rfl,h1⟩
 |p::r,kvs,vs,[],h1,h2,hn=>by cases K3.mp h2
 |p::r,kvs,vs,v::fI,h1,h2,hn=>by
  obtain⟨x,xs,ex,g1,g2⟩:=j7.mp h2;rw[Af]at ex;obtain⟨e1,e2⟩:=Ln ex;subst e1;rw[<-e2]at g2;obtain⟨p1,p2⟩:=DX (j:=p.1) h1 g1
  have hm:pF kvs (p::r)=pF (nT kvs p.1 p.2) r:=by show pF (lQ kvs p.1 p.2) r=_;rw[BZ p.1 p.2 kvs hn]
  have ih:=Pp r (nT kvs p.1 p.2) (kP (kvs.map (·.1)) vs p.1 v).2 fI p2 g2 (P9 _ _ _ hn);rw[p1]at ih;rw[hm];exact ih
def FC(i:Nat)(f:ED):EO:=λY=>match pN i Y with
 |some d=>(match f Y with
  |some (.dct ks vs)=>if d.1.Nodup/\d.1.length+ks.length<=d9 then some (.nx (Y.set i (some (.od (o4 d.1 d.2 ks vs).1 (o4 d.1 d.2 ks vs).2)))) else none
  |_=>none)
 |none=>none
def Ϗ{i:Nat}{x:Bf}{p1 p2 p3:Hq}(h:ZE X a fa)(hN:X.N[i]?=some x:=by rfl)(hv:mS X.env.scope x:=by first|exact E8 rfl|exact Db (E8 rfl)|exact Db (Db rfl))(hd:(x==("__debug__":Bf))=false:=by decide)(aT:(x==("__classdict__":Bf))=false:=by decide)(aG:Fx (.Name x p1) "update" X.env (Ce (.Name x p1) X.env)=Ce (.Name x p1) X.env:=by rfl) (bC:((C8 p3 (Ab [a] X.env)).all (λx=>!x.1)&&(Mf p3 (Jt [] X.env)).all (λx=>x.1.isSome)
   && decide (([a]:List Expr).length+([]:List Ix).length+(if ([]:List Ix).isEmpty then 0 else 1)<30))=true:=by rfl) (aE:(p2.endLine==p3.line)=true:=by rfl) (hs:Ab [a] X.env=(false,Ce a X.env)::Ab [] X.env:=by exact u4 rfl) (aF:(C8 p3 (Ab [] X.env)).any (·.1)=false:=by exact J3 rfl) (bW:Ej (.Call (.Attribute (.Name x p1) "update" p2) [a] [] p3) none pos.line X.env=Cr false:=by rfl):ZS X (.Expr (.Call (.Attribute (.Name x p1) "update" p2) [a] [] p3) pos) (FC i fa):=
 ⟨have h:=h.h;
 nA (Ax (AI Iq PySem.F.slot_dict_update PySem.F.type_dict_update Yx (nN hN hv hd aT) (J4 h Y8 hs) aG bC aE hs aF) bW) λE U H h_=>by
  refine f7 h_ λY o B H0 V0 Z e r q=>?_;unfold FC at e
  cases ed:pN i Y with
  |none=>rw[ed]at e;cases e
  |some dd=>
   rw[ed]at e;dsimp only at e
   cases ef:fa Y with
   |none=>rw[ef]at e;cases e
   |some d'=>
    rw[ef]at e
    cases d' with
    |dct ks vs=>
     dsimp only at e;by_cases hz:dd.1.Nodup/\dd.1.length+ks.length<=d9
     .rw[z7 hz]at e;cases e;obtain⟨n,kvs,h1,h2,hb,h3,h4,h5,h6⟩:=r.od i dd.1 dd.2 (uV ed);refine⟨.ref n,h1,.inr (.inr (.inl ⟨rfl,.inl ⟨_,h4⟩⟩)),Y,_,B,H0,V0,Z,ef,r,λy H1 s1 r1=>?_⟩;obtain⟨m,more,rfl,g1,g2,g3⟩:=l4.mp r1;have R1:=r.mono s1
      have dP:n≠m:=λz=>by subst z;exact(W8 g1).1 h2
      refine⟨n,m,kvs,more,rfl,rfl,dP,s1 _ _ h4,(W8 g1).2,?_,?_⟩
      .have e1:kvs.length=dd.1.length:=by rw[<-h5,A0]
       have e2:more.length=ks.length:=by rw[<-g2,A0]
       rw[e1,e2];exact vG hz.2
      .obtain⟨p1,p2⟩:=Pp more kvs dd.2 vs (h6.mono (x6 s1)) g3 (by rw[h5];exact hz.1)
       rw[h5,g2]at p1 p2;exact q U _ Z (R1.updC (c:=.d dd.1 dd.2) (e:=.d (o4 dd.1 dd.2 ks vs).1 (o4 dd.1 dd.2 ks vs).2) (uV ed) h1 ⟨_,rfl,p1,p2⟩)
     .rw[y3 hz]at e;cases e
    |non=>cases e
    |bl _=>cases e
    |int _=>cases e
    |str _=>cases e
    |tup _=>cases e
    |lst _=>cases e⟩
end
section
variable{X:Cx}{a:Expr}{f:ED}{p p2 p3 pos:Hq}
def Χ:List V->Hp->VK->Prop:=λxs H Q=>∃a kvs,xs=[.ref a]/\H a=some (.dK kvs)/\∀p,H p=none->Q (.ref p) (upd H p (.dK kvs))
def ZC:kT X (.type "dict") Χ:=by
 intro aa s U H xs vs Q I rv h;obtain⟨a,kvs,rfl,e,q⟩:=h;obtain⟨u,rfl,r1⟩:=rv.one;cases r1;obtain⟨z,hd,ms,aP,dd⟩:=vA I.hok e;refine kt_call_dict hd dd (by rw[<-aP.length];exact z) λh' dq hsb=>?_
 have kp:∀b o,s.heap.get? b=some o->h'.get? b=some o:=λb o e=>hsb.extBut b o (Aq (Ao e)) (A8 _ e);have hS:(s.heap.objs.size==Fv)=false:=beq_false_of_ne (D8 I.big);exact⟨.ref s.heap.objs.size,_,I.laid (a:=s.heap.objs.size) (o:=.dK kvs) (t':=s.toks) kp (Aj _) (EJ z hS aP dq),rfl,q _ (I.hok.fresh (Aj _))⟩
def zN(f:ED):K6->Option (List d3×List D):=λY=>match f Y with|some (.dct ks vs)=>some (ks,vs)|_=>none
theorem Qn{ds:List d3×List D}(e:zN f Y=some ds):f Y=some (.dct ds.1 ds.2):=by
 unfold zN at e
 cases hf:f Y with
 |none=>rw[hf]at e;cases e
 |some d=>
  rw[hf]at e
  cases d with
  |dct ks vs=>cases e;rfl
  |non=>cases e
  |bl _=>cases e
  |int _=>cases e
  |str _=>cases e
  |tup _=>cases e
  |lst _=>cases e
def Zf(hm:X.mg "dict" = none)(h:ZE X a f)(hg:Gl X "dict":=by rfl)(he:Ab [a] X.env=(false,Ce a X.env)::Ab [] X.env:=by exact u4 rfl)(af:(C8 pos (Ab [] X.env)).any (·.1)=false:=by exact J3 rfl)(hv:B5 "dict" = some (.type "dict"):=by decide +kernel):AW X (.Call (.Name "dict" p) [a] [] pos) (zN f):=
 ⟨have h:=h.h;
 j3 (pK ZC hg hm hv (J4 h Y8 he) (by decide) (by decide) he af) λU H Q h_=>by
  refine f7 h_ λY ds B H0 V0 Z e r q=>?_;refine⟨Y,_,B,H0,V0,Z,Qn e,r,λv H1 s1 rr=>?_⟩;obtain⟨a',kvs,rfl,g1,g2,g3⟩:=l4.mp rr;refine⟨a',kvs,rfl,(W8 g1).2,λm hm'=>?_⟩;have sn:=u9 (o:=HO.dK kvs) hm'
  exact q m kvs _ (s1.trans sn) (s1.free hm') v8 g2 (g3.mono (qK hm' sn))⟩
abbrev yE(a:Av):Jy:={ cls:=.type "dict_values",data:=.fields #[.ref a] }
def ĝ:V->List V->Hp->VK->Prop:=λx xs H Q=>∃a kvs,x = .ref a/\xs=[]/\H a=some (.dK kvs)/\∀p,H p=none->Q (.ref p) (upd H p (.frz (yE a) (.own a)))
def Ï:AZ X "dict.values" ĝ:=by
 intro aa s U H x xs v us Q I rx rv h;obtain⟨a,kvs,rfl,rfl,e,q⟩:=h;cases rx
 obtain rfl:=rv.zero
 obtain⟨z,hd,vs,aP,dd⟩:=vA I.hok e;refine No PySem.F.slot_dict_values dd.typeIs PySem.F.entry_dict_values (PySem.F.args_dict_values_1 _) (meets_dict_values (mM X.prog X.w) a hd) ⟨⟨vs,dd⟩,?_⟩;exact⟨.ref s.heap.objs.size,_,I.laid (a:=s.heap.objs.size) (o:=.frz (yE a) (.own a)) (t':=s.toks) (λ_ _ q=>A8 _ q) (Aj _) ⟨Ar _ rfl,_,Ar _ rfl⟩,rfl,q _ (I.hok.fresh (Aj _))⟩
def ı:List V->Hp->VK->Prop:=λxs H Q=>∃v a kvs,xs=[.ref v]/\H v=some (.frz (yE a) (.own a))/\H a=some (.dK kvs)/\∀l,H l=none->Q (.ref l) (upd H l (.lst (kvs.map (·.2))))
theorem Ê{kvs:List (d3×V)}{vs:List (d3×Aa)}(h:KV kvs vs):Y7 (kvs.map (·.2)) (vs.map (·.2)):=by
 unfold KV at h
 induction h with
 |nil=>exact .nil
 |cons hq t ih=>exact .cons hq.2 ih
def ZD(hc:X.calm=true):kT X (.type "list") ı:=by
 intro aa s U H xs us Q I rv h;obtain⟨v,a,kvs,rfl,ev,e,q⟩:=h;obtain⟨u,rfl,r1⟩:=rv.one;cases r1;obtain⟨z,hd,vs,aP,dd⟩:=vA I.hok e;have hv:s.heap.get? v=some (yE a):=(I.hok v _ ev).1;obtain⟨o,es,ep,ho,h1⟩:=dd;have ab:kvs.length=vs.length:=aP.length;refine PySem.W.kdl_call (PySem.W.kdl_values (knd:=mM X.prog X.w) (kvs:=vs) (ep:=ep)) (I.ok.hd hc) ⟨⟨_,hv,rfl,rfl⟩,⟨o,es,ho,h1⟩⟩ (by rw[<-ab];exact z) λh' tk aJ c' kp hget aM=>?_
 have cZ:aJ.toList=vs.map (·.2):=PySem.W.kdl_vals_eq aJ.toList (by rw[Au];exact aM.1) λj w' hw=>aM.2 j w' (by rw[<-Cq];exact hw)
 refine⟨.ref s.heap.objs.size,_,I.laid (a:=s.heap.objs.size) (o:=.lst (kvs.map (·.2))) (t':=tk) kp (Aj _) ⟨by rw[A0];exact z,aJ.toList,c',by rw[cZ];exact Ê aP,by rw[hget]⟩,rfl,q _ (I.hok.fresh (Aj _))⟩
def xJ(f:ED):EL:=λY=>(zN f Y).map (·.2)
def NX(hc:X.calm=true)(hm:X.mg "list" = none)(h:ZE X a f)(hg:Gl X "list":=by rfl)(aG:Fx a "values" X.env (Ce a X.env)=Ce a X.env:=by rfl)(aE:(p2.endLine==p3.line)=true:=by rfl)(he:Ab [.Call (.Attribute a "values" p2) [] [] p3] X.env=(false,Ce (.Call (.Attribute a "values" p2) [] [] p3) X.env)::Ab [] X.env:=by exact u4 rfl)(af:(C8 pos (Ab [] X.env)).any (·.1)=false:=by exact J3 rfl)(hv:B5 "list" = some (.type "list"):=by decide +kernel):ZF X (.Call (.Name "list" p) [.Call (.Attribute a "values" p2) [] [] p3] [] pos) (xJ f):=
 ⟨have h:=h.h;
 j3 (pK (ZD hc) hg hm hv (J4 (œ Iq PySem.F.slot_dict_values PySem.F.type_dict_values Ï h aG aE) Y8 he) (by decide) (by decide) he af) λU H Q h_=>by
  refine f7 h_ λY zs B H0 V0 Z e r q=>?_;unfold xJ at e;obtain⟨ds,ed,rfl⟩:=B9.mp e;refine⟨Y,_,B,H0,V0,Z,Qn ed,r,λv H1 s1 rr=>?_⟩;obtain⟨a',kvs,rfl,g1,g2,g3⟩:=l4.mp rr;have ga:=(W8 g1).2;refine⟨.inr (.inr (.inl ⟨rfl,.inl ⟨_,ga⟩⟩)),a',kvs,rfl,rfl,ga,λm hm'=>?_⟩;have sm:=u9 (o:=HO.frz (yE a') (.own a')) hm';refine⟨m,a',kvs,rfl,v8,sm _ _ ga,λl hl=>?_⟩;have sl:=u9 (o:=HO.lst (kvs.map (·.2))) hl
  have ce:H1 l=none:=sm.free hl
  exact q l _ _ (s1.trans (sm.trans sl)) (s1.free ce) v8 (g3.mono (qK ce (sm.trans sl)))⟩
end
def AV(f:K6->Option (List d3×List D)):ED:=λY=>(f Y).map λd=>.dct d.1 d.2
section
variable{X:Cx}{e:Expr}
def Ub(h:AW X e f):ZE X e (AV f):=
 ⟨have h:=h.h;
 j3 h λU H Q h_=>by
  refine f7 h_ λY d B H0 V0 Z e r q=>?_;unfold AV at e;obtain⟨ds,he,rfl⟩:=B9.mp e;refine⟨Y,ds,B,H0,V0,Z,he,r,λa kvs H' s hn ha hk hr=>q _ H' s (l4.mpr ⟨a,kvs,rfl,?_,hk,hr.mono (qJ λb hb=>A7 _ hb)⟩)⟩;rw[Q4 (r.newer hn)]
  exact ha⟩
end
def kN(H:Hp):List Av->List (List Int)->Prop
 | [],[]=>True
 |b::bs,ns::aK=>H b=some (.lst (ns.map V.int))/\kN H bs aK
 |_,_=>False
theorem kN.len:∀{bs:List Av} {aK:List (List Int)},kN H bs aK->bs.length=aK.length
 | [],[],_=>rfl
 |b::bs,ns::aK,h=>by rw[As,As,kN.len h.2]
 | [],_::_,h=>h.elim
 |_::_,[],h=>h.elim
theorem kN.mono(e:j8 H H'):∀{bs:List Av} {aK:List (List Int)},kN H bs aK->kN H' bs aK
 | [],[],_=>trivial
 |b::bs,ns::aK,h=>⟨e _ _ h.1,kN.mono e h.2⟩
 | [],_::_,h=>h.elim
 |_::_,[],h=>h.elim
theorem kN.get:∀{bs:List Av} {aK:List (List Int)} {j:Nat},kN H bs aK->j<bs.length->∃b ns,bs[j]?=some b/\aK[j]?=some ns/\H b=some (.lst (ns.map V.int))
 | [],[],j,_,hj=>w9 hj (Dv _)
 |b::bs,ns::aK,0,h,_=>⟨b,ns,rfl,rfl,h.1⟩
 |b::bs,ns::aK,j+1,h,hj=>by
  obtain⟨b',bK,h1,h2,h3⟩:=kN.get (j:=j) h.2 (by rw[As]at hj;omega)
  exact⟨b',bK,by rw[Ec];exact h1,by rw[Ec];exact h2,h3⟩
 | [],_::_,_,h,_=>h.elim
 |_::_,[],_,h,_=>h.elim
theorem kN.other{c:Av}:∀{bs:List Av} {aK:List (List Int)},c∉bs->kN H bs aK->kN (upd H c o) bs aK
 | [],[],_,_=>trivial
 |b::bs,ns::aK,hn,h=>⟨(by
   have ah:b≠c:=λz=>hn (by rw[z];exact A6)
   rw[j6 ah]
   exact h.1),kN.other (λz=>hn (A7 _ z)) h.2⟩
 | [],_::_,_,h=>h.elim
 |_::_,[],_,h=>h.elim
theorem kN.upd{c:Av}{ms:List Int}:∀{bs:List Av} {aK:List (List Int)} {j:Nat},bs.Nodup->kN H bs aK->bs[j]?=some c->kN (upd H c (.lst (ms.map V.int))) bs (aK.set j ms)
 | [],[],j,_,_,hj=>by simp at hj
 |b::bs,ns::aK,0,hn,h,hj=>by
  have:b=c:=by simpa using hj
  subst this;exact⟨v8,kN.other (Bq.mp hn).1 h.2⟩
 |b::bs,ns::aK,j+1,hn,h,hj=>by
  rw[Ec]at hj;have bo:=Bq.mp hn;have ah:b≠c:=λz=>bo.1 (by rw[z];exact C5 hj)
  exact⟨by rw[j6 ah];exact h.1,kN.upd bo.2 h.2 hj⟩
 | [],_::_,_,_,h,_=>h.elim
 |_::_,[],_,_,h,_=>h.elim
theorem kN.new{H:Hp}:∀(bs:List Av),(∀b∈bs,H b=some (.lst []))->kN H bs (Bh bs.length [])
 | [],_=>trivial
 |b::bs,h=>⟨h b A6,kN.new bs λx hx=>h x (A7 _ hx)⟩
def FS(ns:List Int):D:=.lst (ns.map D.int)
theorem kN.rep{K:A5}{H:Hp}{B:List Av}:∀{bs:List Av} {aK:List (List Int)},(∀b∈bs,b∉B)->kN H bs aK->g9 K (K5 B H) (aK.map FS) (bs.map V.ref)
 | [],[],_,_=>K3.mpr rfl
 |b::bs,ns::aK,hb,h=>by rw[Af,Af];refine j7.mpr ⟨_,_,rfl,J6.mpr ⟨b,_,rfl,i5.of (by rw[Q4 (hb b A6)];exact h.1),Y2.mpr rfl⟩,kN.rep (λx hx=>hb x (A7 _ hx)) h.2⟩
 | [],_::_,_,h=>h.elim
 |_::_,[],_,h=>h.elim
section
variable{K:A5}{B Z:List Av}{H0 V0 H H':Hp}{U:St}{Y:K6}
def SR.moreL(r:SR K B H0 V0 H Z U Y)(as:List Av)(hn:∀a∈as,H a=none)(e:j8 H H')(he:∀a∈as,∃o,H' a=some o):SR K B H0 V0 H' (as++Z) U Y:=by
 have hl:j8 (K5 Z H) (K5 (as++Z) H'):=λb u q=>by
  obtain⟨h1,h2⟩:=W8 q
  rw[Q4 (by
   rw[Aw];rintro (z|z)
   .rw[hn b z]at h2;cases h2
   .exact h1 z)]
  exact e b u h2
 exact⟨r.same.trans e,r.tb.mono e,r.vis.trans hl,λb hb=>Ac _ (r.sub b hb),λz hz=>(Aw.mp hz).elim (he z) λq=>let ⟨u,h⟩:=r.zs z q;⟨u,e _ _ h⟩,
  λi d h=>let ⟨v,h1,h2⟩:=r.sh i d h;⟨v,h1,h2.mono hl⟩,
  λi c h=>let ⟨b,o,h1,h2,hb,h3,h4,h5⟩:=r.own i c h;⟨b,o,h1,Ac _ h2,hb,h3,e _ _ h4,h5.mono hl⟩,r.inj,r.len⟩
def SR.skip(r:SR K B H0 V0 H Z U Y){i:Nat}(h:Y[i]?=some none):SR K B H0 V0 H Z (U.set i v) Y:=by
 have ne:∀{j:Nat} {c:Cell},Y[j]?=some (some c)->i≠j:=λ{j c} q z=>by subst z;rw[h]at q;cases q
 exact⟨r.same,r.tb,r.vis,r.sub,r.zs,λj d q=>let ⟨u,h1,h2⟩:=r.sh j d q;⟨u,by rw[Bc (ne q)];exact h1,h2⟩,
  λj c q=>let ⟨b,o,h1,h2⟩:=r.own j c q;⟨b,o,by rw[Bc (ne q)];exact h1,h2⟩,
  λj k c e a q1 q2 s1 s2=>r.inj j k c e a q1 q2 (by rw[Bc (ne q1)]at s1;exact s1) (by rw[Bc (ne q2)]at s2;exact s2),by rw[Cy];exact r.len⟩
end
def AK(ir io iv:Nat):TS:=λD U H=>∃(l:Av) (bs:List Av) (a:Nat) (c:Av) (xs:List V) (y:V),U[ir]?=some (some (.ref l))/\U[io]?=some (some (.int (a:Int)))/\U[iv]?=some (some y)/\H l=some (.lst (bs.map V.ref))/\bs[a]?=some c/\H c=some (.lst xs)/\xs.length<sizeLine/\D.nx U (upd H c (.lst (xs++[y])))
section
variable{X:Cx}{pos p0 p1 p2 p3 p4 p5:Hq}
def Rp{xr xo xv:Bf}{ir io iv:Nat}(hNr:X.N[ir]?=some xr)(hvr:mS X.env.scope xr)(hdr:(xr==("__debug__":Bf))=false)(hcr:(xr==("__classdict__":Bf))=false)(hNo:X.N[io]?=some xo)(hvo:mS X.env.scope xo)(hdo:(xo==("__debug__":Bf))=false)(dL:(xo==("__classdict__":Bf))=false)(hNv:X.N[iv]?=some xv)(hvv:mS X.env.scope xv)(hdv:(xv==("__debug__":Bf))=false)(hcv:(xv==("__classdict__":Bf))=false)(hpx:DK (.Name xo p1):=by exact λ_ _=>rfl)(aG:Fx (.Subscript (.Name xr p0) (.Name xo p1) p2) "append" X.env (Ce (.Subscript (.Name xr p0) (.Name xo p1) p2) X.env)=Ce (.Subscript (.Name xr p0) (.Name xo p1) p2) X.env:=by rfl)
  (bC:((C8 p5 (Ab [.Name xv p4] X.env)).all (λx=>!x.1)&&(Mf p5 (Jt [] X.env)).all (λx=>x.1.isSome)
   && decide (([.Name xv p4]:List Expr).length+([]:List Ix).length+(if ([]:List Ix).isEmpty then 0 else 1)<30))=true:=by rfl)
  (aE:(p3.endLine==p5.line)=true:=by rfl) (hs:Ab [.Name xv p4] X.env=(false,Ce (.Name xv p4) X.env)::Ab [] X.env:=by exact u4 rfl) (aF:(C8 p5 (Ab [] X.env)).any (·.1)=false:=by exact J3 rfl)
  (bW:Ej (.Call (.Attribute (.Subscript (.Name xr p0) (.Name xo p1) p2) "append" p3) [.Name xv p4] [] p5) none pos.line X.env=Cr false:=by rfl):
  PS X (.Expr (.Call (.Attribute (.Subscript (.Name xr p0) (.Name xo p1) p2) "append" p3) [.Name xv p4] [] p5) pos) (AK ir io iv):=
 nA (Ax (AI Im PySem.F.slot_list_append PySem.F.type_list_append KF (SD QQ (nN hNr hvr hdr hcr) (nN hNo hvo hdo dL) hpx) (J4 (nN hNv hvv hdv hcv) Y8 hs) aG bC aE hs aF) bW)
  λD U H h_=>by
   obtain⟨l,bs,a,c,xs,y,h1,h2,h3,h4,h5,h6,h7,h8⟩:=h_;refine⟨.ref l,h1,.int (a:Int),h2,l,bs.map V.ref,(a:Int),.ref c,rfl,rfl,i5.of h4,?_,.inl ⟨rfl,xs,i5.of h6⟩,y,h3,c,xs,y,rfl,rfl,h6,h7,h8⟩;have ha:a<bs.length:=(B2.mp h5).1;unfold l6 rC;rw[z7 (by omega),z7 (by rw[A0];omega)]
   show (bs.map V.ref)[((a:Int)).toNat]?=some (.ref c);rw[Ay,Am,h5];rfl
end
def EF(q:Nat×Nat):D:=.tup [.int (q.1:Int),.int (q.2:Int)]
def AH(d:D):Option (Nat×Nat):=match d with
 | .tup [.int a,.int b]=>if 0<=a/\0<=b then some (a.toNat,b.toNat) else none
 |_=>none
def Ą{q:Nat×Nat}(h:AH d=some q):d=EF q:=by
 unfold AH at h;split at h
 .rename_i a b;split at h
  .rename_i hz;cases h;unfold EF;rw[El hz.1,El hz.2]
  .cases h
 .cases h
def sU:List D->Option (List (Nat×Nat))
 | []=>some []
 |d::ds=>match AH d with|some q=>(match sU ds with|some qs=>some (q::qs)|none=>none)|none=>none
theorem Qy:∀{ds:List D} {qs:List (Nat×Nat)},sU ds=some qs->ds=qs.map EF
 | [],qs,h=>by cases h;rfl
 |d::ds,qs,h=>by
  unfold sU at h
  cases hp:AH d with
  |none=>rw[hp]at h;cases h
  |some q=>
   rw[hp]at h
   cases hq:sU ds with
   |none=>rw[hq]at h;cases h
   |some r=>rw[hq]at h;cases h;rw[Af,<-Ą hp,<-Qy hq]
def oR(aK:List (List Int))(a b:Nat):List (List Int):=aK.set a (aK.getD a []++[(b:Int)])
def r9(aK:List (List Int))(q:Nat×Nat):List (List Int):=oR (oR aK q.1 q.2) q.2 q.1
def ET(ir i1 i2:Nat)(Y:K6)(n:Nat)(qs:List (Nat×Nat)):Bool:=(match Y[ir]? with|some none=>true|_=>false)&&decide (n<=1000)&&decide (qs.length<=1000)&&(qs.all λq=>decide (q.1<n)&&decide (q.2<n))&&decide (i1<Y.length)&&decide (i2<Y.length)&&decide (ir≠i1)&&decide (ir≠i2)&&decide (i1≠i2)
def uZ(ir i1 i2:Nat)(fi fc:EL):EO:=λY=>match fi Y with
 |some ds=>(match fc Y with
  |some ps=>(match sU ps with
   |some qs=>if ET ir i1 i2 Y ds.length qs=true then some (.rt (.lst ((qs.foldl r9 (Bh ds.length [])).map FS))) else none
   |none=>none)
  |none=>none)
 |none=>none
def GP{aK:List (List Int)}{m a b:Nat}(h:∀ns∈aK,ns.length<=m):∀ns∈oR aK a b,ns.length<=m+1:=λns hn=>by
 unfold oR at hn;rcases List.mem_or_eq_of_mem_set hn with z|z
 .have:=h ns z;omega
 .subst z;rw[Ah,Bb];refine Nat.add_le_add_right ?_ 1;rw[Cu]
  cases hq:aK[a]? with
  |none=>exact Bg _
  |some ms=>exact h ms (C5 hq)
section
variable{X:Cx}{eC fD iQ:Do}{ir i1 i2:Nat}{fi fc:EL}
def ú(S1:PS X eC (FG (xR [none] (tI X.K fi) (r0 0) (λ_ H Q=>Q true H) (UB LQ)) (r0 ir)))(S2:PS X fD (UA (tI X.K fc) (Um X.K 2 (MC (r0 i1) (MC (r0 i2) Ul))) (UD (AK ir i1 i2) (AK ir i2 i1))))(S3:PS X iQ (UC (FH ir))):FY X [eC,fD,iQ] (uZ ir i1 i2 fi fc):=
 yS (yR S1 (yR S2 (DW S3))) λE U H h_=>by
  refine f7 h_ λY o B H0 V0 Z e r q=>?_;unfold uZ at e
  cases ei:fi Y with
  |none=>rw[ei]at e;cases e
  |some ds=>
  rw[ei]at e;dsimp only at e
  cases ec:fc Y with
  |none=>rw[ec]at e;cases e
  |some ps=>
  rw[ec]at e;dsimp only at e
  cases ep:sU ps with
  |none=>rw[ep]at e;cases e
  |some qs=>
  rw[ep]at e;dsimp only at e;by_cases hok:ET ir i1 i2 Y ds.length qs=true
  .rw[z7 hok]at e;cases e;have hps:=Qy ep;unfold ET at hok;simp only[Bi,decide_eq_true_eq,Eb]at hok;obtain⟨⟨⟨⟨⟨⟨⟨⟨k1,k2⟩,k3⟩,k4⟩,k5⟩,k6⟩,k7⟩,k8⟩,k9⟩:=hok
   have hir:Y[ir]?=some none:=by
    cases hq:Y[ir]? with
    |none=>rw[hq]at k1;cases k1
    |some x=>
     cases x with
     |none=>rfl
     |some c=>rw[hq]at k1;cases k1
   have hlr:ir<Y.length:=(B2.mp hir).1;refine⟨Y,ds,B,H0,V0,Z,ei,r,λJ H1 s1 wk l ce=>?_⟩
   refine⟨λi m U' H' acc=>m=ds.length-i/\i<=ds.length/\∃bs:List Av,acc=bs.map V.ref/\bs.length=i/\H' l=some (.lst acc)/\(∀b∈bs,H1 b=none/\b≠l/\H' b=some (.lst []))/\bs.Nodup/\j8 H1 H',
    ⟨_,rfl,Bg _,[],rfl,rfl,v8,(λb hb=>by cases hb),Eg,u9 ce⟩,?_⟩
   rintro i m U' H' acc ⟨rfl,cu,bs,rfl,hbl,hHl,eV,av,hS⟩;by_cases am:i<ds.length
   .refine .inr ⟨wk.go H' (x8.trans hS) i am,by rw[A0,hbl,Bs];omega,λx H3 hy=>?_⟩
    obtain⟨sH,_⟩:=wk.yld H' (x8.trans hS) i x H3 hy;unfold r0;dsimp only;rw[z7 rfl];refine⟨Bg _,λb hb=>?_⟩
    have nl:b≠l:=λz=>by rw[z,sH _ _ hHl]at hb;cases hb
    have nb:b∉bs:=λz=>by rw[sH _ _ (eV b z).2.2]at hb;cases hb
    have h1b:H1 b=none:=hS.free (sH.free hb);refine⟨by rw[j6 (Ch nl)];exact sH _ _ hHl,ds.length-(i+1),by omega,rfl,am,bs++[b],by rw[B6];rfl,by rw[Ah,hbl];rfl,v8,λc hc=>?_,?_,?_⟩
    .rcases Aw.mp hc with z|z
     .obtain⟨z1,z2,z3⟩:=eV c z;refine⟨z1,z2,?_⟩;have ncb:c≠b:=λw'=>nb (by rw[<-w'];exact z)
      rw[j6 z2,j6 ncb];exact sH _ _ z3
     .rw[Ae.mp z];exact⟨h1b,nl,by rw[j6 nl];exact v8⟩
    .refine Bz.mpr ⟨av,by simp,λa ha c hc=>?_⟩;rw[Ae.mp hc];exact λz=>nb (z▸ha)
    .exact uS ce (uS h1b (hS.trans sH))
   .have ei':bs.length=ds.length:=by omega
    refine .inl ⟨by have:=wk.stop H' (x8.trans hS);rw[show i=ds.length by omega];exact this,?_⟩
    have R1:=r.mono s1;have bL:∀a∈l::bs,H1 a=none:=λa ha=>(Ad.mp ha).elim (λz=>z▸ce) λz=>(eV a z).1;have R2:SR X.K B H0 V0 H' ((l::bs)++Z) (U.set ir (some (.ref l))) Y:=(R1.moreL (l::bs) bL hS λa ha=>(Ad.mp ha).elim (λz=>⟨_,z▸hHl⟩) λz=>⟨_,(eV a z).2.2⟩).skip hir
    have hB:∀a∈l::bs,a∉B/\H0 a=none:=λa ha=>⟨(λz=>by
     obtain⟨u,hu⟩:=R1.zs a (R1.sub a z);rw[bL a ha]at hu
     cases hu),R1.same.free (bL a ha)⟩
    have hlb:l∉bs:=λz=>(eV l z).2.1 rfl;refine⟨Y,ps,B,H0,V0,_,ec,R2,λJ2 H2 s2 wk2=>?_⟩
    refine⟨λi m U' H3=>m=qs.length-i/\i<=qs.length/\U'[ir]?=some (some (.ref l))/\U'.length=Y.length/\H3 l=some (.lst (bs.map V.ref))/\kN H3 bs ((qs.take i).foldl r9 (Bh ds.length []))/\(∀ns∈(qs.take i).foldl r9 (Bh ds.length []),ns.length<=2*i)/\j8 H0 H3/\j8 (K5 (l::bs++Z) H2) (K5 (l::bs++Z) H3)/\(∀z∈l::bs++Z,∃u,H3 z=some u),
     ⟨_,rfl,Bg _,?_,?_,s2 _ _ hHl,?_,?_,R2.same.trans s2,λ_ _ h=>h,λz hz=>let ⟨u,hu⟩:=R2.zs z hz;⟨u,s2 _ _ hu⟩⟩,?_⟩
    .rw[Ck (by rw[R1.len];exact hlr)]
    .rw[Cy];exact R1.len
    .rw[Jb,<-ei'];exact kN.mono s2 (kN.new bs λb hb=>(eV b hb).2.2)
    .rw[Jb];intro ns bQ;rw[(List.mem_replicate.mp bQ).2];exact Bg _
    rintro i m U3 H3 ⟨rfl,hi3,g1,g2,g3,g4,g5,g6,g7,g8⟩
    have plen:ps.length=qs.length:=by rw[hps,A0]
    have vis:j8 (K5 (l::bs++Z) H2) H3:=g7.trans x8;by_cases eP:i<qs.length
    .refine .inr ⟨wk2.go H3 vis i (by omega),λU' H'=>U'[ir]?=some (some (.ref l))/\U'.length=Y.length/\H' l=some (.lst (bs.map V.ref))/\kN H' bs ((qs.take (i+1)).foldl r9 (Bh ds.length []))/\(∀ns∈(qs.take (i+1)).foldl r9 (Bh ds.length []),ns.length<=2*(i+1))/\j8 H0 H'/\j8 (K5 (l::bs++Z) H2) (K5 (l::bs++Z) H')/\(∀z∈l::bs++Z,∃u,H' z=some u),
      λU' H' hh=>⟨qs.length-(i+1),by omega,rfl,eP,hh⟩,λx H4 hy=>?_⟩
     obtain⟨sH,hx⟩:=wk2.yld H3 vis i x H4 hy;have hqi:qs[i]?=some qs[i]:=A4 eP;have hd:=hx (EF qs[i]) (by rw[hps,Am,hqi];rfl) (l::bs++Z) g8 g7
     have hq4:=k4 qs[i] (Cd eP);have htk:qs.take (i+1)=qs.take i++[qs[i]]:=(List.take_append_getElem eP).symm;rw[htk,List.foldl_append];generalize qs[i]=qq at hd hq4;obtain⟨a,b⟩:=qq;dsimp only at hq4;obtain⟨p,xs,rfl,t1,t2⟩:=j5.mp hd;have hxs:xs=[.int (a:Int),.int (b:Int)]:=(Y2 (ns:=[(a:Int),(b:Int)])).mp t2;subst hxs
     have n1:i1<U3.length:=by rw[g2];exact k5
     have n2:i2<U3.length:=by rw[g2];exact k6
     refine⟨p,_,rfl,j9 x8 t1,rfl,_,_,rfl,_,_,rfl,rfl,?_⟩;generalize (qs.take i).foldl r9 (Bh ds.length [])=aK at g4 g5;have hxl:bs.length=aK.length:=g4.len;have g4':=kN.mono sH g4;obtain⟨c1,gA,e1,e2,e3⟩:=g4'.get (j:=a) (by omega);have c1m:c1∈bs:=C5 e1
     have dU:oR aK a b=aK.set a (gA++[(b:Int)]):=by unfold oR;rw[Cu,e2];rfl
     have I2:=kN.upd (ms:=gA++[(b:Int)]) av g4' e1;rw[<-dU]at I2
     have hsz:∀(m:Nat),m<=2*i+1->m<sizeLine:=λm hm=>by rw[Bs];omega
     have l1:gA.length<=2*i:=g5 gA (C5 e2)
     have gs1:((U3.set i1 (some (.int (a:Int)))).set i2 (some (.int (b:Int))))[ir]?=some (some (.ref l)):=by rw[Bc (Ch k8),Bc (Ch k7)];exact g1
     have gs2:((U3.set i1 (some (.int (a:Int)))).set i2 (some (.int (b:Int))))[i1]?=some (some (.int (a:Int))):=by rw[Bc (Ch k9),Ck n1]
     have gs3:((U3.set i1 (some (.int (a:Int)))).set i2 (some (.int (b:Int))))[i2]?=some (some (.int (b:Int))):=by rw[Ck (by rw[Cy];exact n2)]
     have lc1:l≠c1:=λz=>hlb (z▸c1m);refine⟨l,bs,a,c1,gA.map V.int,.int (b:Int),gs1,gs2,gs3,sH _ _ g3,e1,e3,hsz _ (by rw[A0];omega),?_⟩
     have m1:gA.map V.int++[V.int (b:Int)]=(gA++[(b:Int)]).map V.int:=by rw[B6];rfl
     rw[m1];obtain⟨c2,gG,f1,f2,f3⟩:=I2.get (j:=b) (by omega);have c2m:c2∈bs:=C5 f1;have lc2:l≠c2:=λz=>hlb (z▸c2m)
     have fX:oR (oR aK a b) b a=(oR aK a b).set b (gG++[(a:Int)]):=by show (oR aK a b).set b ((oR aK a b).getD b []++[(a:Int)])=_;rw[Cu,f2];rfl
     have I3:=kN.upd (ms:=gG++[(a:Int)]) av I2 f1;rw[<-fX]at I3;have l2:gG.length<=2*i+1:=GP g5 gG (C5 f2);refine⟨l,bs,b,c2,gG.map V.int,.int (a:Int),gs1,gs3,gs2,by rw[j6 lc1];exact sH _ _ g3,f1,f3,hsz _ (by rw[A0];exact l2),?_⟩
     have m2:gG.map V.int++[V.int (a:Int)]=(gG++[(a:Int)]).map V.int:=by rw[B6];rfl
     rw[m2];have jd:∀c∈bs,c∈l::bs++Z:=λc hc=>B7 _ (A7 _ hc);refine⟨gs1,by rw[Cy,Cy];exact g2,by rw[j6 lc2,j6 lc1];exact sH _ _ g3,I3,λns bQ=>?_,uS (hB c2 (A7 _ c2m)).2 (uS (hB c1 (A7 _ c1m)).2 (g6.trans sH)),(g7.trans (x6 sH)).trans ((wJ (jd c1 c1m)).trans (wJ (jd c2 c2m))),λz hz=>?_⟩
     .have:=GP (m:=2*i+1) (GP g5) ns bQ
      omega
     .by_cases q2:z=c2
      .exact⟨_,by rw[q2];exact v8⟩
      .rw[j6 q2];by_cases q1:z=c1
       .exact⟨_,by rw[q1];exact v8⟩
       .rw[j6 q1];obtain⟨u,hu⟩:=g8 z hz;exact⟨u,sH _ _ hu⟩
    .have eq':i=qs.length:=by omega
     subst eq';refine .inl ⟨by have:=wk2.stop H3 vis;rw[plen]at this;exact this,.ref l,g1,?_⟩
     rw[Lu]at g4;refine q (.ref l) H3 g6 (J6.mpr ⟨l,bs.map V.ref,rfl,i5.of ?_,kN.rep (λb hb=>(hB b (A7 _ hb)).1) g4⟩);rw[Q4 (hB l A6).1];exact g3
  .rw[y3 hok]at e;cases e
end
section
variable{X:Cx}
def Xj{i:Nat}{y:Bf}{py aY pos:Hq}(N:List Bf)(cap:List (Option Nat))(hc:X.calm=true)(hi:PI X ae ag wi)(hg:∀cl C fp s H,PG (Y5 X N scope cl C fp s H) ae g)(ht:∀cl C fp s H,r8 (Y5 X N scope cl C fp s H) ba tt)(he:∀cl C fp s H,PE (Y5 X N scope cl C fp s H) bh te)(hN:X.N.Nodup)(eJ:X.N[i]?=some y)(hy:mT X.env.scope y)(hf:X.fn y=true\/X.env.scope.names.lookup y=some .local)(bW:Ej (.ListComp bh [⟨ae,ag,ba,0⟩] scope pos) (some (.Name y py)) aY.line X.env=Cr true)(hok:sR scope X.env.scope N cap X.N=true)(hs:∀x,Cz ag X.env x=Cr x):
  PS X (.Assign [.Name y py] (.ListComp bh [⟨ae,ag,ba,0⟩] scope pos) aY) (FG (xR cap wi g tt te) (r0 i)):=by
 have c:=FJ hok;exact Ro (N:=N) (cap:=cap) (wi:=wi) (g:=g) (tt:=tt) (te:=te) hc hi hg ht he c.kind c.cell c.loc c.fre c.out c.sel c.len hN eJ hy hf bW hs
def Zg{y t x1 x2:Bf}{ir i1 i2 kt:Nat}{py aY pos lp tp q1 q2 qt fpos rpos rp a0 a1 a2 a3 a4 a5 a6 b0 b1 b2 b3 b4 b5 b6:Hq}(hc:X.calm=true)(hp:Mm (B0 X.prog X.w) X.A X.env X.xe)(hi:ZI X (.Name t tp) ag fi)(dm:ZI X (.Tuple [.Name x1 q1,.Name x2 q2] kt qt) iter2 fc)(hN:X.N.Nodup)(eJ:X.N[ir]?=some y:=by rfl)(bI:X.N[i1]?=some x1:=by rfl)(hi2':X.N[i2]?=some x2:=by rfl)(hy:mT X.env.scope y:=by first|exact E8 rfl|exact Db rfl)(h1:mT X.env.scope x1:=by first|exact E8 rfl|exact Db rfl)(h2:mT X.env.scope x2:=by first|exact E8 rfl|exact Db rfl)(hfy:X.fn y=true\/X.env.scope.names.lookup y=some .local:=by first|exact .inl rfl|exact .inr rfl)(hf1:X.fn x1=true\/X.env.scope.names.lookup x1=some .local:=by first|exact .inl rfl|exact .inr rfl)(hf2:X.fn x2=true\/X.env.scope.names.lookup x2=some .local:=by first|exact .inl rfl|exact .inr rfl)(hdy:(y==("__debug__":Bf))=false:=by decide)(hcy:(y==("__classdict__":Bf))=false:=by decide)(hd1:(x1==("__debug__":Bf))=false:=by decide)(hc1:(x1==("__classdict__":Bf))=false:=by decide)(bB:(x2==("__debug__":Bf))=false:=by decide)(aX:(x2==("__classdict__":Bf))=false:=by decide)(hok:sR scope X.env.scope [t] [none] X.N=true:=by rfl)(htl:scope.names.lookup t=some .local:=by rfl)(jz:∀cl C fp s H,mT (Y5 X [t] scope cl C fp s H).env.scope t:=by intros;exact E8 rfl)(bW:Ej (.ListComp (.List [] lp) [⟨.Name t tp,ag,[],0⟩] scope pos) (some (.Name y py)) aY.line X.env=Cr true:=by rfl)(hs:∀x,Cz ag X.env x=Cr x:=by intro _;rfl)(bH:∀x,Cz iter2 X.env x=Cr x:=by intro _;rfl)(hn:(Ef [.Name x1 q1,.Name x2 q2] X.env).length=2:=by rfl)(bX:(Ef [.Name x1 q1,.Name x2 q2] X.env).findIdx? (·.1)=none:=by rfl)(he1:(Ef [.Name x1 q1,.Name x2 q2] X.env).map (·.2)=Md (.Name x1 q1) X.env::(Ef [.Name x2 q2] X.env).map (·.2):=by rfl)(aZ:(Ef [.Name x2 q2] X.env).map (·.2)=Md (.Name x2 q2) X.env::(Ef [] X.env).map (·.2):=by rfl)(A1:PS X (.Expr (.Call (.Attribute (.Subscript (.Name y a0) (.Name x1 a1) a2) "append" a3) [.Name x2 a4] [] a5) a6) (AK ir i1 i2))(A2:PS X (.Expr (.Call (.Attribute (.Subscript (.Name y b0) (.Name x2 b1) b2) "append" b3) [.Name x1 b4] [] b5) b6) (AK ir i2 i1)):ZB X [.Assign [.Name y py] (.ListComp (.List [] lp) [⟨.Name t tp,ag,[],0⟩] scope pos) aY,
   .For (.Tuple [.Name x1 q1,.Name x2 q2] kt qt) iter2 [.Expr (.Call (.Attribute (.Subscript (.Name y a0) (.Name x1 a1) a2) "append" a3) [.Name x2 a4] [] a5) a6,.Expr (.Call (.Attribute (.Subscript (.Name y b0) (.Name x2 b1) b2) "append" b3) [.Name x1 b4] [] b5) b6] [] fpos,
   .Return (some (.Name y rp)) rpos] (uZ ir i1 i2 fi fc):=by
 have hi:=hi.h;have dm:=dm.h;refine⟨?_⟩;have vy:mS X.env.scope y:=hy.elim .inl λz=>.inr (.inl z);refine ú ?_ ?_ (LJ (nN eJ vy hdy hcy))
 .exact Xj [t] [none] hc hi (λcl C fp s H=>DV (by simp) rfl (jz cl C fp s H) (.inl (by show (match scope.names.lookup t with|some .local=>true|some .cell=>true|_=>false)=true;rw[htl]))) (λcl C fp s H=>Sh) (λcl C fp s H=>TK Y8) hN eJ hy hfy bW hok hs
 .exact TN hp hc dm (TL hc (JP (DV hN bI h1 hf1) (JP (DV hN hi2' h2 hf2) Rk aZ) he1) hn bX) (yR A1 (DW A2)) bH
end
abbrev KD:=List d3×List D
def Μ(K:A5)(k:K6->Option KD):TS:=λE U H=>∃Y kd B H0 V0 Z,k Y=some kd/\SR K B H0 V0 H Z U Y/\∀a kvs H',j8 H0 H'->H0 a=none->H' a=some (.dK kvs)->kvs.map (·.1)=kd.1->g9 K (K5 (a::B) H') kd.2 (kvs.map (·.2))->E.rt (.ref a) H'
structure FV(X:Cx)(b:List Do)(k:K6->Option KD):Prop where
 h:m7 X b (Μ X.K k)
def FM(i:Nat):K6->Option KD:=λY=>match Y[i]? with|some (some (.od ks vs))=>some (ks,vs)|_=>none
def AD(g:EO)(k:K6->Option KD):K6->Option KD:=λY=>match g Y with|some (.nx Y')=>k Y'|_=>none
section
variable{X:Cx}
def ώ(i:Nat){x:Bf}(hN:X.N[i]?=some x:=by rfl)(hv:mS X.env.scope x:=by first|exact E8 rfl|exact Db (E8 rfl)|exact Db (Db rfl))(hd:(x==("__debug__":Bf))=false:=by decide)(aT:(x==("__classdict__":Bf))=false:=by decide):FV X [.Return (some (.Name x p)) pos] (FM i):=
 ⟨yS (DW (LJ (pv i hN hv hd aT))) λE U H h_=>by
  refine f7 h_ λY kd B H0 V0 Z e r q=>?_;unfold FM at e;split at e
  .rename_i ks vs hρ;cases e;obtain⟨a,kvs,h1,h2,h3,h4,h5,h6,h7⟩:=r.od i ks vs hρ;exact⟨_,h1,q a kvs H r.same h4 h5 h6 (h7.mono (qJ λb hb=>(Ad.mp hb).elim (λz=>z▸h2) (r.sub b)))⟩
  .cases e⟩
def OJ{st:Do}{rest:List Do}{g:EO}{k:K6->Option KD}(h1:SS X st g)(h2:FV X rest k):FV X (st::rest) (AD g k):=
 ⟨yS (yR h1 h2.h) λE U H h_=>by
  refine f7 h_ λY kd B H0 V0 Z e r q=>?_;unfold AD at e;split at e
  .rename_i Y' eg;exact⟨Y,_,B,H0,V0,Z,eg,r,λU' H' Z' r'=>⟨Y',kd,B,H0,V0,Z',e,r',q⟩⟩
  .cases e⟩
def UE(K:A5)(F:List D->Option KD):Sp:=λvs H Q _=>∃Z ds kd,(TB K H/\∀z∈Z,∃o,H z=some o)/\g9 K (K5 Z H) ds vs/\F ds=some kd/\∀a kvs H',j8 H H'->H a=none->H' a=some (.dK kvs)->kvs.map (·.1)=kd.1->g9 K (K5 (a::Z) H') kd.2 (kvs.map (·.2))->Q (.ref a) H'
def EY(n:Nat)(N:List Bf)(k:K6->Option KD):List D->Option KD:=λds=>if ds.length=n then k (nO N ds) else none
structure NM(P:Bw)(w:Cg)(K:A5)(mg:Bf->Option Aa)(base:Cf)(k:Nat)(x:Bf)(ps:List Bf)(F:List D->Option KD):Prop where
 ex:∃f fd,kJ P w K mg base lY k f fd ps (UE K F)/\mg x=some (.ref f)/\F8 K (.ref f)=true/\tM K fd ps []
def ī{P:Bw}{w:Cg}{K:A5}{mg:Bf->Option Aa}{base:Cf}{x:Bf}{st:Do}{N ps:List Bf}{k n:Nat}{g:K6->Option KD}(G:b8 K mg x st)(S:i7 N ps (v7 st))(hb:∀(kV ay pm:Aa) (an:Option Av) (ak ct:Aa) (us:List Aa),us.length=ps.length->Gk (Dx x x (o5 st) (lX st) (v7 st) .none kV ay pm an ak ct) ⟨us,[]⟩=Cr (ps.zip us))(hn:ps.length=n)
  (ap:∀(f:Av) (ak:Aa) (A:C1) (outer:List Nq) (s:Ai) (H:Hp) (E:XK),d4 k (A.deeper (Jl x (v7 st) s.heap.objs.size f ak)) ->
   FV (nS lY P w K mg base N x (v7 st) f ak A outer s H E).nox (lX st) g):NM P w K mg base (k+1) x ps (EY n N g):=by
 obtain⟨f,fd,G1,G2⟩:=G.ex;refine⟨f,fd,G1.ok S (λvs H Q E h=>?_) λak A outer s H vs Q E hr h=>?_,G2,G1.kp,G1.binds hb⟩
 .obtain⟨Z,ds,d,zs,rr,e,q⟩:=h;unfold EY at e;split at e
  .rename_i hl;rw[<-rr.length,hl,hn]
  .cases e
 .obtain⟨Z,ds,d,zs,rr,e,q⟩:=h;unfold EY at e;split at e
  .exact⟨_,(ap f ak A outer s H E hr).h,nO N ds,d,Z,H,K5 Z H,Z,e,JU zs rr,q⟩
  .cases e
def KQ(F:List D->Option KD)(g:EL):K6->Option KD:=λY=>match g Y with|some ds=>F ds|none=>none
def ύ{e:Expr}{es:List Expr}(G:NM X.prog X.w X.K X.mg X.base j x ps F)(hr:d4 k X.A)(ha:ZA X (e::es) g)(hjk:j<=k:=by decide)(hg:Gl X x:=by rfl)(br:(x==("__debug__":Bf))=false:=by decide)(he:Ab (e::es) X.env=(false,Ce e X.env)::Ab es X.env:=by exact u4 rfl)(af:(C8 pos (Ab es X.env)).any (·.1)=false:=by exact J3 rfl):AW X (.Call (.Name x p) (e::es) [] pos) (KQ F g):=by
 have ha:=ha.h;refine⟨?_⟩;obtain⟨f,fd,h1,h2,h3,h4⟩:=G.ex
 exact j3 (Rh h1 (hr.mono hjk) hg h2 h3 h4 .nil SC ha br he af) λU H Q h_=>by
  refine f7 h_ λY d B H0 V0 Z e r q=>?_;unfold KQ at e;split at e
  .rename_i ds aH;refine⟨Y,ds,B,H0,V0,Z,aH,r,λvs H1 s1 r1=>?_⟩;show UE X.K F (vs++[]) H1 Q E0;rw[Bx];exact⟨Z,ds,d,⟨(r.mono s1).tb,(r.mono s1).zs⟩,r1,e,λa kvs H' s hn ha hk rr=>q a kvs H' (s1.trans s) (s1.free hn) ha hk rr⟩
  .cases e
end
end L3
namespace L3
open PySem PySem.Spec PyProof.Rows L2 PySem.SeqAt
section
variable{prog:Bw}{w:Cg}{A:C1}{E:VP}{s:Ai}
def đ{P:List Aa->Cf->Prop}{Q:VP}(hT:s.TypeIs (.ref I) T)(ah:(Cm T==Cm "tuple")=false)(eU:∀{E':VP} {Q':List Aa->Ai->Prop},(∀us h' tk,P us h'->Q' us { s with heap:=h',toks:=tk })->Ap (B0 prog w) A.in1.in1 (L4 (.ref I)) Q' E' s)(hQ:∀us h' tk,P us h'->us.length<=sizeLine/\Q (.ref h'.objs.size) { s with heap:=h'.push { cls:=.type "tuple",data:=.seq us.toArray },toks:=tk }):
  Ap (B0 prog w) A (call (.type "tuple") [.ref I]) Q E s:=by
 refine callType_codes (Q₁:=λobj s₁=>s₁.TypeIs obj "tuple"/\Q obj s₁) F.called_tuple (F.typeCall_tuple_1 _) F.entry_object_init ?_ λobj s₁ h₁=>⟨h₁.1,F.args_object_init_2 obj _,object_init_meets F.called_tuple.init.lookup F.called_tuple.made (by decide) prog w A.in1 _ s₁ ⟨h₁.1,rfl,h₁.2⟩⟩;refine M9 ?_;show Ap _ A.in1.in1 (do checkBuiltinCall "tuple.__new__" ⟨[.type "tuple",.ref I],[]⟩;Nc (.builtin "tuple.__new__" ⟨[.type "tuple",.ref I],[]⟩)) _ _ s
 refine A3 (Ey (F.newCall_tuple_1 _) (w6 ⟨plainId_quiet F.plain_tuple_new _,codeAny_builtin F.entry_tuple_new ?_⟩));rw[C6 F.plain_tuple_new _];have bY:=sub_tuple_self;have hinit:=init_tuple_lookup;have hmh:=madeHere_tuple
 wp_walk using Iw hT,eU
 intro us h' tk hp;obtain⟨hz,q⟩:=hQ us h' tk hp;show Ap _ _ (E4 us.toArray >>= λv=>ret v) _ _ _;unfold E4;refine A3 (Cb ?_ (by show us.toArray.size<=sizeLine;simpa using hz))
 exact w6 ⟨⟨_,Ar _ rfl,rfl⟩,q⟩
end
section
variable{X:Cx}{p p2 pos az:Hq}{a:Expr}{fa:ED}
def ê:List V->Hp->VK->Prop:=λxs H Q=>∃p,∃j:Int,xs=[.ref p]/\H p=some (.rng 0 j)/\-(2 ^ 62)<=j/\j<=100000/\∀l,H l=none->Q (.ref l) (upd H l (.tup ((i4 0 j.toNat).map V.int)))
def VL(hc:X.calm=true):kT X (.type "tuple") ê:=by
 intro aa s U H xs us Q I r h;obtain⟨p,j,rfl,hp,h1,h2,q⟩:=h;obtain⟨u,rfl,ru⟩:=l9 r;cases ru;obtain⟨t,u,v,ho⟩:=(show kU X.prog X.w H s.heap p (.rng 0 j) from I.hok p _ hp);refine đ (T:="range") (P:=λus h'=>Y7 ((i4 0 j.toNat).map V.int) us/\∀b o,s.heap.get? b=some o->h'.get? b=some o) ⟨_,ho,rfl⟩ (by decide) (λ{E' Q'} q'=>Ql (A:=X.A.in1.in1) (I.ok.hd hc) ho h1 h2 λits h' tk rv k _=>q' its h' tk ⟨rv,k⟩) λits h' tk ⟨rv,k⟩=>?_
 have hl:((i4 0 j.toNat).map V.int).length<=sizeLine:=by unfold i4;rw[A0,A0,At,Bs];omega
 refine⟨by rw[<-rv.length];exact hl,?_⟩
 have I1:a9 X aa U H { s with heap:=h',toks:=tk }:=I.kept k;exact⟨.ref h'.objs.size,_,I1.laid (t':=tk) (λb o e=>A8 _ e) (Aj _) (show kU X.prog X.w _ _ _ (.tup ((i4 0 j.toNat).map V.int)) from ⟨hl,its,rv,pT.new _ _⟩),rfl,q _ (I1.hok.fresh (Aj _))⟩
def wB(f:ED):ED:=λY=>match f Y with|some (.int j)=>if -(2 ^ 62)<=j/\j<=100000 then some (.tup ((i4 0 j.toNat).map D.int)) else none|_=>none
def ě(hc:X.calm=true)(hm:X.mg "tuple" = none)(cA:X.mg "range" = none)(h:ZE X a fa)(hg:Gl X "tuple":=by rfl)(fZ:Gl X "range":=by rfl)(hv:B5 "tuple" = some (.type "tuple"):=by decide +kernel)(eO:B5 "range" = some (.type "range"):=by decide +kernel)(he:Ab [a] X.env=(false,Ce a X.env)::Ab [] X.env:=by exact u4 rfl)(af:(C8 az (Ab [] X.env)).any (·.1)=false:=by exact J3 rfl)(aZ:Ab [.Call (.Name "range" p2) [a] [] az] X.env=(false,Ce (.Call (.Name "range" p2) [a] [] az) X.env)::Ab [] X.env:=by exact u4 rfl)(cb:(C8 pos (Ab [] X.env)).any (·.1)=false:=by exact J3 rfl):ZE X (.Call (.Name "tuple" p) [.Call (.Name "range" p2) [a] [] az] [] pos) (wB fa):=
 ⟨have h:=h.h;
 j3 (pK (VL hc) hg hm hv (J4 (pK GX fZ cA eO (J4 h Y8 he) (by decide) (by decide) he af) Y8 aZ) (by decide) (by decide) aZ cb) λU H Q h_=>by
  refine f7 h_ λY d B H0 V0 Z e r q=>?_;unfold wB at e;split at e
  .rename_i j ej;split at e
   .rename_i hj;cases e;refine⟨Y,_,B,H0,V0,Z,ej,r,λv H' s rr=>?_⟩
    obtain rfl:=v4.mp rr
    refine⟨j,rfl,λp1 dU=>⟨p1,j,rfl,v8,hj.1,hj.2,λl hl=>?_⟩⟩;have s1:=u9 (o:=HO.rng 0 j) dU;have s2:=u9 (o:=HO.tup ((i4 0 j.toNat).map V.int)) hl;refine q _ _ (s.trans (s1.trans s2)) (j5.mpr ⟨l,_,rfl,i8.of ?_,Y2.mpr rfl⟩);rw[Q4 ((r.mono (s.trans s1)).newer hl)];exact v8
   .cases e
  .cases e⟩
end
section
variable{X:Cx}{e:Expr}
def K8(h:ZE X e f):ZQ X e (b9 f):=
 ⟨MV h.h⟩
end
section
variable{X:Cx}{e:Expr}{es:List Expr}{f:ED}{g:EL}{pos:Hq}
def y6:ZA X [] i3:=
 ⟨xF ⟩
def z6(ha:ZE X e f)(hr:ZA X es g)(hs:Ab (e::es) X.env=(false,Ce e X.env)::Ab es X.env:=by exact u4 rfl):ZA X (e::es) (y9 f g):=
 ⟨qF ha.h hr.h hs⟩
end
section
variable{X:Cx}{a b c:Expr}{fa fb fc:ED}{pos:Hq}
def ź{fb:EL}(hu:X.A.units+64<D4)(ha:ZE X a fa)(hb:ZQ X b fb)(hm:Dd .In b=false:=by with_unfolding_all rfl):ZE X (.Compare a [.In] [b] pos) (jX false fa fb):=
 ⟨Ġ hu ha.h hb.h hm⟩
def Ue{fb:EL}(hu:X.A.units+64<D4)(ha:ZE X a fa)(hb:ZQ X b fb)(hm:Dd .In b=false:=by with_unfolding_all rfl):ZT X (.Compare a [.In] [b] pos) (v5 (jX false fa fb)):=
 ⟨SZ hu ha.h hb.h hm⟩
def wG{fb:EL}(hu:X.A.units+64<D4)(ha:ZE X a fa)(hb:ZQ X b fb)(hm:Dd .NotIn b=false:=by with_unfolding_all rfl):ZT X (.Compare a [.NotIn] [b] pos) (v5 (jX true fa fb)):=
 ⟨T1 hu ha.h hb.h hm⟩
def Q3{fa:EL}(ha:ZQ X a fa)(hb:ZE X b fb)(hs:DK b:=by exact λ_ _=>rfl):ZE X (.Subscript a b pos) (jI fa fb):=
 ⟨ġ ha.h hb.h hs⟩
def Ud{lo hi:Option Expr}{p2:Hq}{fl fh:K6->Option (Option Int)}(he:ZE X a fa)(hl:ZO X lo fl)(hh:ZO X hi fh):ZE X (.Subscript a (.Slice lo hi none p2) pos) (sG fa fl fh):=
 ⟨Ģ he.h hl.h hh.h⟩
end
section
variable{X:Cx}{a b e o:Expr}{pos aU p:Hq}{f fa fb:ED}
def yV(hu:X.A.units+64<D4)(ho:ZE X o fa)(hi:ZE X a fb)(hs:AQ a:=by exact λ_ _=>rfl):ZE X (.Subscript o a pos) (nL fa fb):=
 ⟨ò hu ho.h hi.h hs⟩
end
end L3
namespace P
open PySem L2 L3
abbrev dI(i:Int):K6->Option D:=dC (.int i)
abbrev jJ(i:Nat)(j:Int):K6->Option D:=jI (b9 (z9 i)) (dI j)
abbrev vQ:K6->Option Out:=i9 (dC (.bl false))
abbrev jW(i:Nat):K6->Option (List D):=y9 (z9 i) i3
abbrev jQ(i j:Nat):K6->Option (List D):=y9 (z9 i) (y9 (z9 j) i3)
abbrev lG(i j k:Nat):K6->Option (List D):=y9 (z9 i) (y9 (z9 j) (y9 (z9 k) i3))
abbrev ND(i j k l:Nat):K6->Option (List D):=y9 (z9 i) (y9 (z9 j) (y9 (z9 k) (y9 (z9 l) i3)))
abbrev NC(i j k l m:Nat):K6->Option (List D):=y9 (z9 i) (y9 (z9 j) (y9 (z9 k) (y9 (z9 l) (y9 (z9 m) i3))))
def top(i:Nat):Do:=PySem.Challenge.pw_pageties_k07_whole_rows.main.body.getD i (.Pass ⟨0,0,0,0⟩)
abbrev Č:Do:=top 40
abbrev YQ:Do:=top 41
abbrev YR:Do:=top 42
abbrev Wu:Do:=top 2
abbrev Ĉ:Do:=top 32
abbrev Vu:Do:=top 33
abbrev Wq:Do:=top 34
abbrev Qb:Do:=top 6
abbrev YS:Do:=top 7
abbrev V5:Do:=top 30
abbrev Ď:Do:=top 8
abbrev WW:Do:=top 9
abbrev UU:Do:=top 10
abbrev YN:Do:=top 11
abbrev Vx:Do:=top 17
abbrev UX:Do:=top 19
abbrev Wt:Do:=top 20
abbrev Vy:Do:=top 12
abbrev WX:Do:=top 13
abbrev Ċ:Do:=top 14
abbrev WL:Do:=top 21
abbrev Vv:Do:=top 22
abbrev V2:Do:=top 16
abbrev Wr:Do:=top 23
abbrev WM:Do:=top 24
abbrev Vz:Do:=top 25
abbrev YO:Do:=top 26
abbrev V3:Do:=top 27
abbrev U0:Do:=top 18
abbrev WK:Do:=top 28
abbrev WV:Do:=top 31
abbrev WY:Do:=top 35
abbrev V4:Do:=top 36
abbrev ĉ:Do:=top 37
abbrev Ws:Do:=top 38
abbrev ċ:Do:=top 1
abbrev Xu:Do:=top 3
abbrev Vw:Do:=top 44
abbrev č:Do:=top 45
abbrev SY:Do:=top 46
def Uo{α:Type}(p:List α->Prop)(f:∀x0,p [x0]):∀us:List α,us.length=1->p us:=λus h=>match us,h with|[x0],_=>f x0
def Uq{α:Type}(p:List α->Prop)(f:∀x0 x1,p [x0,x1]):∀us:List α,us.length=2->p us:=λus h=>match us,h with|[x0,x1],_=>f x0 x1
def Ur{α:Type}(p:List α->Prop)(f:∀x0 x1 x2,p [x0,x1,x2]):∀us:List α,us.length=3->p us:=λus h=>match us,h with|[x0,x1,x2],_=>f x0 x1 x2
def ϻ{α:Type}(p:List α->Prop)(f:∀x0 x1 x2 x3,p [x0,x1,x2,x3]):∀us:List α,us.length=4->p us:=λus h=>match us,h with|[x0,x1,x2,x3],_=>f x0 x1 x2 x3
def Α{α:Type}(p:List α->Prop)(f:∀x0 x1 x2 x3 x4,p [x0,x1,x2,x3,x4]):∀us:List α,us.length=5->p us:=λus h=>match us,h with|[x0,x1,x2,x3,x4],_=>f x0 x1 x2 x3 x4
def Zr:List Bf:=["_law_script","_law_k"]
def CG:EO:=
 Q8 (jZ (v5 (d2 mZ (z9 1) (jU (b9 (z9 0)))))
 (i9 (jI (b9 (z9 0)) (z9 1)))
 kO)
 (i9 (dI 0))
def CC:LD:=jG 2 Zr CG
def XT:List Bf:=["_law_cell_here","_law_prime","_law_many"]
def Yf:EO:=i9 (d2 n5 (d2 n5 (d2 pV (z9 0) (dI 48271)) (z9 1)) (z9 2))
def o6:LD:=jG 3 XT Yf
def XU:List Bf:=["_law_cell_here","_law_most","_law_ties","_law_many","_law_found","_law_k","_law_one","_law_other","_law_tie"]
def Pg:EO:=
 Q8 (f9 3 (d2 jT (dI 1) (x5 o6 (y9 (z9 0) (y9 (dI 9973) (jW 1))))))
 (Q8 (jZ (pL (v5 (d2 mZ (z9 3) (dI 4))) (v5 (d2 EZ (d2 n5 (z9 0) (dI 4)) (dI 0))))
 (f9 3 (z9 1))
 kO)
 (Q8 (qP 4 (pB i3))
 (Q8 (kW (lB (x5 o6 (y9 (z9 0) (y9 (dI 9967) (y9 (d2 jT (z9 2) (dI 1)) i3))))) (u5 5)
 (Q8 (f9 6 (x5 o6 (y9 (d2 jT (z9 0) (d2 pV (dI 11) (z9 5))) (y9 (dI 9949) (jW 3)))))
 (Q8 (f9 7 (x5 o6 (y9 (d2 jT (d2 jT (z9 0) (d2 pV (dI 13) (z9 5))) (dI 1)) (y9 (dI 9941) (jW 3)))))
 (Q8 (f9 8 (kD (y9 (x5 qW (jQ 6 7)) (y9 (x5 t8 (jQ 6 7)) i3))))
 (jZ (pL (v5 (d2 oS (z9 6) (z9 7))) (v5 (jX true (z9 8) (kX 4))))
 (pU 4 (z9 8))
 kO)))))
 (i9 (kD (y9 (z9 3) (y9 (qQ (pY lR (kX 4))) i3)))))))
def BQ:LD:=jG 3 XU Pg
def Wh:List Bf:=["one","other"]
def Of:EO:=i9 (kD (y9 (x5 qW (jQ 0 1)) (y9 (x5 t8 (jQ 0 1)) i3)))
def DB:LD:=jG 2 Wh Of
def Zn:List Bf:=["web","one","other"]
def PR:EO:=i9 (jX false (x5 DB (jQ 1 2)) (b9 (jJ 0 1)))
def CB:LD:=jG 3 Zn PR
def U9:List Bf:=["web","one","other","rest"]
def Qq:EO:=
 Q8 (f9 3 (kE (W6 [none,some 1,some 2] (lB (jJ 0 0)) (u5 0) (v5 (jX true (z9 0) (b9 (kD (jQ 1 2))))) (z9 0))))
 (i9 (vJ (W6 [none,some 0,some 1,some 2] (b9 (z9 3)) (u5 0) lV (d2 lH (x5 CB (lG 1 2 0)) (x5 CB (lG 1 3 0))))))
def zJ:LD:=jG 3 U9 Qq
def Wd:List Bf:=["web","place"]
def NY:EO:=i9 (tP (W6 [none,some 0,some 1] (lB (jJ 0 0)) (u5 0) (v5 (x5 zJ (lG 1 2 0))) (z9 0)))
def W2:LD:=jG 2 Wd NY
def GG:List Bf:=["row","spots","spot","place"]
def GK:EO:=
 Q8 (pO 1 (λ_=>some ([],[])))
 (Q8 (kW (rZ (z9 0)) (nZ 2 (lN (u5 2) (lN (u5 3) (nY))))
 (mQ 1 (z9 3) (z9 2)))
 (λY=>i9 (z9 1) (frz 1 Y)))
def GE:LD:=jG 1 GG GK
def HB:K6->Option KD:=
 AD (pO 1 (λ_=>some ([],[])))
 (AD (kW (rZ (z9 0)) (nZ 2 (lN (u5 2) (lN (u5 3) (nY))))
 (mQ 1 (z9 3) (z9 2)))
 (FM 1))
def CP:List D->Option KD:=EY 1 GG HB
def XV:List Bf:=["spots","tie"]
def zA:EO:=i9 (x5 DB (y9 (nL (z9 0) (jJ 1 0)) (y9 (nL (z9 0) (jJ 1 1)) i3)))
def wO:LD:=jG 2 XV zA
def VI:List Bf:=["web","begin","spots","behind","place","spans"]
def NS:EO:=
 Q8 (pO 2 (KQ CP (jW 1)))
 (Q8 (f9 3 (jU (b9 (z9 1))))
 (Q8 (kW (lB (jJ 0 0)) (u5 4)
 (oF 2 (z9 4) (z9 3)))
 (Q8 (f9 5 (kE (W6 [none,some 2] (b9 (jJ 0 1)) (u5 0) lV (qO 1 (x5 wO (jQ 1 0))))))
 (i9 (kD (y9 (d2 jT (z9 3) (dI 1)) (y9 (qQ (yZ (W6 [none,some 3] (b9 (z9 5)) (u5 0) (v5 (d2 mZ (jJ 0 0) (z9 1))) (z9 0)))) i3)))))))
def HF:LD:=jG 2 VI NS
def Zs:List Bf:=["web","row","spots"]
def PU:EO:=
 Q8 (f9 2 (x5 GE (jW 1)))
 (i9 (kE (W6 [none,some 2] (b9 (jJ 0 1)) (u5 0) lV (x5 wO (jQ 1 0)))))
def zF:LD:=jG 2 Zs PU
def WO:List Bf:=["one","other","first","second"]
def HZ:EO:=
 Q8 (jZ (sF (v5 (jX false (jJ 0 0) (b9 (z9 1)))) (v5 (jX false (jJ 0 1) (b9 (z9 1)))))
 (i9 (dC (.str "meet")))
 kO)
 (Q8 (f9 2 (x5 LZ (jQ 0 1)))
 (Q8 (f9 3 (x5 LX (jQ 0 1)))
 (Q8 (jZ (v5 (d2 mZ (jJ 2 1) (jJ 3 0)))
 (i9 (dC (.str "apart")))
 kO)
 (i9 (vS (v5 (d2 mZ (jJ 2 1) (jJ 3 1))) (dC (.str "cross")) (dC (.str "within")))))))
def HW:LD:=jG 2 WO HZ
def UN:List Bf:=["one","other","kind"]
def IC:EO:=i9 (d2 lH (x5 HW (jQ 0 1)) (LU [("pile","cross"),("queue","within")] (z9 2)))
def Q7:LD:=jG 3 UN IC
def XS:List Bf:=["web","row","kind","spans","found","one","span","later"]
def Pf:EO:=
 Q8 (f9 3 (x5 zF (jQ 0 1)))
 (Q8 (qP 4 (pB i3))
 (Q8 (kW (rZ (z9 3)) (nZ 2 (lN (u5 5) (lN (u5 6) (nY))))
 (Q8 (f9 7 (kE (W6 [none,some 6,some 3,some 2] (tU (d2 jT (z9 5) (dI 1)) (jU (b9 (z9 3)))) (u5 0) (v5 (x5 Q7 (y9 (z9 1) (y9 (jI (b9 (z9 2)) (z9 0)) (jW 3))))) (z9 0))))
 (qV 4 (W6 [none,some 5] (b9 (z9 7)) (u5 0) lV (kD (jQ 1 0))))))
 (i9 (qQ (kX 4)))))
def yY:LD:=jG 3 XS Pf
def Vc:List Bf:=["web","row","kind","rivals","one","other"]
def Vl:EO:=uZ 3 4 5 (b9 (jJ 0 1)) (b9 (x5 yY (lG 0 1 2)))
def GW:LD:=jG 3 Vc Vl
def UW:List Bf:=["rivals","pages","tie"]
def Op:EO:=i9 (kE (W6 [none,some 1] (b9 (jI (b9 (z9 0)) (z9 2))) (u5 0) (sE (v5 (jX false (z9 0) (b9 (z9 1)))) (v5 (sA false (z9 0) (z9 1)))) (nL (z9 1) (z9 0))))
def J0:LD:=jG 3 UW Op
def Wg:List Bf:=["web","row","rivals","spans","pages","tie","taken"]
def HP:EO:=
 Q8 (f9 3 (x5 zF (jQ 0 1)))
 (Q8 (pO 4 (λ_=>some ([],[])))
 (Q8 (kW (b9 (kE (qB [none,some 3] (Z7 (jU (b9 (z9 3)))) (jI (b9 (z9 1)) (z9 0))))) (u5 5)
 (Q8 (f9 6 (qO 4 (x5 J0 (lG 2 4 5))))
 (mQ 4 (z9 5) (tP (W6 [none,some 6] (lB (d2 jT (jU (b9 (z9 6))) (dI 1))) (u5 0) (v5 (jX true (z9 0) (b9 (z9 1)))) (z9 0))))))
 (λY=>i9 (z9 4) (frz 4 Y))))
def DA:LD:=jG 3 Wg HP
def Vd:List Bf:=["spans","gap","over"]
def HA:EO:=
 Q8 (f9 2 (kE (W6 [none,some 0,some 1] (lB (jU (b9 (z9 0)))) (u5 0) (v5 (vE FA MP (jI (b9 (jI (b9 (z9 1)) (z9 0))) (dI 0)) (z9 2) (jI (b9 (jI (b9 (z9 1)) (z9 0))) (dI 1)))) (z9 0))))
 (i9 (kE (qB [none,some 0] (b9 (z9 2)) (jI (b9 (z9 1)) (z9 0)))))
def CQ:LD:=jG 2 Vd HA
def WP:List Bf:=["spans","ties","kind","chains","tie","before"]
def On:EO:=
 Q8 (qP 3 (pB i3))
 (Q8 (kW (b9 (z9 1)) (u5 4)
 (Q8 (f9 5 (kE (W6 [none,some 0,some 4,some 2] (kX 3) (u5 0) (v5 (x5 Q7 (y9 (jI (b9 (z9 1)) (jI (b9 (z9 0)) (sD (dI 1)))) (y9 (jI (b9 (z9 1)) (z9 2)) (jW 3))))) (z9 0))))
 (pU 3 (d2 jT (zT (b9 (z9 5)) (kD i3)) (kD (jW 4))))))
 (i9 (zT (kX 3) (kD i3))))
def DD:LD:=jG 3 WP On
def Zp:List Bf:=["web","row","kind","spans","found","gap"]
def GJ:EO:=
 Q8 (f9 3 (x5 zF (jQ 0 1)))
 (Q8 (f9 4 (kD i3))
 (Q8 (kW (lB (d2 Sk (jJ 0 0) (dI 1))) (u5 5)
 (f9 4 (d2 wD (z9 4) (x5 DD (y9 (z9 3) (y9 (x5 CQ (jQ 3 5)) (jW 2)))))))
 (i9 (qQ (pY lR (b9 (z9 4)))))))
def zE:LD:=jG 3 Zp GJ
def WC:List Bf:=["rivals","tie","group","reached"]
def HS:EO:=
 Q8 (qP 2 (pB (jW 1)))
 (Q8 (f9 3 (dI 0))
 (Q8 (m8 200 (v5 (d2 mZ (z9 3) (jU (kX 2))))
 (Q8 (qV 2 (W6 [none,some 2] (b9 (jI (b9 (z9 0)) (jI (kX 2) (z9 3)))) (u5 0) (v5 (jX true (z9 0) (kX 1))) (z9 0)))
 (tN 3 (dI 1))))
 (λY=>i9 (z9 2) (frz 2 Y))))
def DC:LD:=jG 2 WC HS
def Va:List Bf:=["rivals","groups","grouped","tie","member"]
def Qr:EO:=
 Q8 (qP 1 (pB i3))
 (Q8 (pO 2 (λ_=>some ([],[])))
 (Q8 (kW (lB (jU (b9 (z9 0)))) (u5 3)
 (jZ (v5 (xI true (z9 3) 2))
 (Q8 (pU 1 (x5 DC (jQ 0 3)))
 (kW (b9 (jI (kX 1) (sD (dI 1)))) (u5 4)
 (mQ 2 (z9 4) (dC (.bl true)))))
 kO))
 (λY=>i9 (z9 1) (frz 1 Y))))
def GU:LD:=jG 1 Va Qr
def VG:List Bf:=["pages"]
def HG:EO:=i9 (DN (b9 (z9 0)))
def J8:LD:=jG 1 VG HG
def We:List Bf:=["rivals","group","pages","left"]
def NZ:EO:=
 Q8 (f9 3 (kE (W6 [none,some 2] (b9 (z9 1)) (u5 0) (sE (v5 (jX true (z9 0) (b9 (z9 1)))) (v5 (sA true (z9 0) (z9 1)))) (z9 0))))
 (i9 (DO [none,some 0,some 2] (b9 (z9 3)) (kD (y9 (x5 J8 (y9 (x5 J0 (lG 1 2 0)) i3)) (y9 (jU (b9 (jI (b9 (z9 1)) (z9 0)))) i3)))))
def HJ:LD:=jG 3 We NZ
def WD:List Bf:=["pages","many"]
def HU:EO:=i9 (kE (Z7 (x5 qW (y9 (z9 1) (y9 (d2 jT (x5 J8 (y9 (kE (xJ (z9 0))) i3)) (dI 1)) i3)))))
def zL:LD:=jG 2 WD HU
def Ve:List Bf:=["pages","tie","page","more"]
def Qs:EO:=
 Q8 (pO 3 (zN (z9 0)))
 (Q8 (mQ 3 (z9 1) (z9 2))
 (λY=>i9 (z9 3) (frz 3 Y)))
def zK:LD:=jG 3 Ve Qs
def OP:List Bf:=["rivals","group","pages","many","tie","taken","page","found"]
def wT(Fr:LD):EO:=
 Q8 (jZ (v5 (d2 lH (uY (z9 2)) (jU (b9 (z9 1)))))
 (i9 (z9 2))
 kO)
 (Q8 (f9 4 (x5 HJ (lG 0 1 2)))
 (Q8 (f9 5 (x5 J0 (lG 0 2 4)))
 (Q8 (kW (b9 (x5 zL (jQ 2 3))) (u5 6)
 (jZ (v5 (jX true (z9 6) (b9 (z9 5))))
 (Q8 (f9 7 (x5 Fr (y9 (z9 0) (y9 (z9 1) (y9 (x5 zK (lG 2 4 6)) (jW 3))))))
 (jZ (v5 (d2 sB (z9 7) (dC .non)))
 (i9 (z9 7))
 kO))
 kO))
 (i9 (dC .non)))))
def W9:Nat->List D->Option D
 | 0=>jG 4 OP (λ_=>none)
 |k+1=>jG 4 OP (wT (W9 k))
def VH:List Bf:=["rivals","many","pages","group","found"]
def HH:EO:=
 Q8 (pO 2 (λ_=>some ([],[])))
 (Q8 (kW (b9 (x5 GU (jW 0))) (u5 3)
 (Q8 (f9 4 (x5 (W9 12) (y9 (z9 0) (y9 (z9 3) (y9 (AV (λ_=>some ([],[]))) (jW 1))))))
 (Q8 (m8 200 (v5 (d2 vR (z9 4) (dC .non)))
 (Q8 (tN 1 (dI 1))
 (f9 4 (x5 (W9 12) (y9 (z9 0) (y9 (z9 3) (y9 (AV (λ_=>some ([],[]))) (jW 1))))))))
 (FC 2 (z9 4)))))
 (λY=>i9 (z9 2) (frz 2 Y)))
def CY:LD:=jG 2 VH HH
def UZ:List Bf:=["pages","numbers","page"]
def Os:EO:=
 Q8 (pO 1 (λ_=>some ([],[])))
 (Q8 (kW (b9 (z9 0)) (u5 2)
 (oF 1 (z9 2) (qO 1 (uY (z9 1)))))
 (λY=>(i9 (qQ (W6 [none,some 1] (b9 (z9 0)) (u5 0) lV (nL (z9 1) (z9 0))))) (frz 1 Y)))
def IE:LD:=jG 1 UZ Os
def WB:List Bf:=["web","row","kind","rivals","pages"]
def HR:EO:=
 Q8 (f9 3 (x5 GW (lG 0 1 2)))
 (Q8 (jZ (v5 (d2 lH (z9 2) (dC (.str "queue"))))
 (f9 4 (x5 DA (lG 0 1 3)))
 (f9 4 (x5 CY (y9 (z9 3) (y9 (jU (b9 (x5 zE (lG 0 1 2)))) i3)))))
 (i9 (x5 IE (y9 (kE (W6 [none,some 4] (lB (jU (b9 (z9 3)))) (u5 0) lV (nL (z9 1) (z9 0)))) i3))))
def K7:LD:=jG 3 WB HR
def WN:List Bf:=["web","kind","many","begin","known"]
def Om:EO:=
 Q8 (f9 4 (x5 HF (jQ 0 3)))
 (i9 (d2 FA (x5 J8 (y9 (x5 K7 (y9 (z9 4) (y9 (wB (jJ 4 0)) (jW 1)))) i3)) (z9 2)))
def zM:LD:=jG 4 WN Om
def WQ:List Bf:=["alike","begin","tried","place","first"]
def IA:EO:=
 Q8 (pO 2 (λ_=>some ([],[])))
 (Q8 (kW (rZ (z9 0)) (nZ 2 (lN (u5 3) (lN (u5 4) (nY))))
 (jZ (v5 (jX true (z9 3) (b9 (z9 1))))
 (oF 2 (z9 4) (z9 3))
 kO))
 (λY=>(i9 (kE (xJ (z9 2)))) (frz 2 Y)))
def DE:LD:=jG 2 WQ IA
def NR:List Bf:=["web","kind","many","alike","begin","place","found"]
def wY(Fr:LD):EO:=
 Q8 (jZ (pM (v5 (x5 zM (ND 0 1 2 4))))
 (i9 (dC .non))
 kO)
 (Q8 (jZ (v5 (d2 lH (jU (b9 (z9 4))) (jJ 0 0)))
 (i9 (z9 4))
 kO)
 (Q8 (kW (b9 (x5 DE (jQ 3 4))) (u5 5)
 (Q8 (f9 6 (x5 Fr (y9 (z9 0) (y9 (z9 1) (y9 (z9 2) (y9 (z9 3) (y9 (d2 jT (z9 4) (kD (jW 5))) i3)))))))
 (jZ (v5 (d2 sB (z9 6) (dC .non)))
 (i9 (z9 6))
 kO)))
 (i9 (dC .non))))
def Q6:Nat->List D->Option D
 | 0=>jG 5 NR (λ_=>none)
 |k+1=>jG 5 NR (wY (Q6 k))
def Zo:List Bf:=["web","kind","begin","alike","many","found"]
def GH:EO:=
 Q8 (f9 2 (vS (v5 (d2 lH (z9 1) (dC (.str "pile")))) (kD (y9 (dI 0) i3)) (kD i3)))
 (Q8 (f9 3 (kE (W6 [none,some 0] (lB (jJ 0 0)) (u5 0) lV (x5 W2 (jQ 1 0)))))
 (Q8 (f9 4 (dI 0))
 (Q8 (f9 5 (x5 (Q6 8) (NC 0 1 4 3 2)))
 (Q8 (m8 200 (v5 (d2 vR (z9 5) (dC .non)))
 (Q8 (tN 4 (dI 1))
 (f9 5 (x5 (Q6 8) (NC 0 1 4 3 2)))))
 (i9 (z9 5))))))
def wV:LD:=jG 2 Zo GH
def Wf:List Bf:=["web","kind"]
def Oe:EO:=i9 (x5 J8 (y9 (x5 K7 (y9 (z9 0) (y9 (x5 wV (jQ 0 1)) (jW 1)))) i3))
def CZ:LD:=jG 2 Wf Oe
def Zq:List Bf:=["thing"]
def ZV:EO:=i9 (vK (vL "int" (z9 0)) (FB (vL "bool" (z9 0))))
def GD:LD:=jG 1 Zq ZV
def ϕ:List Bf:=["web","thing"]
def JN:EO:=
 Q8 (jZ (sF (pM (v5 (vL "tuple" (z9 1)))) (v5 (d2 oS (jU (b9 (z9 1))) (jJ 0 0))))
 vQ
 kO)
 (i9 (vK (vJ (W6 [none] (b9 (z9 1)) (u5 0) lV (x5 GD (jW 0)))) (d2 lH (kE (pY lR (b9 (z9 1)))) (kE (Z7 (jJ 0 0))))))
def BE:LD:=jG 2 ϕ JN
def Vb:List Bf:=["_law_found"]
def Vk:EO:=i9 (vK (vL "int" (z9 0)) (FB (vL "bool" (z9 0))))
def GV:LD:=jG 1 Vb Vk
def PK:List Bf:=["_law_left","_law_found","_law_k","_law_place"]
def CI(Fr:LD):EO:=
 Q8 (jZ (pM (FN (oD (z9 0))))
 (i9 (kE (pB (y9 (kD i3) i3))))
 kO)
 (Q8 (qP 1 (pB i3))
 (Q8 (kW (rZ (z9 0)) (nZ 2 (lN (u5 2) (lN (u5 3) (nY))))
 (qV 1 (W6 [none,some 3] (b9 (x5 Fr (y9 (kE (AC (oD (sG (z9 0) (vM) (tR (z9 2)))) (oD (sG (z9 0) (tR (d2 jT (z9 2) (dI 1))) (vM))))) i3))) (u5 0) lV (d2 jT (kD (jW 1)) (z9 0)))))
 (λY=>i9 (z9 1) (frz 1 Y))))
def rW:Nat->List D->Option D
 | 0=>jG 1 PK (λ_=>none)
 |k+1=>jG 1 PK (CI (rW k))
def Ξ:List Bf:=["_law_script","_law_k","_law_cell_here","_law_web_here","_law_kind","_law_row_here","_law_many","_law_other"]
def Sn:EO:=
 Q8 (kW (lB (dI 2)) (u5 1)
 (Q8 (f9 2 (x5 CC (jQ 0 1)))
 (Q8 (f9 3 (x5 BQ (y9 (z9 2) (y9 (d2 jT (dI 4) (x5 t7 (y9 (d2 lH (d2 n5 (z9 2) (dI 4)) (dI 0)) i3))) (y9 (dI 8) i3)))))
 (kW (b9 (kD (y9 (dC (.str "pile")) (y9 (dC (.str "queue")) i3)))) (u5 4)
 (Q8 (f9 5 (x5 wV (jQ 3 4)))
 (Q8 (f9 6 (x5 CZ (jQ 3 4)))
 (Q8 (jZ (sF (v5 (d2 sB (x5 BE (jQ 3 5)) (dC (.bl true)))) (pM (v5 (x5 GV (jW 6)))))
 vQ
 kO)
 (Q8 (jZ (v5 (d2 oS (x5 J8 (y9 (x5 K7 (lG 3 5 4)) i3)) (z9 6)))
 vQ
 kO)
 (kW (b9 (x5 (rW 8) (y9 (kE (Z7 (jJ 3 0))) i3))) (u5 7)
 (jZ (v5 (d2 mZ (x5 J8 (y9 (x5 K7 (lG 3 7 4)) i3)) (z9 6)))
 vQ
 kO))))))))))
 (i9 (dC (.bl true)))
def xH:LD:=jG 1 Ξ Sn
structure jS(K:A5)(w:Cg)(mg:Bf->Option Aa):Prop where
 d_law_cell:b8 K mg "_law_cell" Č
 d_law_mix:b8 K mg "_law_mix" YQ
 d_law_web:b8 K mg "_law_web" YR
 d_rising_pair:b8 K mg "rising_pair" Wu
 d_are_tied:b8 K mg "are_tied" Ĉ
 d_are_alike:b8 K mg "are_alike" Vu
 d_first_alike:b8 K mg "first_alike" Wq
 d_spots_of:b8 K mg "spots_of" Qb
 d_span_of:b8 K mg "span_of" YS
 d_web_so_far:b8 K mg "web_so_far" V5
 d_spans_of:b8 K mg "spans_of" Ď
 d_how_spans_lie:b8 K mg "how_spans_lie" WW
 d_do_spans_clash:b8 K mg "do_spans_clash" UU
 d_clashes:b8 K mg "clashes" YN
 d_rivals_of:b8 K mg "rivals_of" Vx
 d_taken_by_rivals:b8 K mg "taken_by_rivals" UX
 d_queue_pages:kM K mg "queue_pages" Wt
 d_ties_over:kM K mg "ties_over" Vy
 d_longest_chain:b8 K mg "longest_chain" WX
 d_greatest:b8 K mg "greatest" Ċ
 d_group_around:b8 K mg "group_around" WL
 d_groups_of:b8 K mg "groups_of" Vv
 d_page_count:b8 K mg "page_count" V2
 d_hardest_tie:kM K mg "hardest_tie" Wr
 d_pages_to_try:b8 K mg "pages_to_try" WM
 d_with_page:b8 K mg "with_page" Vz
 d_laid_on:b8 K mg "laid_on" YO
 d_pile_pages:b8 K mg "pile_pages" V3
 d_numbered_as_they_come:b8 K mg "numbered_as_they_come" U0
 d_fewest_pages:b8 K mg "fewest_pages" WK
 d_can_be_within:b8 K mg "can_be_within" WV
 d_places_to_try:b8 K mg "places_to_try" WY
 d_row_within:b8 K mg "row_within" V4
 d_best_row:b8 K mg "best_row" ĉ
 d_least_pages:b8 K mg "least_pages" Ws
 d_is_whole:b8 K mg "is_whole" ċ
 d_is_row:b8 K mg "is_row" Xu
 d_law_whole:b8 K mg "_law_whole" Vw
 d_law_rows:b8 K mg "_law_rows" č
 d_law:b8 K mg "law" SY
 x_bm:oU K mg
 b_all:mg "all" = none
 b_bool:mg "bool" = none
 b_dict:mg "dict" = none
 b_enumerate:mg "enumerate" = none
 b_int:mg "int" = none
 b_isinstance:mg "isinstance" = none
 b_len:mg "len" = none
 b_list:mg "list" = none
 b_max:mg "max" = none
 b_min:mg "min" = none
 b_range:mg "range" = none
 b_set:mg "set" = none
 b_sorted:mg "sorted" = none
 b_tuple:mg "tuple" = none
 x_CLASHING:∃a,mg "CLASHING" = some (.ref a)/\MK K w a [("pile","cross"),("queue","within")]
section
variable{pr:Bw}{w:Cg}{K:A5}{mg:Bf->Option Aa}{base:Cf}{x:Bf}{st:Do}{N ps:List Bf}{k n:Nat}{g:EO}
def jV(G:b8 K mg x st) (ap:∀(f:Av) (ak:Aa) (A:C1) (outer:List Nq) (s:Ai) (H:Hp) (E:XK) (hr:d4 k (A.deeper (Dm x (v7 st) s.heap.objs.size f ak))),(A.deeper (Dm x (v7 st) s.heap.objs.size f ak)).units+64<D4->(A.deeper (Dm x (v7 st) s.heap.objs.size f ak)).units<D4->N.Nodup ->
   ZB (nS lY pr w K mg base N x (v7 st) f ak A outer s H E).nox (lX st) g) (S:i7 N ps (v7 st):=by exact⟨rfl,rfl,rfl,by decide +kernel,rfl,by decide +kernel,by decide +kernel⟩) (hb:∀(kV ay pm:Aa) (an:Option Av) (ak ct:Aa) (us:List Aa),us.length=ps.length->Gk (Dx x x (o5 st) (lX st) (v7 st) .none kV ay pm an ak ct) ⟨us,[]⟩=Cr (ps.zip us):=by first|exact λ_ _ _ _ _ _=>Ur _ λ_ _ _=>rfl|exact λ_ _ _ _ _ _=>Uq _ λ_ _=>rfl|exact λ_ _ _ _ _ _=>Uo _ λ_=>rfl|exact λ_ _ _ _ _ _=>ϻ _ λ_ _ _ _=>rfl|exact λ_ _ _ _ _ _=>Α _ λ_ _ _ _ _=>rfl|exact λ_ _ _ _ _ _=>len6 _ λ_ _ _ _ _ _=>rfl) (hn:ps.length=n:=by rfl):jO pr w K mg base (k+1) x ps (jG n N g):=
 Ī G S hb hn λf ak A outer s H E hr=>ap f ak A outer s H E hr hr.units hr.units0 S.nd
def LR(G:kM K mg x st) (ap:∀(f:Av) (ak:Aa) (A:C1) (outer:List Nq) (s:Ai) (H:Hp) (E:XK),pP K ak x=true->∀(hr:d4 k (A.deeper (Dm x (v7 st) s.heap.objs.size f ak))),(A.deeper (Dm x (v7 st) s.heap.objs.size f ak)).units+64<D4->(A.deeper (Dm x (v7 st) s.heap.objs.size f ak)).units<D4->N.Nodup ->
   ZB (nS lY pr w K mg base N x (v7 st) f ak A outer s H E).nox (lX st) g) (S:i7 N ps (v7 st):=by exact⟨rfl,rfl,rfl,by decide +kernel,rfl,by decide +kernel,by decide +kernel⟩) (hb:∀(kV ay pm:Aa) (an:Option Av) (ak ct:Aa) (us:List Aa),us.length=ps.length->Gk (Dx x x (o5 st) (lX st) (v7 st) .none kV ay pm an ak ct) ⟨us,[]⟩=Cr (ps.zip us):=by first|exact λ_ _ _ _ _ _=>Ur _ λ_ _ _=>rfl|exact λ_ _ _ _ _ _=>Uq _ λ_ _=>rfl) (hn:ps.length=n:=by rfl):jO pr w K mg base (k+1) x ps (jG n N g):=
 Ź G S hb hn λf ak A outer s H E hl hr=>ap f ak A outer s H E hl hr hr.units hr.units0 S.nd
def UM(G:rE K x x st f fd)(S:i7 N ps (v7 st))(hn:ps.length=n) (ap:∀(ak:Aa) (A:C1) (outer:List Nq) (s:Ai) (H:Hp) (E:XK) (hr:d4 k (A.deeper (Dm x (v7 st) s.heap.objs.size f ak))),(A.deeper (Dm x (v7 st) s.heap.objs.size f ak)).units+64<D4->(A.deeper (Dm x (v7 st) s.heap.objs.size f ak)).units<D4->N.Nodup ->
   ZB (nS lY pr w K mg base N x (v7 st) f ak A outer s H E).nox (lX st) g):kJ pr w K mg base lY (k+1) f fd ps (sJ K (jG n N g)):=
 QL G S (λds d e=>by
  unfold jG at e;split at e
  .rename_i h;rw[h,hn]
  .cases e) (λds d e=>by
  unfold jG at e;split at e
  .exact e
  .cases e) λak A outer s H E hr=>(ap ak A outer s H E hr hr.units hr.units0 S.nd).h
def st_mk{od an:Option Av}{sl:Array (Option Aa)}{oc kV dc pm cd ct:Aa}(X:K.In h)(G:h.Ns D5 mg)(a:Iz K D5 x=some (some (.ref f)))(l:K.lookup f=some ⟨oc,od,.func (Dx x x (o5 st) (lX st) (v7 st) .none kV dc pm an cd ct),sl⟩)(c:Iu K cd x=true)(k:F8 K (.ref f)=true):b8 K mg x st:=
 ⟨_,_,Tg l c k,N0 X G a⟩
def stL_mk{od an:Option Av}{sl:Array (Option Aa)}{oc kV dc pm cd ct:Aa}(X:K.In h)(G:h.Ns D5 mg)(a:Iz K D5 x=some (some (.ref f)))(l:K.lookup f=some ⟨oc,od,.func (Dx x x (o5 st) (lX st) (v7 st) .none kV dc pm an cd ct),sl⟩)(c:Iu K cd x=true)(k:F8 K (.ref f)=true)(m:pP K cd x=true):kM K mg x st:=
 ⟨_,_,Tg l c k,N0 X G a,m⟩
end
section
variable{P:Bw}{w:Cg}{K:A5}{mg:Bf->Option Aa}{base:Cf}
def Vq(T:jS K w mg):jO P w K mg base 1 "_law_cell" ["_law_script","_law_k"] CC:=
 jV T.d_law_cell λ_ _ _ _ _ _ _ hr hu aD nd=>y4 (mC (uH aD (a8 1) (nQ T.b_len (K8 (a8 0))))
   (y8 (u3 (Q3 (K8 (a8 0)) (a8 1))))
   mP)
   (y8 (u3 v6))
def CM(T:jS K w mg):jO P w K mg base 1 "_law_mix" ["_law_cell_here","_law_prime","_law_many"] o6:=jV T.d_law_mix λ_ _ _ _ _ _ _ hr hu aD nd=>y8 (u3 (EC (EC (JE (a8 0) v6) (a8 1)) (a8 2)))
def ă(T:jS K w mg):jO P w K mg base 2 "_law_web" ["_law_cell_here","_law_most","_law_ties"] BQ:=
 jV T.d_law_web λ_ _ _ _ _ _ _ hr hu aD nd=>y4 (J9 (i:=3) (nP v6 (u8 (CM T) hr (z6 (a8 0) (z6 v6 (z6 (a8 1) y6))))) nd)
   (y4 (mC (AN (RG (uH aD (a8 3) v6) (OM (ϐ (EC (a8 0) v6) v6))))
   (y8 (J9 (i:=3) (a8 1) nd))
   mP)
   (y4 (wN (i:=4) (uO y6) nd)
   (y4 (mE Br rfl (pJ T.b_range (u8 (CM T) hr (z6 (a8 0) (z6 v6 (z6 (nP (a8 2) v6) y6))))) (v9 (i:=5) nd)
   (y4 (J9 (i:=6) (u8 (CM T) hr (z6 (nP (a8 0) (JE v6 (a8 5))) (z6 v6 (z6 (a8 3) y6)))) nd)
   (y4 (J9 (i:=7) (u8 (CM T) hr (z6 (nP (nP (a8 0) (JE v6 (a8 5))) v6) (z6 v6 (z6 (a8 3) y6)))) nd)
   (y4 (J9 (i:=8) (mW (z6 (JX rfl T.b_min (a8 6) (a8 7)) (z6 (OH rfl T.b_max (a8 6) (a8 7)) y6))) nd)
   (y8 (mC (AN (RG (LN hu (a8 6) (a8 7)) (OM (wG hu (a8 8) (sQ 4)))))
   (y8 (JG (i:=4) (a8 8)))
   mP))))))
   (y8 (u3 (mW (z6 (a8 3) (z6 (zD T.b_tuple (AS (GS T.b_sorted (sQ 4)))) y6))))))))
def Oj(T:jS K w mg):jO P w K mg base 1 "rising_pair" ["one","other"] DB:=jV T.d_rising_pair λ_ _ _ _ _ _ _ hr hu aD nd=>y8 (u3 (mW (z6 (JX rfl T.b_min (a8 0) (a8 1)) (z6 (OH rfl T.b_max (a8 0) (a8 1)) y6))))
def Qv(T:jS K w mg):jO P w K mg base 2 "are_tied" ["web","one","other"] CB:=jV T.d_are_tied λ_ _ _ _ _ _ _ hr hu aD nd=>y8 (u3 (ź hu (u8 (Oj T) hr (z6 (a8 1) (z6 (a8 2) y6))) (K8 (Q3 (K8 (a8 0)) v6))))
def VO(T:jS K w mg):jO P w K mg base 3 "are_alike" ["web","one","other"] zJ:=
 jV T.d_are_alike λ_ _ _ _ _ _ _ hr hu aD nd=>y4 (uU (i:=3) ["place","one","other"] [none,some 1,some 2] rfl (mO (pJ T.b_range (Q3 (K8 (a8 0)) v6))) (λnd _ _ _ _ _=>v9 (i:=0) nd) (λ_ _ _ _ _=>qC (wG hu (a8 0) (K8 (mW (z6 (a8 1) (z6 (a8 2) y6)))))) (λ_ _ _ _ _=>a8 0) nd)
   (y8 (u3 (RD rfl T.b_all (o7 ["place","web","one","other"] [none,some 0,some 1,some 2] rfl (mO (Z3 (a8 3))) (λnd _ _ _ _ _=>v9 (i:=0) nd) (λ_ _ _ _ _=>rJ) (λ_ _ _ _ _=>DI hu (u8 (Qv T) hr (z6 (a8 1) (z6 (a8 2) (z6 (a8 0) y6)))) (u8 (Qv T) hr (z6 (a8 1) (z6 (a8 3) (z6 (a8 0) y6)))))))))
def WG(T:jS K w mg):jO P w K mg base 4 "first_alike" ["web","place"] W2:=jV T.d_first_alike λ_ _ _ _ _ _ _ hr hu aD nd=>y8 (u3 (OI rfl T.b_min (S5 (o7 ["other","web","place"] [none,some 0,some 1] rfl (mO (pJ T.b_range (Q3 (K8 (a8 0)) v6))) (λnd _ _ _ _ _=>v9 (i:=0) nd) (λ_ _ _ _ _=>qC (wH (u8 (VO T) hr (z6 (a8 1) (z6 (a8 2) (z6 (a8 0) y6)))))) (λ_ _ _ _ _=>a8 0)))))
def VV(T:jS K w mg):NM P w K mg base 1 "spots_of" ["row"] CP:=by
 have S:i7 GG ["row"] (v7 Qb):=⟨rfl,rfl,rfl,by decide +kernel,rfl,by decide +kernel,by decide +kernel⟩;have nd:=S.nd
 exact ī T.d_spots_of S (λ_ _ _ _ _ _=>Uo _ λ_=>rfl) rfl λ_ _ _ _ _ _ _ hr=>have hu:=hr.units;have aD:=hr.units0;OJ (rR (i:=1) rQ nd).h
   (OJ (mE Br rfl (yX T.b_enumerate (a8 0)) (yH rfl (qL (v9 (i:=2) nd) (qL (v9 (i:=3) nd) yW)))
   (y8 (yI (i:=1) hu (a8 3) (a8 2)))).h
   (ώ 1))
def Vr(T:jS K w mg):jO P w K mg base 1 "spots_of" ["row"] GE:=
 jV T.d_spots_of λ_ _ _ _ _ _ _ hr hu aD nd=>y4 (rR (i:=1) rQ nd)
   (y4 (mE Br rfl (yX T.b_enumerate (a8 0)) (yH rfl (qL (v9 (i:=2) nd) (qL (v9 (i:=3) nd) yW)))
   (y8 (yI (i:=1) hu (a8 3) (a8 2))))
   (y8 (rN 1 (u3 (a8 1)))))
def P6(T:jS K w mg):jO P w K mg base 2 "span_of" ["spots","tie"] wO:=jV T.d_span_of λ_ _ _ _ _ _ _ hr hu aD nd=>y8 (u3 (u8 (Oj T) hr (z6 (yV hu (a8 0) (Q3 (K8 (a8 1)) v6)) (z6 (yV hu (a8 0) (Q3 (K8 (a8 1)) v6)) y6))))
def Wp(T:jS K w mg):jO P w K mg base 3 "web_so_far" ["web","begin"] HF:=
 jV T.d_web_so_far λ_ _ _ _ _ _ _ hr hu aD nd=>y4 (rR (i:=2) (ύ (VV T) hr (z6 (a8 1) y6)) nd)
   (y4 (J9 (i:=3) (nQ T.b_len (K8 (a8 1))) nd)
   (y4 (mE Br rfl (pJ T.b_range (Q3 (K8 (a8 0)) v6)) (v9 (i:=4) nd)
   (y8 (GT (i:=2) (a8 4) (a8 3))))
   (y4 (uU (i:=5) ["tie","spots"] [none,some 2] rfl (mO (Z3 (Q3 (K8 (a8 0)) v6))) (λnd _ _ _ _ _=>v9 (i:=0) nd) (λ_ _ _ _ _=>rJ) (λ_ _ _ _ _=>JW 1 (u8 (P6 T) hr (z6 (a8 1) (z6 (a8 0) y6)))) nd)
   (y8 (u3 (mW (z6 (nP (a8 3) v6) (z6 (zD T.b_tuple (AS (V9 rfl hu T.b_sorted T.b_set (AS (o7 ["span","behind"] [none,some 3] rfl (mO (Z3 (a8 5))) (λnd _ _ _ _ _=>v9 (i:=0) nd) (λ_ _ _ _ _=>qC (uH aD (Q3 (K8 (a8 0)) v6) (a8 1))) (λ_ _ _ _ _=>a8 0)))))) y6))))))))
def HC(T:jS K w mg):jO P w K mg base 3 "spans_of" ["web","row"] zF:=
 jV T.d_spans_of λ_ _ _ _ _ _ _ hr hu aD nd=>y4 (J9 (i:=2) (u8 (Vr T) hr (z6 (a8 1) y6)) nd)
   (y8 (u3 (oA (o7 ["tie","spots"] [none,some 2] rfl (mO (Z3 (Q3 (K8 (a8 0)) v6))) (λnd _ _ _ _ _=>v9 (i:=0) nd) (λ_ _ _ _ _=>rJ) (λ_ _ _ _ _=>u8 (P6 T) hr (z6 (a8 1) (z6 (a8 0) y6)))))))
def UR(T:jS K w mg):jO P w K mg base 1 "how_spans_lie" ["one","other"] HW:=
 jV T.d_how_spans_lie λ_ _ _ _ _ _ _ hr hu aD nd=>y4 (mC (AN (LO (Ue hu (Q3 (K8 (a8 0)) v6) (K8 (a8 1))) (JK (Ue hu (Q3 (K8 (a8 0)) v6) (K8 (a8 1))))))
   (y8 (u3 s0))
   mP)
   (y4 (J9 (i:=2) (XF rfl hu T.b_min (a8 0) (a8 1)) nd)
   (y4 (J9 (i:=3) (XE rfl hu T.b_max (a8 0) (a8 1)) nd)
   (y4 (mC (uH aD (Q3 (K8 (a8 2)) v6) (Q3 (K8 (a8 3)) v6))
   (y8 (u3 s0))
   mP)
   (y8 (u3 (Uc (uH aD (Q3 (K8 (a8 2)) v6) (Q3 (K8 (a8 3)) v6)) s0 s0))))))
def Oq(T:jS K w mg):jO P w K mg base 2 "do_spans_clash" ["one","other","kind"] Q7:=by obtain⟨fP,cC,cL⟩:=T.x_CLASHING;exact jV T.d_do_spans_clash λ_ _ _ _ _ _ _ hr hu aD nd=>y8 (u3 (DI hu (u8 (UR T) hr (z6 (a8 0) (z6 (a8 1) y6))) (XD cC cL (a8 2))))
def Ă(T:jS K w mg):jO P w K mg base 4 "clashes" ["web","row","kind"] yY:=
 jV T.d_clashes λ_ _ _ _ _ _ _ hr hu aD nd=>y4 (J9 (i:=3) (u8 (HC T) hr (z6 (a8 0) (z6 (a8 1) y6))) nd)
   (y4 (wN (i:=4) (uO y6) nd)
   (y4 (mE Br rfl (yX T.b_enumerate (a8 3)) (yH rfl (qL (v9 (i:=5) nd) (qL (v9 (i:=6) nd) yW)))
   (y4 (uU (i:=7) ["other","span","spans","kind"] [none,some 6,some 3,some 2] rfl (mO (XG T.b_range (nP (a8 5) v6) (nQ T.b_len (K8 (a8 3))))) (λnd _ _ _ _ _=>v9 (i:=0) nd) (λ_ _ _ _ _=>qC (wH (u8 (Oq T) hr (z6 (a8 1) (z6 (Q3 (K8 (a8 2)) (a8 0)) (z6 (a8 3) y6)))))) (λ_ _ _ _ _=>a8 0) nd)
   (y8 (JI (i:=4) (o7 ["other","one"] [none,some 5] rfl (mO (Z3 (a8 7))) (λnd _ _ _ _ _=>v9 (i:=0) nd) (λ_ _ _ _ _=>rJ) (λ_ _ _ _ _=>mW (z6 (a8 1) (z6 (a8 0) y6))))))))
   (y8 (u3 (zD T.b_tuple (sQ 4))))))
def VS(T:jS K w mg):jO P w K mg base 5 "rivals_of" ["web","row","kind"] GW:=jV T.d_rivals_of λ_ _ _ _ _ _ _ hr hu aD nd=>Zg (ir:=3) (i1:=4) (i2:=5) rfl Br (Z3 (Q3 (K8 (a8 0)) v6)) (Z3 (u8 (Ă T) hr (z6 (a8 0) (z6 (a8 1) (z6 (a8 2) y6))))) nd (A1:=(Rp rfl (.inl rfl) (by decide) (by decide) rfl (.inl rfl) (by decide) (by decide) rfl (.inl rfl) (by decide) (by decide))) (A2:=(Rp rfl (.inl rfl) (by decide) (by decide) rfl (.inl rfl) (by decide) (by decide) rfl (.inl rfl) (by decide) (by decide)))
def ID(T:jS K w mg):jO P w K mg base 1 "taken_by_rivals" ["rivals","pages","tie"] J0:=jV T.d_taken_by_rivals λ_ _ _ _ _ _ _ hr hu aD nd=>y8 (u3 (oA (o7 ["rival","pages"] [none,some 1] rfl (mO (Z3 (Q3 (K8 (a8 0)) (a8 2)))) (λnd _ _ _ _ _=>v9 (i:=0) nd) (λ_ _ _ _ _=>qC (ϑ hu (a8 0) (a8 1))) (λ_ _ _ _ _=>yV hu (a8 1) (a8 0)))))
def WJ(T:jS K w mg):jO P w K mg base 4 "queue_pages" ["web","row","rivals"] DA:=
 LR T.d_queue_pages λ_ _ _ _ _ _ _ hl hr hu aD nd=>y4 (J9 (i:=3) (u8 (HC T) hr (z6 (a8 0) (z6 (a8 1) y6))) nd)
   (y4 (rR (i:=4) rQ nd)
   (y4 (mE Br rfl (Z3 (oA (Ĝ (k:=0) ["k","spans"] [none,some 3] rfl T.b_sorted T.b_range T.x_bm hl (hr.mono (by decide)) (nQ T.b_len (K8 (a8 3))) (λ_ _ _ _ _ _ hr=>have hu:=hr.units;have aD:=hr.units0;Q3 (K8 (a8 1)) (a8 0))))) (v9 (i:=5) nd)
   (y4 (J9 (i:=6) (JW 4 (u8 (ID T) hr (z6 (a8 2) (z6 (a8 4) (z6 (a8 5) y6))))) nd)
   (y8 (yI (i:=4) hu (a8 5) (OI rfl T.b_min (S5 (o7 ["page","taken"] [none,some 6] rfl (mO (pJ T.b_range (nP (nQ T.b_len (K8 (a8 6))) v6))) (λnd _ _ _ _ _=>v9 (i:=0) nd) (λ_ _ _ _ _=>qC (wG hu (a8 0) (K8 (a8 1)))) (λ_ _ _ _ _=>a8 0))))))))
   (y8 (rN 4 (u3 (a8 4))))))
def VT(T:jS K w mg):jO P w K mg base 4 "ties_over" ["spans","gap"] CQ:=
 LR T.d_ties_over λ_ _ _ _ _ _ _ hl hr hu aD nd=>y4 (uU (i:=2) ["tie","spans","gap"] [none,some 0,some 1] rfl (mO (pJ T.b_range (nQ T.b_len (K8 (a8 0))))) (λnd _ _ _ _ _=>v9 (i:=0) nd) (λ_ _ _ _ _=>qC (Zh Sw zS Sy zS (Q3 (K8 (Q3 (K8 (a8 1)) (a8 0))) v6) (a8 2) (Q3 (K8 (Q3 (K8 (a8 1)) (a8 0))) v6))) (λ_ _ _ _ _=>a8 0) nd)
   (y8 (u3 (oA (Ze (k:=0) ["tie","spans"] [none,some 0] T.b_sorted T.x_bm hl (hr.mono (by decide)) (K8 (a8 2)) (λ_ _ _ _ _ _ hr=>have hu:=hr.units;have aD:=hr.units0;Q3 (K8 (a8 1)) (a8 0))))))
def US(T:jS K w mg):jO P w K mg base 3 "longest_chain" ["spans","ties","kind"] DD:=
 jV T.d_longest_chain λ_ _ _ _ _ _ _ hr hu aD nd=>y4 (wN (i:=3) (uO y6) nd)
   (y4 (mE Br rfl (Z3 (a8 1)) (v9 (i:=4) nd)
   (y4 (uU (i:=5) ["chain","spans","tie","kind"] [none,some 0,some 4,some 2] rfl (XH 3) (λnd _ _ _ _ _=>v9 (i:=0) nd) (λ_ _ _ _ _=>qC (wH (u8 (Oq T) hr (z6 (Q3 (K8 (a8 1)) (Q3 (K8 (a8 0)) (RE v6))) (z6 (Q3 (K8 (a8 1)) (a8 2)) (z6 (a8 3) y6)))))) (λ_ _ _ _ _=>a8 0) nd)
   (y8 (JG (i:=3) (nP (Qk rfl T.b_max T.b_len (K8 (a8 5)) (mW y6)) (mW (z6 (a8 4) y6)))))))
   (y8 (u3 (Qk rfl T.b_max T.b_len (sQ 3) (mW y6)))))
def Vo(T:jS K w mg):jO P w K mg base 5 "greatest" ["web","row","kind"] zE:=
 jV T.d_greatest λ_ _ _ _ _ _ _ hr hu aD nd=>y4 (J9 (i:=3) (u8 (HC T) hr (z6 (a8 0) (z6 (a8 1) y6))) nd)
   (y4 (J9 (i:=4) (mW y6) nd)
   (y4 (mE Br rfl (pJ T.b_range (ϋ (Q3 (K8 (a8 0)) v6) v6)) (v9 (i:=5) nd)
   (y8 (J9 (i:=4) (VB rfl T.b_max T.b_len (a8 4) (u8 (US T) hr (z6 (a8 3) (z6 (u8 (VT T) hr (z6 (a8 3) (z6 (a8 5) y6))) (z6 (a8 2) y6))))) nd)))
   (y8 (u3 (zD T.b_tuple (AS (GS T.b_sorted (K8 (a8 4)))))))))
def WT(T:jS K w mg):jO P w K mg base 1 "group_around" ["rivals","tie"] DC:=
 jV T.d_group_around λ_ _ _ _ _ _ _ hr hu aD nd=>y4 (wN (i:=2) (uO (z6 (a8 1) y6)) nd)
   (y4 (J9 (i:=3) v6 nd)
   (y4 (GC 200 Br (uH aD (a8 3) (nQ T.b_len (sQ 2)))
   (y4 (JI (i:=2) (o7 ["rival","group"] [none,some 2] rfl (mO (Z3 (Q3 (K8 (a8 0)) (Q3 (sQ 2) (a8 3))))) (λnd _ _ _ _ _=>v9 (i:=0) nd) (λ_ _ _ _ _=>qC (wG hu (a8 0) (sQ 1))) (λ_ _ _ _ _=>a8 0)))
   (y8 (JY (i:=3) v6 nd))))
   (y8 (rN 2 (u3 (a8 2))))))
def VQ(T:jS K w mg):jO P w K mg base 2 "groups_of" ["rivals"] GU:=
 jV T.d_groups_of λ_ _ _ _ _ _ _ hr hu aD nd=>y4 (wN (i:=1) (uO y6) nd)
   (y4 (rR (i:=2) rQ nd)
   (y4 (mE Br rfl (pJ T.b_range (nQ T.b_len (K8 (a8 0)))) (v9 (i:=3) nd)
   (y8 (mC (Zi 2 hu (a8 3))
   (y4 (JG (i:=1) (u8 (WT T) hr (z6 (a8 0) (z6 (a8 3) y6))))
   (y8 (mE Br rfl (Z3 (Q3 (sQ 1) (RE v6))) (v9 (i:=4) nd)
   (y8 (yI (i:=2) hu (a8 4) uG)))))
   mP)))
   (y8 (rN 1 (u3 (a8 1))))))
def wZ(T:jS K w mg):jO P w K mg base 1 "page_count" ["pages"] J8:=jV T.d_page_count λ_ _ _ _ _ _ _ hr hu aD nd=>y8 (u3 (ę rfl T.b_len T.b_set (K8 (a8 0))))
def WH(T:jS K w mg):jO P w K mg base 5 "hardest_tie" ["rivals","group","pages"] HJ:=
 LR T.d_hardest_tie λ_ _ _ _ _ _ _ hl hr hu aD nd=>y4 (uU (i:=3) ["tie","pages"] [none,some 2] rfl (mO (Z3 (a8 1))) (λnd _ _ _ _ _=>v9 (i:=0) nd) (λ_ _ _ _ _=>qC (XJ hu (a8 0) (a8 1))) (λ_ _ _ _ _=>a8 0) nd)
   (y8 (u3 (Ě (k:=1) ["tie","rivals","pages"] [none,some 0,some 2] rfl T.b_max T.x_bm hl (hr.mono (by decide)) (K8 (a8 3)) (λ_ _ _ _ _ _ hr=>have hu:=hr.units;have aD:=hr.units0;mW (z6 (u8 (wZ T) hr (z6 (u8 (ID T) hr (z6 (a8 1) (z6 (a8 2) (z6 (a8 0) y6)))) y6)) (z6 (nQ T.b_len (K8 (Q3 (K8 (a8 1)) (a8 0)))) y6))))))
def WU(T:jS K w mg):jO P w K mg base 2 "pages_to_try" ["pages","many"] zL:=jV T.d_pages_to_try λ_ _ _ _ _ _ _ hr hu aD nd=>y8 (u3 (oA (HE rfl T.b_list T.b_range (JX rfl T.b_min (a8 1) (nP (u8 (wZ T) hr (z6 (oA (NX rfl T.b_list (a8 0))) y6)) v6)))))
def VU(T:jS K w mg):jO P w K mg base 1 "with_page" ["pages","tie","page"] zK:=
 jV T.d_with_page λ_ _ _ _ _ _ _ hr hu aD nd=>y4 (rR (i:=3) (Zf T.b_dict (a8 0)) nd)
   (y4 (yI (i:=3) hu (a8 1) (a8 2))
   (y8 (rN 3 (u3 (a8 3)))))
theorem GN(T:jS K w mg):∀n:Nat,jO P w K mg base (5+1+n) "laid_on" ["rivals","group","pages","many"] (W9 n)
 | 0=>jV (k:=5) T.d_laid_on (λ_ _ _ _ _ _ _ _ _ _ _=>JH)
 |n+1=>by
  have R:=GN T n
  have hj:5<=5+1+n:=by omega
  exact jV (k:=5+1+n) T.d_laid_on λ_ _ _ _ _ _ _ hr hu aD nd=>y4 (mC (DJ hu (OG T.b_len (a8 2)) (nQ T.b_len (K8 (a8 1))))
   (y8 (u3 (a8 2)))
   mP)
   (y4 (J9 (i:=4) (u8 (WH T) hr (z6 (a8 0) (z6 (a8 1) (z6 (a8 2) y6))) (hjk:=by omega)) nd)
   (y4 (J9 (i:=5) (u8 (ID T) hr (z6 (a8 0) (z6 (a8 2) (z6 (a8 4) y6))) (hjk:=by omega)) nd)
   (y4 (mE Br rfl (Z3 (u8 (WU T) hr (z6 (a8 2) (z6 (a8 3) y6)) (hjk:=by omega))) (v9 (i:=6) nd)
   (y8 (mC (wG hu (a8 6) (K8 (a8 5)))
   (y4 (J9 (i:=7) (u8 R hr (z6 (a8 0) (z6 (a8 1) (z6 (u8 (VU T) hr (z6 (a8 2) (z6 (a8 4) (z6 (a8 6) y6))) (hjk:=by omega)) (z6 (a8 3) y6)))) (hjk:=by omega)) nd)
   (y8 (mC (JJ (a8 7) uN)
   (y8 (u3 (a8 7)))
   mP)))
   mP)))
   (y8 (u3 uN)))))
def Wo(T:jS K w mg):jO P w K mg base 19 "pile_pages" ["rivals","many"] CY:=
 jV T.d_pile_pages λ_ _ _ _ _ _ _ hr hu aD nd=>y4 (rR (i:=2) rQ nd)
   (y4 (mE Br rfl (Z3 (u8 (VQ T) hr (z6 (a8 0) y6))) (v9 (i:=3) nd)
   (y4 (J9 (i:=4) (u8 (GN T 12) hr (z6 (a8 0) (z6 (a8 3) (z6 (Ub rQ) (z6 (a8 1) y6))))) nd)
   (y4 (GC 200 Br (Uf (a8 4) uN)
   (y4 (JY (i:=1) v6 nd)
   (y8 (J9 (i:=4) (u8 (GN T 12) hr (z6 (a8 0) (z6 (a8 3) (z6 (Ub rQ) (z6 (a8 1) y6))))) nd))))
   (y8 (Ϗ (i:=2) (a8 4))))))
   (y8 (rN 2 (u3 (a8 2)))))
def U1(T:jS K w mg):jO P w K mg base 1 "numbered_as_they_come" ["pages"] IE:=
 jV T.d_numbered_as_they_come λ_ _ _ _ _ _ _ hr hu aD nd=>y4 (rR (i:=1) rQ nd)
   (y4 (mE Br rfl (Z3 (a8 0)) (v9 (i:=2) nd)
   (y8 (GT (i:=1) (a8 2) (JW 1 (OG T.b_len (a8 1))))))
   (y8 (rN 1 (u3 (zD T.b_tuple (AS (o7 ["page","numbers"] [none,some 1] rfl (mO (Z3 (a8 0))) (λnd _ _ _ _ _=>v9 (i:=0) nd) (λ_ _ _ _ _=>rJ) (λ_ _ _ _ _=>yV hu (a8 1) (a8 0)))))))))
def DF(T:jS K w mg):jO P w K mg base 20 "fewest_pages" ["web","row","kind"] K7:=
 jV T.d_fewest_pages λ_ _ _ _ _ _ _ hr hu aD nd=>y4 (J9 (i:=3) (u8 (VS T) hr (z6 (a8 0) (z6 (a8 1) (z6 (a8 2) y6)))) nd)
   (y4 (mC (DJ hu (a8 2) s0)
   (y8 (J9 (i:=4) (u8 (WJ T) hr (z6 (a8 0) (z6 (a8 1) (z6 (a8 3) y6)))) nd))
   (y8 (J9 (i:=4) (u8 (Wo T) hr (z6 (a8 3) (z6 (nQ T.b_len (K8 (u8 (Vo T) hr (z6 (a8 0) (z6 (a8 1) (z6 (a8 2) y6)))))) y6))) nd)))
   (y8 (u3 (u8 (U1 T) hr (z6 (oA (o7 ["tie","pages"] [none,some 4] rfl (mO (pJ T.b_range (nQ T.b_len (K8 (a8 3))))) (λnd _ _ _ _ _=>v9 (i:=0) nd) (λ_ _ _ _ _=>rJ) (λ_ _ _ _ _=>yV hu (a8 1) (a8 0)))) y6)))))
def UQ(T:jS K w mg):jO P w K mg base 21 "can_be_within" ["web","kind","many","begin"] zM:=
 jV T.d_can_be_within λ_ _ _ _ _ _ _ hr hu aD nd=>y4 (J9 (i:=4) (u8 (Wp T) hr (z6 (a8 0) (z6 (a8 3) y6))) nd)
   (y8 (u3 (ϊ (u8 (wZ T) hr (z6 (u8 (DF T) hr (z6 (a8 4) (z6 (ě rfl T.b_tuple T.b_range (Q3 (K8 (a8 4)) v6)) (z6 (a8 1) y6)))) y6)) (a8 2))))
def UT(T:jS K w mg):jO P w K mg base 1 "places_to_try" ["alike","begin"] DE:=
 jV T.d_places_to_try λ_ _ _ _ _ _ _ hr hu aD nd=>y4 (rR (i:=2) rQ nd)
   (y4 (mE Br rfl (yX T.b_enumerate (a8 0)) (yH rfl (qL (v9 (i:=3) nd) (qL (v9 (i:=4) nd) yW)))
   (y8 (mC (wG hu (a8 3) (K8 (a8 1)))
   (y8 (GT (i:=2) (a8 4) (a8 3)))
   mP)))
   (y8 (rN 2 (u3 (oA (NX rfl T.b_list (a8 2)))))))
theorem HQ(T:jS K w mg):∀n:Nat,jO P w K mg base (21+1+n) "row_within" ["web","kind","many","alike","begin"] (Q6 n)
 | 0=>jV (k:=21) T.d_row_within (λ_ _ _ _ _ _ _ _ _ _ _=>JH)
 |n+1=>by
  have R:=HQ T n
  have hj:21<=21+1+n:=by omega
  exact jV (k:=21+1+n) T.d_row_within λ_ _ _ _ _ _ _ hr hu aD nd=>y4 (mC (EE (wH (u8 (UQ T) hr (z6 (a8 0) (z6 (a8 1) (z6 (a8 2) (z6 (a8 4) y6)))) (hjk:=by omega))))
   (y8 (u3 uN))
   mP)
   (y4 (mC (DJ hu (nQ T.b_len (K8 (a8 4))) (Q3 (K8 (a8 0)) v6))
   (y8 (u3 (a8 4)))
   mP)
   (y4 (mE Br rfl (Z3 (u8 (UT T) hr (z6 (a8 3) (z6 (a8 4) y6)) (hjk:=by omega))) (v9 (i:=5) nd)
   (y4 (J9 (i:=6) (u8 R hr (z6 (a8 0) (z6 (a8 1) (z6 (a8 2) (z6 (a8 3) (z6 (nP (a8 4) (mW (z6 (a8 5) y6))) y6))))) (hjk:=by omega)) nd)
   (y8 (mC (JJ (a8 6) uN)
   (y8 (u3 (a8 6)))
   mP))))
   (y8 (u3 uN))))
def Qw(T:jS K w mg):jO P w K mg base 31 "best_row" ["web","kind"] wV:=
 jV T.d_best_row λ_ _ _ _ _ _ _ hr hu aD nd=>y4 (J9 (i:=2) (Uc (DJ hu (a8 1) s0) (mW (z6 v6 y6)) (mW y6)) nd)
   (y4 (uU (i:=3) ["place","web"] [none,some 0] rfl (mO (pJ T.b_range (Q3 (K8 (a8 0)) v6))) (λnd _ _ _ _ _=>v9 (i:=0) nd) (λ_ _ _ _ _=>rJ) (λ_ _ _ _ _=>u8 (WG T) hr (z6 (a8 1) (z6 (a8 0) y6))) nd)
   (y4 (J9 (i:=4) v6 nd)
   (y4 (J9 (i:=5) (u8 (HQ T 8) hr (z6 (a8 0) (z6 (a8 1) (z6 (a8 4) (z6 (a8 3) (z6 (a8 2) y6)))))) nd)
   (y4 (GC 200 Br (Uf (a8 5) uN)
   (y4 (JY (i:=4) v6 nd)
   (y8 (J9 (i:=5) (u8 (HQ T 8) hr (z6 (a8 0) (z6 (a8 1) (z6 (a8 4) (z6 (a8 3) (z6 (a8 2) y6)))))) nd))))
   (y8 (u3 (a8 5)))))))
def WI(T:jS K w mg):jO P w K mg base 32 "least_pages" ["web","kind"] CZ:=jV T.d_least_pages λ_ _ _ _ _ _ _ hr hu aD nd=>y8 (u3 (u8 (wZ T) hr (z6 (u8 (DF T) hr (z6 (a8 0) (z6 (u8 (Qw T) hr (z6 (a8 0) (z6 (a8 1) y6))) (z6 (a8 1) y6)))) y6)))
def Vp(T:jS K w mg):jO P w K mg base 1 "is_whole" ["thing"] GD:=jV T.d_is_whole λ_ _ _ _ _ _ _ hr hu aD nd=>y8 (u3 (JD (yG QR T.b_isinstance T.b_int (a8 0) (by decide +kernel)) (JF (RF (yG RW T.b_isinstance T.b_bool (a8 0) (by decide +kernel))))))
def YC(T:jS K w mg):jO P w K mg base 2 "is_row" ["web","thing"] BE:=
 jV T.d_is_row λ_ _ _ _ _ _ _ hr hu aD nd=>y4 (mC (AN (LO (EE (wH (yG Yo T.b_isinstance T.b_tuple (a8 1) (by decide +kernel)))) (JK (LN hu (nQ T.b_len (K8 (a8 1))) (Q3 (K8 (a8 0)) v6)))))
   (y8 (u3 uG))
   mP)
   (y8 (u3 (JD (RD rfl T.b_all (o7 ["place"] [none] rfl (mO (Z3 (a8 1))) (λnd _ _ _ _ _=>v9 (i:=0) nd) (λ_ _ _ _ _=>rJ) (λ_ _ _ _ _=>u8 (Vp T) hr (z6 (a8 0) y6)))) (JF (DI hu (oA (GS T.b_sorted (K8 (a8 1)))) (oA (HE rfl T.b_list T.b_range (Q3 (K8 (a8 0)) v6))))))))
def VR(T:jS K w mg):jO P w K mg base 1 "_law_whole" ["_law_found"] GV:=jV T.d_law_whole λ_ _ _ _ _ _ _ hr hu aD nd=>y8 (u3 (JD (yG QR T.b_isinstance T.b_int (a8 0) (by decide +kernel)) (JF (RF (yG RW T.b_isinstance T.b_bool (a8 0) (by decide +kernel))))))
theorem Qx(T:jS K w mg):∀n:Nat,jO P w K mg base (0+1+n) "_law_rows" ["_law_left"] (rW n)
 | 0=>jV (k:=0) T.d_law_rows (λ_ _ _ _ _ _ _ _ _ _ _=>JH)
 |n+1=>by
  have R:=Qx T n
  have hj:0<=0+1+n:=by omega
  exact jV (k:=0+1+n) T.d_law_rows λ_ _ _ _ _ _ _ hr hu aD nd=>y4 (mC (EE (XI (LM (a8 0))))
   (y8 (u3 (oA (uO (z6 (mW y6) y6)))))
   mP)
   (y4 (wN (i:=1) (uO y6) nd)
   (y4 (mE Br rfl (yX T.b_enumerate (a8 0)) (yH rfl (qL (v9 (i:=2) nd) (qL (v9 (i:=3) nd) yW)))
   (y8 (JI (i:=1) (o7 ["_law_row_here","_law_place"] [none,some 3] rfl (mO (Z3 (u8 R hr (z6 (oA (ό (LM (Ud (a8 0) OK (OL (a8 2)))) (LM (Ud (a8 0) (OL (nP (a8 2) v6)) OK)))) y6) (hjk:=by omega)))) (λnd _ _ _ _ _=>v9 (i:=0) nd) (λ_ _ _ _ _=>rJ) (λ_ _ _ _ _=>nP (mW (z6 (a8 1) y6)) (a8 0))))))
   (y8 (rN 1 (u3 (a8 1))))))
def Ń(T:jS K w mg)(G:rE K "law" "law" SY f fd):kJ P w K mg base lY 33 f fd ["_law_script"] (sJ K xH):=
 UM (k:=32) G ⟨rfl,rfl,rfl,by decide +kernel,rfl,by decide +kernel,by decide +kernel⟩ rfl λ_ _ _ _ _ _ hr hu aD nd=>y4 (mE Br rfl (pJ T.b_range v6) (v9 (i:=1) nd)
   (y4 (J9 (i:=2) (u8 (Vq T) hr (z6 (a8 0) (z6 (a8 1) y6))) nd)
   (y4 (J9 (i:=3) (u8 (ă T) hr (z6 (a8 2) (z6 (nP v6 (Zd T.b_int (DI hu (EC (a8 2) v6) v6))) (z6 v6 y6)))) nd)
   (y8 (mE Br rfl (Z3 (mW (z6 s0 (z6 s0 y6)))) (v9 (i:=4) nd)
   (y4 (J9 (i:=5) (u8 (Qw T) hr (z6 (a8 3) (z6 (a8 4) y6))) nd)
   (y4 (J9 (i:=6) (u8 (WI T) hr (z6 (a8 3) (z6 (a8 4) y6))) nd)
   (y4 (mC (AN (LO (JJ (u8 (YC T) hr (z6 (a8 3) (z6 (a8 5) y6))) uG) (JK (EE (wH (u8 (VR T) hr (z6 (a8 6) y6)))))))
   (y8 (u3 uG))
   mP)
   (y4 (mC (LN hu (u8 (wZ T) hr (z6 (u8 (DF T) hr (z6 (a8 3) (z6 (a8 5) (z6 (a8 4) y6)))) y6)) (a8 6))
   (y8 (u3 uG))
   mP)
   (y8 (mE Br rfl (Z3 (u8 (Qx T 8) hr (z6 (oA (HE rfl T.b_list T.b_range (Q3 (K8 (a8 3)) v6))) y6))) (v9 (i:=7) nd)
   (y8 (mC (uH aD (u8 (wZ T) hr (z6 (u8 (DF T) hr (z6 (a8 3) (z6 (a8 7) (z6 (a8 4) y6)))) y6)) (a8 6))
   (y8 (u3 uG))
   mP)))))))))))))
   (y8 (u3 uG))
end
def all_mk{l:Mc}{mg:Bf->Option Aa}(hfa:mg "law" = some (.ref fa))(T:jS K w mg):
  ∃fd:Gu,(∀(s:Ai) (v:Aa),Nd s fd ⟨[v],[]⟩ [("_law_script",v)])/\∀base:Cf,K.In base->base.Ns D5 mg->kJ l.prog w K mg base lY 33 fa fd ["_law_script"] (sJ K xH):=by
 obtain⟨f,fd,G,e⟩:=T.d_law.ex;cases hfa.symm.trans e;have G':=G;obtain⟨oc,od,kV,ay,pm,an,ak,ct,dN,rfl,lk,aT⟩:=G.ex;exact⟨_,λs v=>.of_eq rfl,λbase _ _=>Ń T G'⟩
def tb_CLASHING{w:Cg}{K:A5}{t0 t1:Tok}(X:K.In h)(G:h.Ns D5 mg)(x:Iz K D5 "CLASHING" = some (some (.ref ta)))(y:K.lookup ta=some ⟨.type "dict",none,.dict te tn,#[]⟩)(k:PySem.W.KeysLit w.params te.toList)(v0:Iz K ta "pile" = some (some (.str "cross" t0)))(v1:Iz K ta "queue" = some (some (.str "within" t1))):∃a,mg "CLASHING" = some (.ref a)/\MK K w a [("pile","cross"),("queue","within")]:=
 ⟨_,N0 X G x,_,_,y,k,by
  intro kv hkv;simp only[Ad,Dk,or_false]at hkv;rcases hkv with rfl|rfl
  .exact⟨_,v0⟩
  .exact⟨_,v1⟩⟩
def walk{l:Mc}{q:Bw}{YP:Cg->Cf->Prop}{d:DefRec}{K:Params->A5}(hn:l.most=some 63)(iU:d.params.defaults=[])(hY:∀(w:Cg) (h:Cf),YP w h->(K w.params).In h)(hT:∀(w:Cg) (h:Cf),YP w h->∀P q,([(130,"hardest_tie"),(113,"queue_pages"),(74,"ties_over")]:List (Av×Bf)).lookup P=some q->h.get? P=some { cls:=.none,data:=.fields #[] })(hK:∀w:Cg,uF (K w.params) [(130,"hardest_tie"),(113,"queue_pages"),(74,"ties_over")]=true)(hlaw:∀ns:List Int,ns.length<=63->xH [.lst (ns.map D.int)]=some (.bl true))
  (F:∀(w:Cg) (mg:Bf->Option Aa) (fa:Av) (h:Cf),(K w.params).In h->h.Ns D5 mg->mg d.name=some (.ref fa) ->
   ∃fd:Gu,(∀(s:Ai) (u:Aa),Nd s fd ⟨[u],[]⟩ [("_law_script",u)])/\∀base:Cf,(K w.params).In base->base.Ns D5 mg->kJ l.prog w (K w.params) mg base lY 33 fa fd ["_law_script"] (sJ (K w.params) xH)):
  PySem.W.WalkO q loose XP YP l.row.toRowW d [] (λf vs=>O5 f vs):=
 XA (n:=63) (k:=33) (x:="_law_script") (sp:=λw=>sJ (K w.params) xH) [(130,"hardest_tie"),(113,"queue_pages"),(74,"ties_over")] hn (by decide) iU ⟨rfl,by decide,by decide,rfl⟩ hY hT hK F (λw H a ns hl tb hS=>
  ⟨[],[.lst (ns.map D.int)],.bl true,⟨tb,λz hz=>w9 hz (by simp)⟩,g9.one (J6.mpr ⟨a,ns.map V.int,rfl,by rw[Ϧ];exact hS,Y2.mpr rfl⟩),hlaw ns hl,λv H' _ hv=>K4.mp hv⟩)
end P
namespace L3
open PySem L2
section
variable{Y Y':K6}{d e:D}{a b:Bool}{fa fb fc:ED}{ga gb:EB}{g k:EO}{fl gl:EL}{i:Nat}{o:Option Out}
def w8(h:g Y=some (.nx Y'))(h2:k Y'=o):Q8 g k Y=o:=by unfold Q8;rw[h];exact h2
def rK(h:g Y=some (.rt d)):Q8 g k Y=some (.rt d):=by unfold Q8;rw[h]
def mX{x:Option Out}{v:D}(h:x=some (.rt v)):kY x=some v:=by rw[h];rfl
def lJ(h:fa Y=some d):i9 fa Y=some (.rt d):=by unfold i9;rw[h]
def Q0(h:fa Y=some d):f9 i fa Y=some (.nx (Y.set i (sC d))):=by unfold f9;rw[h]
def zV{ds:List D}(h:fl Y=some ds):qP i fl Y=some (.nx (Y.set i (some (.ow ds)))):=by unfold qP;rw[h]
def Y9(h:ga Y=some a):jZ ga g k Y=if a=true then g Y else k Y:=by unfold jZ;rw[h];cases a<;>rfl
theorem ĳ(h:fa Y=some (.bl a))(h2:a=true->fb Y=some (.bl b)):vK fa fb Y=some (.bl (a&&b)):=by
 unfold vK;rw[h];cases a with
 |true=>exact h2 rfl
 |false=>rfl
def J7(h:fa Y=some (.bl a)):v5 fa Y=some a:=by unfold v5;rw[h]
theorem QJ(h:ga Y=some a)(h2:a=true->gb Y=some b):pL ga gb Y=some (a&&b):=by
 unfold pL;rw[h];cases a with
 |true=>exact h2 rfl
 |false=>rfl
theorem KY(h:ga Y=some a)(h2:a=false->gb Y=some b):sF ga gb Y=some (a||b):=by
 unfold sF;rw[h];cases a with
 |true=>rfl
 |false=>exact h2 rfl
def IL(h:ga Y=some a):pM ga Y=some (!a):=by unfold pM;rw[h];rfl
def Sl(h:ga Y=some a):vS ga fa fb Y=if a=true then fa Y else fb Y:=by unfold vS;rw[h];cases a<;>rfl
def kK{x y:D}(h:fa Y=some x)(h2:fb Y=some y):d2 f fa fb Y=f x y:=by unfold d2;rw[h,h2]
theorem Ϣ{f f':D->D->Option D}{x y z:D}(h:fa Y=some x)(h2:fb Y=some y)(h3:f x y=some (.bl a))(h4:a=true->fc Y=some z)(h5:a=true->f' y z=some (.bl b)):vE f f' fa fb fc Y=some (.bl (a&&b)):=by
 unfold vE;rw[h,h2];dsimp only;rw[h3];cases a with
 |true=>dsimp only;rw[h4 rfl];exact h5 rfl
 |false=>rfl
def u7{ds:List D}(h:fa Y=some d)(h2:fl Y=some ds):y9 fa fl Y=some (d::ds):=by unfold y9;rw[h,h2]
def x9{ds:List D}(h:fl Y=some ds):x5 F fl Y=F ds:=by unfold x5;rw[h]
def oZ{ds:List D}(h:fl Y=some ds)(h2:ds.length<=d9):kD fl Y=some (.tup ds):=by unfold kD;rw[h];dsimp only;rw[z7 h2]
def EK{ds:List D}(h:fl Y=some ds)(h2:ds.length<=d9):pB fl Y=some ds:=by unfold pB;rw[h];dsimp only;rw[z7 h2]
def mU{ds:List D}(h:fl Y=some ds):kE fl Y=some (.lst ds):=by unfold kE;rw[h];rfl
def oY{ds:List D}(h:fl Y=some ds):jU fl Y=some (.int ds.length):=by unfold jU;rw[h];rfl
def zW{ds:List D}(h:fl Y=some ds):qQ fl Y=some (.tup ds):=by unfold qQ;rw[h];rfl
def Td{ds:List D}{bs:List Bool}(h:fl Y=some ds)(h2:nX ds=some bs):vJ fl Y=some (.bl (bs.all id)):=by unfold vJ;rw[h];dsimp only;rw[h2]
def vF(h:fa Y=some (.tup ds)):b9 fa Y=some ds:=by unfold b9;rw[h]
def m9(h:fa Y=some (.lst ds)):b9 fa Y=some ds:=by unfold b9;rw[h]
def nD{ds:List D}(h:fl Y=some ds)(h2:fa Y=some (.int j)):jI fl fa Y=l6 ds j:=by unfold jI;rw[h,h2]
def LW{ds:List D}(h:fl Y=some ds):pY F fl Y=F ds:=by unfold pY;rw[h]
def vB{ds:List D}(h:fa Y=some d)(h2:fl Y=some ds)(h3:lO ds<=jP)(h4:depth d<=jP):jX neg fa fl Y=some (.bl (if neg=true then !mI d ds else mI d ds)):=by unfold jX;rw[h,h2];dsimp only;rw[z7 ⟨h3,h4⟩]
def KS{ds:List D}(h:kX i Y=some ds)(h2:fa Y=some d)(h3:ds.length<d9):pU i fa Y=some (.nx (Y.set i (some (.ow (ds++[d]))))):=by unfold pU;rw[h,h2];dsimp only;rw[z7 h3]
def KU{ds es:List D}(h:kX i Y=some ds)(h2:fl Y=some es)(h3:ds.length+es.length<=d9):qV i fl Y=some (.nx (Y.set i (some (.ow (ds++es))))):=by unfold qV;rw[h,h2];dsimp only;rw[z7 h3]
def lZ{ds:List D}(e:fl Y=some ds):kW fl h g Y=W5 h g ds Y:=by unfold kW;rw[e]
def mD{ds:List D}(e:fl Y=some ds)(hl:ds.length<=d9):W6 cap fl h ga fa Y=oC h ga fa (nF cap Y) ds:=by unfold W6;rw[e];dsimp only;rw[z7 hl]
def zU(h:fa Y=some (.int j))(h2:mY j=true):lB fa Y=some (Q2 0 j.toNat):=by unfold lB;rw[h];dsimp only;rw[z7 h2]
def Ä{i j:Int}(h:fa Y=some (.int i))(h':fb Y=some (.int j))(h1:mY i=true)(h2:mY j=true):tU fa fb Y=some (Q2 i (j-i).toNat):=by unfold tU;rw[h,h'];dsimp only;rw[z7 ⟨h1,h2⟩]
def CF(h:fa Y=some (.int j))(h1 : -(2 ^ 62)<=j)(h2:j<=100000):Z7 fa Y=some ((i4 0 j.toNat).map D.int):=by unfold Z7;rw[h];dsimp only;rw[z7 ⟨h1,h2⟩]
end
theorem qM{h:D->K6->Option K6}{fe:ED}(I:K6->Prop)(y:D->D):∀(ds:List D) (Y:K6),I Y->(∀d∈ds,∀Y,I Y->∃Y1,h d Y=some Y1/\I Y1/\fe Y1=some (y d))->oC h lV fe Y ds=some (ds.map y)
 | [],_,_,_=>rfl
 |d::ds,Y,hI,hs=>by obtain⟨Y1,e1,I1,e2⟩:=hs d A6 Y hI;unfold oC;rw[e1];dsimp only[lV];rw[e2];dsimp only;rw[qM I y ds Y1 I1 λd hd=>hs d (A7 _ hd)];rfl
theorem Q5{h:D->K6->Option K6}{ft:EB}{fe:ED}(I:K6->Prop)(t:D->Bool)(y:D->D):∀(ds:List D) (Y:K6),I Y->(∀d∈ds,∀Y,I Y->∃Y1,h d Y=some Y1/\I Y1/\ft Y1=some (t d)/\(t d=true->fe Y1=some (y d)))->oC h ft fe Y ds=some ((ds.filter t).map y)
 | [],_,_,_=>rfl
 |d::ds,Y,hI,hs=>by
  obtain⟨Y1,e1,I1,e2,e3⟩:=hs d A6 Y hI;have ih:=Q5 I t y ds Y1 I1 λd hd=>hs d (A7 _ hd);unfold oC;rw[e1];dsimp only;rw[e2]
  cases ht:t d with
  |true=>dsimp only;rw[e3 ht,List.filter_cons_of_pos ht];dsimp only;rw[ih];rfl
  |false=>
   dsimp only;rw[List.filter_cons_of_neg (by rw[ht];simp)]
   exact ih
theorem Ra{h:D->K6->Option K6}{g:EO}(I:List D->K6->Prop){all:List D}(hs:∀pre d post Y,pre++d::post=all->I pre Y->∃Y1 Y2,h d Y=some Y1/\(g Y1=some (.nx Y2)\/g Y1=some (.ct Y2))/\I (pre++[d]) Y2):
  ∀(ds pre:List D) (Y:K6),pre++ds=all->I pre Y->∃Y',W5 h g ds Y=some (.nx Y')/\I all Y'
 | [],pre,Y,e,hI=>⟨Y,rfl,by rw[<-e,Bx];exact hI⟩
 |d::ds,pre,Y,e,hI=>by
  obtain⟨Y1,Y2,e1,e2,I2⟩:=hs pre d ds Y e hI;obtain⟨Y',e3,I3⟩:=Ra I hs ds (pre++[d]) Y2 (by rw[<-e];simp) I2
  refine⟨Y',?_,I3⟩;unfold W5;rw[e1];dsimp only;rcases e2 with e2|e2<;>(rw[e2];exact e3)
def yN{h:D->K6->Option K6}{g:EO}(I:List D->K6->Prop){ds:List D}(h0:I [] Y)(hs:∀pre d post Y,pre++d::post=ds->I pre Y->∃Y1 Y2,h d Y=some Y1/\(g Y1=some (.nx Y2)\/g Y1=some (.ct Y2))/\I (pre++[d]) Y2):
  ∃Y',W5 h g ds Y=some (.nx Y')/\I ds Y':=Ra I hs ds [] Y rfl h0
def ϭ{h:D->K6->Option K6}{g:EO}(I:K6->Prop){ds:List D}(h0:I Y)(hs:∀d∈ds,∀Y,I Y->∃Y1 Y2,h d Y=some Y1/\(g Y1=some (.nx Y2)\/g Y1=some (.ct Y2))/\I Y2):
  ∃Y',W5 h g ds Y=some (.nx Y')/\I Y':=yN (λ_ Y=>I Y) h0 λpre d post Y e hI=>hs d (by rw[<-e];simp) Y hI
end L3
namespace P
open PySem L2 L3
def KA{n k:Nat}(h:k<n):(Q2 0 n)[k]?=some (.int (k:Int)):=by unfold Q2;rw[Am,Dl h];simp
def rS(lo:Int)(n:Nat):(Q2 lo n).length=n:=by unfold Q2;simp
def X8{d:D}(h:d∈Q2 0 n):∃k:Nat,k<n/\d = .int (k:Int):=by unfold Q2 at h;obtain⟨k,hk,rfl⟩:=Ak.mp h;exact⟨k,Ag.mp hk,by simp⟩
def nB(c p m:Int):Int:=c*48271 % p % m
def ŉ(c:Int)(h:uM k=true):pV (.int c) (.int k)=some (.int (c*k)):=by unfold pV FK vP;dsimp only;rw[z7 (by rw[h,Bool.or_true])]
def Ð(c:Int)(h:uM k=true):pV (.int k) (.int c)=some (.int (k*c)):=by unfold pV FK vP;dsimp only;rw[z7 (by rw[h,Nj])]
def ES(c:Int){k:Int}(h:0<k):n5 (.int c) (.int k)=some (.int (c % k)):=by unfold n5 vP;dsimp only;rw[z7 (K9 h)]
def CW(c:Int){p m:Int}(hp:0<p)(hm:0<m):o6 [.int c,.int p,.int m]=some (.int (nB c p m)):=by
 show kY (i9 _ _)=_;rw[lJ (d:=.int (nB c p m))]
 .rfl
 .exact(kK (x:=.int (c*48271 % p)) (y:=.int m) ((kK (x:=.int (c*48271)) (y:=.int p) ((kK (x:=.int c) (y:=.int 48271) rfl rfl).trans (ŉ c (by decide))) rfl).trans (ES _ hp)) rfl).trans (ES _ hm)
def ER(c p:Int){m:Int}(h:0<m):0<=nB c p m:=Int.emod_nonneg _ (by omega)
def EQ(c p:Int){m:Int}(h:0<m):nB c p m<m:=Int.emod_lt_of_pos _ h
abbrev c9:=Int×Int
def j4(t:c9):D:=.tup [.int t.1,.int t.2]
def ž(s t:c9):jY (j4 s) (j4 t)=decide (s=t):=by
 show (s.1==t.1&&(s.2==t.2&&true))=_;rw[Bool.and_true];obtain⟨a,b⟩:=s;obtain⟨c,d⟩:=t;by_cases h1:a=c
 .by_cases h2:b=d
  .subst h1 h2;simp
  .have:¬((a,b)=(c,d)):=λz=>h2 (Jx z).2
   rw[Y1 this];simp[h2]
 .have:¬((a,b)=(c,d)):=λz=>h1 (Jx z).1
  rw[Y1 this];simp[h1]
theorem IP(t:c9):∀ts:List c9,mI (j4 t) (ts.map j4)=decide (t∈ts)
 | []=>by simp[mI]
 |s::ts=>by
  have ih:=IP t ts;unfold mI at ih ⊢;rw[Af,Ex,ih,ž];by_cases h:s=t
  .subst h;simp
  .have h':¬t=s:=λz=>h z.symm;simp[h,h']
def JZ(t:c9):depth (j4 t)=1:=by unfold j4;simp[depth,lO]
theorem GZ:∀ts:List c9,lO (ts.map j4)<=1
 | []=>by rw[Gg,lO];omega
 |t::ts=>by
  have:=GZ ts
  have h2:=JZ t;rw[Af,lO];omega
def jF(s t:c9):Prop:=s.1<t.1\/(s.1=t.1/\s.2<t.2)
instance (s t:c9):Decidable (jF s t):=inferInstanceAs (Decidable (_\/_))
def rM(s t:c9):HT.lexLt [s.1,s.2] [t.1,t.2]=decide (jF s t):=by
 have aA:HT.lexLt [s.1,s.2] [t.1,t.2]=true↔jF s t:=by
  rw[HT.lexLt_cons];unfold jF;by_cases h1:s.1=t.1
  .rw[z7 h1,HT.lexLt_cons];by_cases h2:s.2=t.2
   .rw[z7 h2,HT.lexLt_nil_nil];exact⟨λz=>w9 z (by decide),λz=>w9 z (by omega)⟩
   .rw[y3 h2,decide_eq_true_iff];omega
  .rw[y3 h1,decide_eq_true_iff];omega
 by_cases h:jF s t
 .rw[K9 h];exact aA.mpr h
 .rw[Y1 h];exact Bool.eq_false_iff.mpr λz=>h (aA.mp z)
def sZ(s:c9):¬jF s s:=by unfold jF;omega
def PB(h:jF s t)(h':jF t u):jF s u:=by unfold jF at *;omega
def uT(s t:c9):jF s t\/s=t\/jF t s:=by
 obtain⟨a,b⟩:=s;obtain⟨c,d⟩:=t;unfold jF;dsimp only;by_cases h:a=c
 .by_cases h2:b=d
  .subst h h2;exact .inr (.inl rfl)
  .omega
 .omega
def lA(t:c9):List Int:=[t.1,t.2]
def AL(ns:List Int):c9:=(ns.getD 0 0,ns.getD 1 0)
def n9(ts:List c9):List c9:=(qS (ts.map lA)).map AL
def Oz(ts:List c9):qS (ts.map lA)=(n9 ts).map lA:=by
 unfold n9;rw[B1]
 have:∀ns∈qS (ts.map lA),(lA∘AL) ns=ns:=λns h=>by have h':=(zH (ts.map lA)).mem_iff.mp h;obtain⟨t,_,rfl⟩:=Ak.mp h';rfl
 exact((B4 this).trans (Io _)).symm
def tK(ts:List c9):(n9 ts).Perm ts:=by
 have h:=(zH (ts.map lA)).map AL
 have e:(ts.map lA).map AL=ts:=by rw[B1];exact(B4 (λt _=>rfl:∀t∈ts,(AL∘lA) t=t)).trans (Io _)
 rw[e]at h;exact h
def JT(ts:List c9)(hn:ts.Nodup):(n9 ts).Pairwise jF:=by
 have h:=BO (ts.map lA);rw[Oz,Bd]at h;have bo:(n9 ts).Nodup:=(tK ts).nodup_iff.mpr hn
 have:=h.and bo
 refine this.imp λ{s t} q=>?_;obtain⟨q1,q2⟩:=q
 have:decide (jF t s)=false:=(rM t s).symm.trans q1
 have n1:=pQ this;rcases uT s t with z|z|z
 .exact z
 .exact w9 z q2
 .exact w9 z n1
theorem Qe{ts:List c9}(h:ts.length<64):lR (ts.map j4)=some ((n9 ts).map j4):=by
 unfold lR;rw[z7 (by rw[A0];exact h)]
 cases ts with
 |nil=>show some ((qR []).map D.int)=some ((n9 []).map j4);unfold n9 qR qS;simp
 |cons t ts=>
  have e1:Z6 ((t::ts).map j4)=none:=rfl
  have e2:mB ((t::ts).map j4)=some ((t::ts).map lA):=by
   have:=CO (nss:=(t::ts).map lA) (λns h=>by
    obtain⟨u,_,rfl⟩:=Ak.mp h
    simp[lA])
   rw[B1]at this;exact this
  rw[e1];dsimp only;rw[e2];dsimp only;rw[Oz,B1];rfl
structure BB(n:Int)(ts:List c9):Prop where
 lo:1<=n
 hi:n<=6
 up:ts.Pairwise jF
 ok:∀t∈ts,0<=t.1/\t.1<t.2/\t.2<n
def Y4(n:Int)(ts:List c9):D:=.tup [.int n,.tup (ts.map j4)]
def LI(a b:Int):qW [.int a,.int b]=some (.int (Jq a b)):=by
 show some (D.int (if b<a then b else a))=_;by_cases h:b<a
 .rw[z7 h,Ev (by omega)]
 .rw[y3 h,E7 (by omega)]
def Tw(a b:Int):t8 [.int a,.int b]=some (.int (max a b)):=by
 show some (D.int (if b>a then b else a))=_;by_cases h:b>a
 .rw[z7 h,Ed (by omega)]
 .rw[y3 h,Fl (by omega)]
def JC:EO:=
 Q8 (f9 6 (x5 o6 (y9 (d2 jT (z9 0) (d2 pV (dI 11) (z9 5))) (y9 (dI 9949) (jW 3)))))
 (Q8 (f9 7 (x5 o6 (y9 (d2 jT (d2 jT (z9 0) (d2 pV (dI 13) (z9 5))) (dI 1)) (y9 (dI 9941) (jW 3)))))
 (Q8 (f9 8 (kD (y9 (x5 qW (jQ 6 7)) (y9 (x5 t8 (jQ 6 7)) i3))))
 (jZ (pL (v5 (d2 oS (z9 6) (z9 7))) (v5 (jX true (z9 8) (kX 4))))
 (pU 4 (z9 8))
 kO)))
theorem Ę{c m t:D}{cc n k:Int}{ts:List c9}{c6 c7 c8:Option Cell}(hn:0<n)(hok:∀t∈ts,0<=t.1/\t.1<t.2/\t.2<n)(av:ts.Nodup)(hl:ts.length<=1000):
  ∃(gY:List c9) (ck cy c8':Option Cell),JC [sC (.int cc),sC m,sC t,sC (.int n),some (.ow (ts.map j4)),sC (.int k),c6,c7,c8] =
   some (.nx [sC (.int cc),sC m,sC t,sC (.int n),some (.ow (gY.map j4)),sC (.int k),ck,cy,c8'])/\(∀t∈gY,0<=t.1/\t.1<t.2/\t.2<n)/\gY.Nodup/\gY.length<=ts.length+1:=by
 have a1:=ER (cc+11*k) 9949 hn;have a2:=EQ (cc+11*k) 9949 hn;have b1:=ER (cc+13*k+1) 9941 hn;have b2:=EQ (cc+13*k+1) 9941 hn;generalize e1:nB (cc+11*k) 9949 n=a at a1 a2;generalize e2:nB (cc+13*k+1) 9941 n=b at b1 b2
 have f1:o6 [.int (cc+11*k),.int 9949,.int n]=some (.int a):=by rw[CW _ (by decide) hn,e1]
 have f2:o6 [.int (cc+13*k+1),.int 9941,.int n]=some (.int b):=by rw[CW _ (by decide) hn,e2]
 have g0:∀Y:K6,Y[0]?=some (sC (.int cc))->Y[5]?=some (sC (.int k))->∀j:Int,uM j=true->d2 jT (z9 0) (d2 pV (dC (.int j)) (z9 5)) Y=some (.int (cc+j*k)):=λY h0 h5 j hj=>by
  have z0:z9 0 Y=some (.int cc):=by unfold z9;rw[h0]
  have z5:z9 5 Y=some (.int k):=by unfold z9;rw[h5]
  exact(kK z0 ((kK (x:=.int j) (y:=.int k) rfl z5).trans (Ð k hj))).trans rfl
 let tie:c9:=(Jq a b,max a b)
 have step:JC [sC (.int cc),sC m,sC t,sC (.int n),some (.ow (ts.map j4)),sC (.int k),c6,c7,c8] =
   jZ (pL (v5 (d2 oS (z9 6) (z9 7))) (v5 (jX true (z9 8) (kX 4)))) (pU 4 (z9 8)) kO
    [sC (.int cc),sC m,sC t,sC (.int n),some (.ow (ts.map j4)),sC (.int k),sC (.int a),sC (.int b),sC (j4 tie)]:=by
  refine w8 (Q0 (d:=.int a) ((x9 (ds:=[.int (cc+11*k),.int 9949,.int n]) (u7 (g0 _ rfl rfl 11 (by decide)) rfl)).trans f1)) ?_;refine w8 (Q0 (d:=.int b) ((x9 (ds:=[.int (cc+13*k+1),.int 9941,.int n]) (u7 ((kK (g0 _ rfl rfl 13 (by decide)) rfl).trans rfl) rfl)).trans f2)) ?_;exact w8 (Q0 (d:=j4 tie) (oZ (ds:=[.int tie.1,.int tie.2]) (u7 ((x9 (ds:=[.int a,.int b]) rfl).trans (LI a b)) (u7 ((x9 (ds:=[.int a,.int b]) rfl).trans (Tw a b)) rfl)) (show 2<=d9 by decide))) rfl
 rw[step]
 have et:pL (v5 (d2 oS (z9 6) (z9 7))) (v5 (jX true (z9 8) (kX 4))) [sC (.int cc),sC m,sC t,sC (.int n),some (.ow (ts.map j4)),sC (.int k),sC (.int a),sC (.int b),sC (j4 tie)]=some (!(a==b)&&!decide (tie∈ts)):=by
  refine QJ (J7 rfl) λ_=>J7 ((vB (d:=j4 tie) (ds:=ts.map j4) rfl rfl (Bn (GZ ts) (by decide)) (by rw[JZ];decide)).trans ?_)
  rw[IP];rfl
 rw[Y9 et]
 cases hc:(!(a==b)&&!decide (tie∈ts)) with
 |false=>exact⟨ts,_,_,_,rfl,hok,av,Em _⟩
 |true=>
  rw[Bi]at hc
  have ah:a≠b:=by simpa using hc.1
  have ja:tie∉ts:=by simpa using hc.2
  refine⟨ts++[tie],sC (.int a),sC (.int b),sC (j4 tie),?_,λu hu=>?_,?_,by simp⟩
  .rw[z7 rfl];refine(KS (ds:=ts.map j4) (d:=j4 tie) rfl rfl (by rw[A0];unfold d9;omega)).trans ?_
   rw[B6];rfl
  .rcases Aw.mp hu with z|z
   .exact hok u z
   .have:u=tie:=by simpa using z
    subst this;show 0<=Jq a b/\Jq a b<max a b/\max a b<n;omega
  .rw[Bz];refine⟨av,by simp,λx hx y hy=>?_⟩
   have:y=tie:=by simpa using hy
   subst this;exact λz=>ja (z▸hx)
def VE(c:Int){most ties:Int}(h1:1<=most)(h6:most<=6)(t0:0<=ties)(t12:ties<=12):
  ∃(n:Int) (ts:List c9),BQ [.int c,.int most,.int ties]=some (Y4 n ts)/\BB n ts/\n<=most/\(ts.length:Int)<=ties:=by
 have a1:=ER c 9973 (show 0<most by omega);have a2:=EQ c 9973 (show 0<most by omega);have b1:=ER c 9967 (show 0<ties+1 by omega);have b2:=EQ c 9967 (show 0<ties+1 by omega)
 obtain⟨n,hn1,iN,e1⟩:∃n:Int,1<=n/\n<=most/\∀k:EO,Q8 (f9 3 (d2 jT (dI 1) (x5 o6 (y9 (z9 0) (y9 (dI 9973) (jW 1))))))
   (Q8 (jZ (pL (v5 (d2 mZ (z9 3) (dI 4))) (v5 (d2 EZ (d2 n5 (z9 0) (dI 4)) (dI 0)))) (f9 3 (z9 1)) kO) k) [sC (.int c),sC (.int most),sC (.int ties),none,none,none,none,none,none] =
   k [sC (.int c),sC (.int most),sC (.int ties),sC (.int n),none,none,none,none,none]:=by
  have s1:∀k,Q8 (f9 3 (d2 jT (dI 1) (x5 o6 (y9 (z9 0) (y9 (dI 9973) (jW 1)))))) k [sC (.int c),sC (.int most),sC (.int ties),none,none,none,none,none,none] =
    k [sC (.int c),sC (.int most),sC (.int ties),sC (.int (1+nB c 9973 most)),none,none,none,none,none]:=λk=>
   w8 (Q0 (d:=.int (1+nB c 9973 most)) ((kK (x:=.int 1) (y:=.int (nB c 9973 most)) rfl ((x9 (ds:=[.int c,.int 9973,.int most]) rfl).trans (CW c (by decide) (by omega)))).trans rfl)) rfl
  have s2:pL (v5 (d2 mZ (z9 3) (dI 4))) (v5 (d2 EZ (d2 n5 (z9 0) (dI 4)) (dI 0))) [sC (.int c),sC (.int most),sC (.int ties),sC (.int (1+nB c 9973 most)),none,none,none,none,none]=some (decide (1+nB c 9973 most<4)&&decide (0<c % 4)):=QJ (J7 rfl) λ_=>J7 ((kK (x:=.int (c % 4)) (y:=.int 0) ((kK (x:=.int c) (y:=.int 4) rfl rfl).trans (ES c (by decide))) rfl).trans rfl)
  cases hc:(decide (1+nB c 9973 most<4)&&decide (0<c % 4)) with
  |true=>refine⟨most,h1,Il _,λk=>(s1 _).trans (w8 ((Y9 s2).trans ?_) rfl)⟩;rw[hc];rfl
  |false=>refine⟨1+nB c 9973 most,by omega,by omega,λk=>(s1 _).trans (w8 ((Y9 s2).trans ?_) rfl)⟩;rw[hc];rfl
 have hok:mY (nB c 9967 (ties+1))=true:=by unfold mY;rw[K9 (by omega),K9 (by omega)];rfl
 obtain⟨Y',l1,ts,c5,c6,c7,c8,rfl,q1,q2,q3⟩:=yN (h:=u5 5) (g:=JC) (λpre Y=>∃(ts:List c9) (c5 c6 c7 c8:Option Cell),Y=[sC (.int c),sC (.int most),sC (.int ties),sC (.int n),some (.ow (ts.map j4)),c5,c6,c7,c8]/\(∀t∈ts,0<=t.1/\t.1<t.2/\t.2<n)/\ts.Nodup/\ts.length<=pre.length)
  (ds:=Q2 0 (nB c 9967 (ties+1)).toNat) (Y:=[sC (.int c),sC (.int most),sC (.int ties),sC (.int n),some (.ow []),none,none,none,none]) ⟨[],none,none,none,none,rfl,λt h=>w9 h (by simp),E6,Aj _⟩ (λpre d post Y he hI=>by
   obtain⟨ts,c5,c6,c7,c8,rfl,q1,q2,q3⟩:=hI;obtain⟨k,hk,rfl⟩:=X8 (show d∈Q2 0 _ by rw[<-he];simp)
   have ab:=lD Ih he;rw[rS,Ah]at ab;obtain⟨gY,ck,cy,c8',w1,w2,w3,w4⟩:=Ę (c:=.non) (cc:=c) (m:=.int most) (t:=.int ties) (k:=(k:Int)) (c6:=c6) (c7:=c7) (c8:=c8) (show 0<n by omega) q1 q2 (by omega);refine⟨_,_,rfl,.inl w1,gY,_,ck,cy,c8',rfl,w2,w3,?_⟩;rw[Ah]
   exact Bn w4 (Nat.succ_le_succ q3))
 have iE:(ts.length:Int)<=ties:=by rw[rS]at q3;omega
 refine⟨n,n9 ts,?_,⟨hn1,by omega,JT ts q2,λt ht=>q1 t ((tK ts).mem_iff.mp ht)⟩,iN,by rw[(tK ts).length_eq];exact iE⟩
 refine mX (x:=Pg [sC (.int c),sC (.int most),sC (.int ties),none,none,none,none,none,none]) ?_;refine(e1 _).trans (w8 (zV (ds:=[]) (EK (ds:=[]) rfl (by decide))) ?_);refine w8 ((lZ (ds:=Q2 0 (nB c 9967 (ties+1)).toNat) ?_).trans l1) ?_
 .exact zU ((x9 (ds:=[.int c,.int 9967,.int (ties+1)]) rfl).trans (CW c (by decide) (by omega))) hok
 .refine lJ (oZ (ds:=[.int n,.tup ((n9 ts).map j4)]) (u7 rfl (u7 (zW ((LW (ds:=ts.map j4) rfl).trans (Qe (by omega)))) rfl)) (show 2<=d9 by decide))
def PQ(lo:Int)(m:Nat):Q2 lo (m+1) = .int lo::Q2 (lo+1) m:=by
 unfold Q2;rw[Gh,Af,B1];congr 1
 .simp
 .refine B4 λk _=>?_;simp only[Lh];congr 1;omega
def DT{n j:Nat}(h:j<n):rC n (j:Int)=some j:=by unfold rC;rw[z7 (by omega),z7 (by omega),Ay]
theorem Pn{α β:Type}(f:α->β):∀(l:List α) (j:Nat),(l.map f).eraseIdx j=(l.eraseIdx j).map f
 | [],_=>rfl
 |_::_,0=>rfl
 |a::l,j+1=>by show f a::(l.map f).eraseIdx j=f a::(l.eraseIdx j).map f;rw[Pn f l j]
theorem erase_perm{α:Type}:∀(l:List α) (j:Nat) (h:j<l.length),(l[j]::l.eraseIdx j).Perm l
 |a::l,0,_=>Fb _
 |a::l,j+1,h=>by
  have ih:=erase_perm l j (by simpa using h)
  have hj:j<l.length:=by simpa using h
  show (l[j]::a::l.eraseIdx j).Perm (a::l);exact(Jg _ _ _).trans (ih.cons a)
def tJ(n:Nat):(i4 0 n).length=n:=by unfold i4;simp
def þ(n:Nat):(i4 0 n).Pairwise (·<=·):=by
 unfold i4;rw[Bd]
 exact Dz.imp λ{a b} h=>by omega
def Đ{r:List Int}(h:r.Perm (i4 0 n)):qR r=i4 0 n:=zI (le:=λa b:Int=>a<=b) (λa b h1 h2=>by omega) ((Qg r).trans h) (Ox r) (þ n) λa=>Il a
def h9(r:List Int)(p:Int):Int:=(r.idxOf p:Nat)
def u0(r:List Int):List d3:=r.map Bv
def GQ(r:List Int)(p:Int):u0 (r++[p])=u0 r++[Bv p]:=by unfold u0;rw[B6];rfl
def GR:(Bv p:d3)∈u0 r↔p∈r:=by
 unfold u0;constructor
 .intro h;obtain⟨q,hq,e⟩:=Ak.mp h;cases e;exact hq
 .exact λh=>C3 h
def HI{r:List Int}(h:r.Nodup):(u0 r).Nodup:=by unfold u0;exact Bd.mpr (h.imp λ{a b} cB z=>cB (Fm z))
theorem wM:∀(ks:List d3) (vs:List D) (j:d3) (d:D),ks.length=vs.length->j∉ks->kP ks vs j d=(ks++[j],vs++[d])
 | [],[],_,_,_,_=>rfl
 | [],_::_,_,_,h,_=>by cases h
 |_::_,[],_,_,h,_=>by cases h
 |k::ks,v::vs,j,d,hl,hn=>by have ah:k≠j:=λz=>hn (z▸A6);unfold kP;rw[y3 ah,wM ks vs j d (by simpa using hl) λz=>hn (A7 _ z)];rfl
def ZU(n:Nat):Q2 0 (n+1)=Q2 0 n++[.int (n:Int)]:=by unfold Q2;rw[Hz,B6];simp
theorem P3:∀(r:List Int) (k:Nat) (p:Int),p∈r->kF (u0 r) (Q2 (k:Int) r.length) (Bv p)=some (.int ((k+r.idxOf p:Nat):Int))
 | [],_,_,h=>by cases h
 |q::r,k,p,h=>by
  have e:Q2 (k:Int) (q::r).length = .int (k:Int)::Q2 ((k+1:Nat):Int) r.length:=by rw[As,PQ];rfl
  rw[e];show (if (Bv q:d3)=Bv p then some (D.int (k:Int)) else kF (u0 r) (Q2 ((k+1:Nat):Int) r.length) (Bv p))=_;by_cases hq:q=p
  .subst hq;rw[z7 rfl,Hb];rfl
  .have hp:p∈r:=by
    rcases Ad.mp h with z|z
    .exact w9 z.symm hq
    .exact z
   have hi:(q::r).idxOf p=r.idxOf p+1:=by rw[Kd,beq_false_of_ne hq];rfl
   rw[y3 λz=>hq (Fm z),P3 r (k+1) p hp,hi];congr 2;omega
def R7{r:List Int}{p:Int}(h:p∈r):kF (u0 r) (Q2 0 r.length) (Bv p)=some (.int (h9 r p)):=by
 have:=P3 r 0 p h
 rw[M4]at this;exact this
theorem IM:∀(r done:List Int) (c3 c4:Option Cell),(done++r).Nodup->(done++r).length<=1000 ->
  ∃cN bd,W5 (nZ 2 (lN (u5 2) (lN (u5 3) (nY)))) (mQ 1 (z9 3) (z9 2)) (lL done.length (r.map D.int)) [sC rw',some (.od (u0 done) (Q2 0 done.length)),c3,c4] =
   some (.nx [sC rw',some (.od (u0 (done++r)) (Q2 0 (done++r).length)),cN,bd])
 | [],done,c3,c4,_,_=>⟨c3,c4,by rw[Bx];rfl⟩
 |p::r,done,c3,c4,hn,hl=>by
  have bo:((done++[p])++r).Nodup:=by rw[Co];exact hn
  have cw:((done++[p])++r).length<=1000:=by rw[Co];exact hl
  obtain⟨cN,bd,ih⟩:=IM r (done++[p]) (sC (.int (done.length:Int))) (sC (.int p)) bo cw;refine⟨cN,bd,?_⟩
  have hp:p∉done:=λz=>by
   have:=(Bz.mp hn).2.2
   exact this p z p A6 rfl
  have hd:done.Nodup:=(Bz.mp hn).1
  have ab:done.length<1000:=by rw[Ah,As]at hl;omega
  have step:mQ 1 (z9 3) (z9 2) [sC rw',some (.od (u0 done) (Q2 0 done.length)),sC (.int (done.length:Int)),sC (.int p)] =
    some (.nx [sC rw',some (.od (u0 (done++[p])) (Q2 0 (done++[p]).length)),sC (.int (done.length:Int)),sC (.int p)]):=by
   show (if (u0 done).Nodup/\(u0 done).length<d9 then some (Out.nx [sC rw',some (.od (kP (u0 done) (Q2 0 done.length) (Bv p) (.int (done.length:Int))).1 (kP (u0 done) (Q2 0 done.length) (Bv p) (.int (done.length:Int))).2),sC (.int (done.length:Int)),sC (.int p)]) else none)=_;rw[z7 ⟨HI hd,by unfold u0;rw[A0];unfold d9;omega⟩,wM _ _ _ _ (by unfold u0;rw[A0,rS]) (λz=>hp (GR.mp z)),<-GQ,Ah,Bb,ZU]
  rw[Af];show W5 _ _ (.tup [.int (done.length:Int),.int p]::lL (done.length+1) (r.map D.int)) _=_;unfold W5
  show (match mQ 1 (z9 3) (z9 2) [sC rw',some (.od (u0 done) (Q2 0 done.length)),sC (.int (done.length:Int)),sC (.int p)] with
   |some (.nx Y2)=>W5 _ _ (lL (done.length+1) (r.map D.int)) Y2
   |some (.ct Y2)=>W5 _ _ (lL (done.length+1) (r.map D.int)) Y2
   |some (.bk Y2)=>some (.nx Y2)
   |some (.rt v)=>some (.rt v)
   |none=>none)=_
  rw[step];dsimp only;rw[Ah,Bb]at ih ⊢;rw[ih,Co];rfl
def Wc{r:List Int}(hn:r.Nodup)(hr:r.length<=1000):GE [.tup (r.map D.int)]=some (.dct (u0 r) (Q2 0 r.length)):=by
 show kY (GK [sC (.tup (r.map D.int)),none,none,none])=_;obtain⟨c3,c4,hl⟩:=IM (rw':=.tup (r.map D.int)) r [] none none (by simpa using hn) (by simpa using hr)
 have fin:GK [sC (.tup (r.map D.int)),none,none,none]=some (.rt (.dct (u0 r) (Q2 0 r.length))):=by refine w8 rfl ?_;refine w8 ((lZ (ds:=lL 0 (r.map D.int)) rfl).trans hl) ?_;rfl
 rw[fin];rfl
def Q9(r:List Int)(t:c9):c9:=(Jq (h9 r t.1) (h9 r t.2),max (h9 r t.1) (h9 r t.2))
def IB(a b:Int):DB [.int a,.int b]=some (.tup [.int (Jq a b),.int (max a b)]):=by
 refine mX (x:=Of [sC (.int a),sC (.int b)]) ?_;refine lJ (oZ (ds:=[.int (Jq a b),.int (max a b)]) (u7 ?_ (u7 ?_ rfl)) (show 2<=d9 by decide))
 .exact LI a b
 .exact Tw a b
def VF{r:List Int}{t:c9}(h1:t.1∈r)(h2:t.2∈r):wO [.dct (u0 r) (Q2 0 r.length),j4 t]=some (j4 (Q9 r t)):=by
 show kY (zA [sC (.dct (u0 r) (Q2 0 r.length)),sC (j4 t)])=_;have e1:nL (z9 0) (jJ 1 0) [sC (.dct (u0 r) (Q2 0 r.length)),sC (j4 t)]=some (.int (h9 r t.1)):=R7 h1;have e2:nL (z9 0) (jJ 1 1) [sC (.dct (u0 r) (Q2 0 r.length)),sC (j4 t)]=some (.int (h9 r t.2)):=R7 h2
 have fin:zA [sC (.dct (u0 r) (Q2 0 r.length)),sC (j4 t)]=some (.rt (j4 (Q9 r t))):=by refine lJ ?_;exact(x9 (ds:=[.int (h9 r t.1),.int (h9 r t.2)]) (u7 e1 (u7 e2 rfl))).trans (IB _ _)
 rw[fin];rfl
def HK{ts:List c9}{r:List Int}(hn:r.Nodup)(hr:r.length<=1000)(ht:ts.length<=1000)(hm:∀t∈ts,t.1∈r/\t.2∈r):
  zF [Y4 n ts,.tup (r.map D.int)]=some (.lst (ts.map λt=>j4 (Q9 r t))):=by
 refine mX (x:=PU [sC (Y4 n ts),sC (.tup (r.map D.int)),none]) ?_;refine w8 (Q0 (d:=.dct (u0 r) (Q2 0 r.length)) ((x9 (ds:=[.tup (r.map D.int)]) rfl).trans (Wc hn hr))) ?_;show i9 (kE (W6 _ _ _ _ _)) [sC (Y4 n ts),sC (.tup (r.map D.int)),sC (.dct (u0 r) (Q2 0 r.length))]=_;refine lJ (mU ?_);refine(mD (ds:=ts.map j4) rfl (by rw[A0];unfold d9;omega)).trans ?_
 refine(qM (λY=>∃c,Y=[c,sC (.dct (u0 r) (Q2 0 r.length))]) (λd=>match d with|.tup [.int a,.int b]=>j4 (Q9 r (a,b))|_=>.non) _ _ ⟨none,rfl⟩ ?_).trans ?_
 .rintro d hd Y ⟨c,rfl⟩;obtain⟨t,bt,rfl⟩:=Ak.mp hd;refine⟨_,rfl,⟨_,rfl⟩,?_⟩;exact(x9 (ds:=[.dct (u0 r) (Q2 0 r.length),j4 t]) rfl).trans (VF (hm t bt).1 (hm t bt).2)
 .rw[B1];rfl
def lU(s t:c9):Bf:=if s.1=t.1\/s.1=t.2\/s.2=t.1\/s.2=t.2 then "meet" else
 if (if jF t s then t else s).2<(if jF s t then t else s).1 then "apart" else if (if jF t s then t else s).2<(if jF s t then t else s).2 then "cross" else "within"
def lt_int(a b:Int):mZ (.int a) (.int b)=some (.bl (decide (a<b))):=rfl
def NB(a c d:Int):mI (.int a) [.int c,.int d]=(decide (a=c)||decide (a=d)):=by
 show ((c==a)||((d==a)||false))=_;rw[Lg];congr 1
 .rw[show (c==a)=decide (c=a) from rfl];exact decide_eq_decide.mpr eq_comm
 .rw[show (d==a)=decide (d=a) from rfl];exact decide_eq_decide.mpr eq_comm
def Yd(s t:c9):LZ [j4 s,j4 t]=some (j4 (if jF t s then t else s)):=by
 show some (if HT.lexLt [t.1,t.2] [s.1,s.2]=true then j4 t else j4 s)=_;rw[rM];by_cases h:jF t s
 .rw[z7 h,z7 (K9 h)]
 .rw[y3 h,y3 (by rw[Y1 h];decide)]
def Yc(s t:c9):LX [j4 s,j4 t]=some (j4 (if jF s t then t else s)):=by
 show some (if HT.lexLt [s.1,s.2] [t.1,t.2]=true then j4 t else j4 s)=_;rw[rM];by_cases h:jF s t
 .rw[z7 h,z7 (K9 h)]
 .rw[y3 h,y3 (by rw[Y1 h];decide)]
def ϓ(s t:c9):HW [j4 s,j4 t]=some (.str (lU s t)):=by
 show kY (HZ [sC (j4 s),sC (j4 t),none,none])=_
 have e1:sF (v5 (jX false (jJ 0 0) (b9 (z9 1)))) (v5 (jX false (jJ 0 1) (b9 (z9 1)))) [sC (j4 s),sC (j4 t),none,none] =
   some ((decide (s.1=t.1)||decide (s.1=t.2))||(decide (s.2=t.1)||decide (s.2=t.2))):=by
  refine KY (J7 ((vB (d:=.int s.1) (ds:=[.int t.1,.int t.2]) rfl rfl (by simp[lO,depth,jP]) (by simp[depth,jP])).trans ?_)) λ_=>J7 ((vB (d:=.int s.2) (ds:=[.int t.1,.int t.2]) rfl rfl (by simp[lO,depth,jP]) (by simp[depth,jP])).trans ?_)
  .rw[NB];rfl
  .rw[NB];rfl
 have fin:HZ [sC (j4 s),sC (j4 t),none,none]=some (.rt (.str (lU s t))):=by
  unfold lU;by_cases hm:s.1=t.1\/s.1=t.2\/s.2=t.1\/s.2=t.2
  .rw[z7 hm];refine rK ?_;rw[Y9 e1]
   have:((decide (s.1=t.1)||decide (s.1=t.2))||(decide (s.2=t.1)||decide (s.2=t.2)))=true:=by simp only[M6,decide_eq_true_eq];omega
   rw[this];rfl
  .rw[y3 hm];refine w8 (Y':=[sC (j4 s),sC (j4 t),none,none]) ?_ ?_
   .rw[Y9 e1]
    have:((decide (s.1=t.1)||decide (s.1=t.2))||(decide (s.2=t.1)||decide (s.2=t.2)))=false:=by simp only[Bool.or_eq_false_iff,decide_eq_false_iff_not];omega
    rw[this];rfl
   .generalize hf:(if jF t s then t else s)=f;generalize hg:(if jF s t then t else s)=g;refine w8 (Q0 (d:=j4 f) ((x9 (ds:=[j4 s,j4 t]) rfl).trans (by rw[Yd,hf]))) ?_;refine w8 (Q0 (d:=j4 g) ((x9 (ds:=[j4 s,j4 t]) rfl).trans (by rw[Yc,hg]))) ?_;have e2:v5 (d2 mZ (jJ 2 1) (jJ 3 0)) [sC (j4 s),sC (j4 t),sC (j4 f),sC (j4 g)]=some (decide (f.2<g.1)):=rfl;have e3:v5 (d2 mZ (jJ 2 1) (jJ 3 1)) [sC (j4 s),sC (j4 t),sC (j4 f),sC (j4 g)]=some (decide (f.2<g.2)):=rfl
    by_cases h1:f.2<g.1
    .rw[z7 h1];refine rK ((Y9 e2).trans ?_);rw[K9 h1];rfl
    .rw[y3 h1];refine w8 (Y':=[sC (j4 s),sC (j4 t),sC (j4 f),sC (j4 g)]) ((Y9 e2).trans ?_) ?_
     .rw[Y1 h1];rfl
     .refine lJ ((Sl e3).trans ?_);by_cases h2:f.2<g.2
      .rw[z7 h2,K9 h2];rfl
      .rw[y3 h2,Y1 h2];rfl
 rw[fin];rfl
def vN(s t:c9):Nat:=if s.1=t.1\/s.1=t.2\/s.2=t.1\/s.2=t.2 then 0 else
 if (if jF t s then t else s).2<(if jF s t then t else s).1 then 1 else if (if jF t s then t else s).2<(if jF s t then t else s).2 then 2 else 3
def AB:Nat->Bf
 | 0=>"meet"
 | 1=>"apart"
 | 2=>"cross"
 |_=>"within"
def BI(s t:c9):lU s t=AB (vN s t):=by unfold vN;rw[apply_ite AB,apply_ite AB,apply_ite AB];rfl
theorem GY:∀r:List Int,lO (r.map D.int)=0
 | []=>by rw[Gg,lO]
 |p::r=>by
  have e:depth (.int p)=0:=by simp[depth]
  rw[Af,lO,GY r,e];rfl
def tH(h:jF s t)(h':jF t s):False:=sZ s (PB h h')
theorem Qi:∀{xs ys:List c9},xs.Pairwise jF->ys.Pairwise jF->(∀t,t∈xs↔t∈ys)->xs=ys
 | [],[],_,_,_=>rfl
 | [],y::ys,_,_,h=>w9 ((h y).mpr A6) (by simp)
 |x::xs,[],_,_,h=>w9 ((h x).mp A6) (by simp)
 |x::xs,y::ys,hx,hy,h=>by
  rw[Ds]at hx hy
  have e:x=y:=by
   rcases Ad.mp ((h x).mp A6) with z|z
   .exact z
   .rcases Ad.mp ((h y).mpr A6) with q|q
    .exact q.symm
    .exact w9 (hx.1 y q) λw=>tH w (hy.1 x z)
  subst e;congr 1;refine Qi hx.2 hy.2 λt=>?_;constructor
  .intro ht;rcases Ad.mp ((h t).mp (A7 _ ht)) with z|z
   .subst z;exact w9 (hx.1 _ ht) (sZ _)
   .exact z
  .intro ht;rcases Ad.mp ((h t).mpr (A7 _ ht)) with z|z
   .subst z;exact w9 (hy.1 _ ht) (sZ _)
   .exact z
def Y0(m:Nat)(cl:Nat->Nat->Bool)(k:Nat):List c9:=(A9 k).flatMap λi=>(((A9 (m-(i+1))).map λq=>i+1+q).filter (cl i)).map λ(j:Nat)=>((i:Int),(j:Int))
def qG(cl:Nat->Nat->Bool)(k:Nat):List c9:=(A9 k).flatMap λj=>((A9 j).filter λi=>cl i j).map λ(i:Nat)=>((i:Int),(j:Int))
def xA{t:c9}:t∈Y0 m cl k↔∃i j:Nat,t=((i:Int),(j:Int))/\i<k/\i<j/\j<m/\cl i j=true:=by
 unfold Y0;rw[Lv];constructor
 .rintro ⟨i,hi,h⟩;obtain⟨j,hj,rfl⟩:=Ak.mp h;obtain⟨fC,hj2⟩:=Az.mp hj;obtain⟨q,hq,rfl⟩:=Ak.mp fC
  have:=Ag.mp hi
  have:=Ag.mp hq
  exact⟨i,i+1+q,rfl,by omega,by omega,by omega,hj2⟩
 .rintro ⟨i,j,rfl,h1,h2,h3,h4⟩;refine⟨i,Ag.mpr h1,Ak.mpr ⟨j,Az.mpr ⟨Ak.mpr ⟨j-(i+1),Ag.mpr (by omega),by omega⟩,h4⟩,rfl⟩⟩
def VN{t:c9}:t∈qG cl k↔∃i j:Nat,t=((i:Int),(j:Int))/\i<j/\j<k/\cl i j=true:=by
 unfold qG;rw[Lv];constructor
 .rintro ⟨j,hj,h⟩;obtain⟨i,hi,rfl⟩:=Ak.mp h;obtain⟨bI,dm⟩:=Az.mp hi;exact⟨i,j,rfl,Ag.mp bI,Ag.mp hj,dm⟩
 .rintro ⟨i,j,rfl,h1,h2,h3⟩;exact⟨j,Ag.mpr h2,Ak.mpr ⟨i,Az.mpr ⟨Ag.mpr h1,h3⟩,rfl⟩⟩
def NV(m k:Nat)(cl:Nat->Nat->Bool):(Y0 m cl k).Pairwise jF:=by
 unfold Y0;rw[List.pairwise_flatMap];refine⟨λi _=>?_,?_⟩
 .rw[Bd];refine Lm.filter _ ?_;rw[Bd]
  exact Dz.imp λ{a b} h=>by unfold jF;dsimp only;omega
 .refine Dz.imp λ{a b} h x hx y hy=>?_;obtain⟨p,_,rfl⟩:=Ak.mp hx;obtain⟨q,_,rfl⟩:=Ak.mp hy;unfold jF;dsimp only;omega
def WF(k:Nat)(cl:Nat->Nat->Bool):(qG cl k).Nodup:=by
 unfold qG M5;rw[List.pairwise_flatMap];refine⟨λj _=>?_,?_⟩
 .rw[Bd];refine Lm.filter _ ?_
  exact Dz.imp λ{a b} h z=>by have:=(Jx z).1;omega
 .refine Dz.imp λ{a b} h x hx y hy z=>?_;obtain⟨p,_,rfl⟩:=Ak.mp hx;obtain⟨q,_,rfl⟩:=Ak.mp hy
  have:=(Jx z).2
  omega
def Xx(m:Nat)(cl:Nat->Nat->Bool):n9 (qG cl m)=Y0 m cl m:=by
 refine Qi (JT _ (WF m cl)) (NV m m cl) λt=>?_;rw[(tK _).mem_iff,VN,xA];constructor
 .rintro ⟨i,j,h1,h2,h3,h4⟩;exact⟨i,j,h1,by omega,h2,h3,h4⟩
 .rintro ⟨i,j,h1,h2,h3,h4,h5⟩;exact⟨i,j,h1,h3,h4,h5⟩
def dis(s t:c9):Bool:=decide (jF s t)&&!((decide (s.1=t.1)||decide (s.1=t.2))||(decide (s.2=t.1)||decide (s.2=t.2)))
def xW:List (Bf×Bf):=[("pile","cross"),("queue","within")]
def PJ{k w:Bf}(hk:xW.lookup k=some w)(s t:c9):Q7 [j4 s,j4 t,.str k]=some (.bl (lU s t==w)):=by
 have e:IC [sC (j4 s),sC (j4 t),sC (.str k)]=some (.rt (.bl (lU s t==w))):=by refine lJ ((kK (x:=.str (lU s t)) (y:=.str w) ((x9 (ds:=[j4 s,j4 t]) rfl).trans (ϓ s t)) ?_).trans rfl);show (match xW.lookup k with|some y=>some (D.str y)|none=>none)=_;rw[hk]
 show kY (IC [sC (j4 s),sC (j4 t),sC (.str k)])=_;rw[e];rfl
def W7(r:List Int)(ts:List c9)(i:Nat):c9:=Q9 r (ts.getD i (0,0))
def i6(r:List Int)(ts:List c9)(w:Bf)(i j:Nat):Bool:=lU (W7 r ts i) (W7 r ts j)==w
def yD{ts:List c9}{i:Nat}{s:c9}(h:ts[i]?=some s):W7 r ts i=Q9 r s:=by unfold W7;rw[Cu,h];rfl
def wI{ts:List c9}{j:Nat}(h:j<ts.length):l6 (ts.map λt=>j4 (Q9 r t)) (j:Int)=some (j4 (W7 r ts j)):=by unfold l6;rw[A0,DT h];show (ts.map λt=>j4 (Q9 r t))[j]?=_;rw[Am,A4 h,yD (A4 h)];rfl
def zO{r:List Int}{p q:Int}(hp:p∈r)(hq:q∈r)(h:p≠q):h9 r p≠h9 r q:=λe=>by
 have e':r.idxOf p=r.idxOf q:=by unfold h9 at e;omega
 have l1:r.idxOf p<r.length:=Bl hp;have l2:r.idxOf q<r.length:=Bl hq
 have g1:r[r.idxOf p]?=some p:=by rw[A4 l1,Ie]
 have g2:r[r.idxOf q]?=some q:=by rw[A4 l2,Ie]
 rw[e',g2]at g1;exact h (Ba g1).symm
def KW(k w:Bf):Prop:=(k = "pile"/\w = "cross")\/(k = "queue"/\w = "within")
def KW.tab(h:KW k w):xW.lookup k=some w:=by rcases h with⟨rfl,rfl⟩|⟨rfl,rfl⟩<;>decide +kernel
def KW.meet(h:KW k w):(("meet":Bf)==w)=false:=by rcases h with⟨rfl,rfl⟩|⟨rfl,rfl⟩<;>decide +kernel
def Wn(cl:Nat->Nat->Bool)(k:Nat):qG cl (k+1)=qG cl k++((A9 k).filter λi=>cl i k).map λ(i:Nat)=>((i:Int),(k:Int)):=by unfold qG;rw[Hz,List.flatMap_append,List.flatMap_singleton]
theorem NT(cl:Nat->Nat->Bool):∀k,k<=12->(qG cl k).length<=k*12
 | 0,_=>by unfold qG;simp
 |k+1,h=>by
  have ih:=NT cl k (by omega);rw[Wn,Ah,A0]
  have:=Cw (λi=>cl i k) (A9 k)
  rw[At]at this;omega
end P
namespace P
section
variable{cl:Nat->Nat->Bool}
def PW(cl:Nat->Nat->Bool)(e:List Nat):Prop:=e.Pairwise λi j=>cl i j=true
instance (cl:Nat->Nat->Bool) (e:List Nat):Decidable (PW cl e):=by unfold PW;exact inferInstance
structure sP(cl:Nat->Nat->Bool)(done:List Nat)(cs:List (List Nat)):Prop where
 ok:∀c∈cs,PW cl c/\c.Sublist done/\c≠[]
 top:∀e:List Nat,e.Sublist done->PW cl e->∀t:Nat,e.getLast?=some t->∃c∈cs,c.getLast?=some t/\e.length<=c.length
def sP.zero:sP cl [] []:=⟨(λc h=>by cases h),(λe h _ t ht=>by rw[Lw.mp h]at ht;cases ht)⟩
theorem û{e:List Nat}{t:Nat}(h:e.Sublist [t]):e=[]\/e=[t]:=by
 cases h with
 |cons _ h=>exact .inl (Lw.mp h)
 |cons_cons _ h=>exact .inr (by rw[Lw.mp h])
def sP.step{b:List Nat}(h:sP cl done cs)(tr:∀x y,[x,y].Sublist done->cl x y=true->cl y t=true->cl x t=true)(hb:b=[]\/(b∈cs/\∃u,b.getLast?=some u/\cl u t=true))(hm:∀c∈cs,(∃u,c.getLast?=some u/\cl u t=true)->c.length<=b.length):sP cl (done++[t]) (cs++[b++[t]]):=by
 have bok:PW cl (b++[t])/\(b++[t]).Sublist (done++[t]):=by
  rcases hb with rfl|⟨hbc,u,hu,hut⟩
  .exact⟨Dq _ _,Hr (List.nil_sublist _) (Ld _)⟩
  .obtain⟨p1,p2,_⟩:=h.ok b hbc;refine⟨D0.mpr ⟨p1,Dq _ _,λx hx y hy=>?_⟩,Hr p2 (Ld _)⟩;rw[Ae.mp hy];obtain⟨ys,rfl⟩:=Hn.mp hu;rcases Aw.mp hx with z|z
   .refine tr x u (List.Sublist.trans ?_ p2) ((D0.mp p1).2.2 x z u (Ae.mpr rfl)) hut;exact Hr (List.singleton_sublist.mpr z) (Ld [u])
   .rw[Ae.mp z];exact hut
 refine⟨λc hc=>?_,λe he pe s hs=>?_⟩
 .rcases Aw.mp hc with z|z
  .obtain⟨p1,p2,p3⟩:=h.ok c z;exact⟨p1,p2.trans (List.sublist_append_left _ _),p3⟩
  .rw[Ae.mp z];exact⟨bok.1,bok.2,by simp⟩
 .obtain⟨e1,e2,rfl,s1,s2⟩:=List.sublist_append_iff.mp he;rcases û s2 with rfl|rfl
  .rw[Bx]at hs pe ⊢;obtain⟨c,hc,q1,q2⟩:=h.top e1 s1 pe s hs;exact⟨c,B7 _ hc,q1,q2⟩
  .rw[List.getLast?_append]at hs
   have bX:s=t:=by simpa using hs.symm
   subst bX;refine⟨b++[s],Ac _ (Ae.mpr rfl),by simp,?_⟩;rw[Ah,Ah];refine Nat.add_le_add_right ?_ _
   cases hl:e1.getLast? with
   |none=>rw[Ho.mp hl];exact Bg _
   |some u=>obtain⟨c,hc,q1,q2⟩:=h.top e1 s1 (D0.mp pe).1 u hl;have mu:u∈e1:=List.mem_of_getLast? hl;exact Bn q2 (hm c hc ⟨u,q1,(D0.mp pe).2.2 u mu s (Ae.mpr rfl)⟩)
def xS(cs:List (List Nat))(b:List Nat):Prop:=(cs=[]/\b=[])\/(b∈cs/\∀c∈cs,c.length<=b.length)
def sP.best(h:sP cl L cs)(hb:xS cs b):PW cl b/\b.Sublist L/\∀e:List Nat,e.Sublist L->PW cl e->e.length<=b.length:=by
 have top:∀e:List Nat,e.Sublist L->PW cl e->e=[]\/∃c∈cs,e.length<=c.length:=λe he pe=>by
  cases hl:e.getLast? with
  |none=>exact .inl (Ho.mp hl)
  |some u=>obtain⟨c,hc,_,q⟩:=h.top e he pe u hl;exact .inr ⟨c,hc,q⟩
 rcases hb with⟨rfl,rfl⟩|⟨hb,hm⟩
 .refine⟨Eg,List.nil_sublist _,λe he pe=>?_⟩;rcases top e he pe with rfl|⟨c,hc,_⟩
  .exact Aj _
  .cases hc
 .obtain⟨p1,p2,_⟩:=h.ok b hb;refine⟨p1,p2,λe he pe=>?_⟩;rcases top e he pe with rfl|⟨c,hc,q⟩
  .exact Bg _
  .exact Bn q (hm c hc)
def xS.step{cs:List (List Nat)}(hp:∀c∈cs,c≠[])(hb:xS (cs.filter p) b)(hpe:∀c∈cs,p c=true↔∃u,c.getLast?=some u/\cl u t=true):
  (b=[]\/(b∈cs/\∃u,b.getLast?=some u/\cl u t=true))/\(∀c∈cs,(∃u,c.getLast?=some u/\cl u t=true)->c.length<=b.length):=by
 rcases hb with⟨h1,rfl⟩|⟨h1,h2⟩
 .refine⟨.inl rfl,λc hc hu=>?_⟩
  have:c∈cs.filter p:=Az.mpr ⟨hc,(hpe c hc).mpr hu⟩
  rw[h1]at this;cases this
 .obtain⟨m1,m2⟩:=Az.mp h1;exact⟨.inr ⟨m1,(hpe b m1).mp m2⟩,λc hc hu=>h2 c (Az.mpr ⟨hc,(hpe c hc).mpr hu⟩)⟩
theorem EW(hs:∀i j,cl i j=cl j i):∀{S:List Nat},PW cl S->∀{x y},x∈S->y∈S->x≠y->cl x y=true
 | [],_,_,_,h,_,_=>by cases h
 |a::S,hp,x,y,hx,hy,ah=>by
  have iu:=Ds.mp hp;rcases Ad.mp hx with rfl|hx
  .rcases Ad.mp hy with rfl|hy
   .exact w9 rfl ah
   .exact iu.1 y hy
  .rcases Ad.mp hy with z|hy
   .rw[hs,z];exact iu.1 x hx
   .exact EW hs iu.2 hx hy ah
def SK{S:List Nat}(hn:S.Nodup)(h:∀x∈S,∀y∈S,x≠y->cl x y=true):PW cl S:=G0 (λ{a b} ha hb cB=>h a ha b hb cB) hn
def ä(hs:∀i j,cl i j=cl j i){S T:List Nat}(hn:S.Nodup)(hp:S.Perm T)(h:PW cl S):PW cl T:=SK (hp.nodup_iff.mp hn) λx hx y hy ah=>EW hs h (hp.mem_iff.mpr hx) (hp.mem_iff.mpr hy) ah
theorem yO{α:Type}[DecidableEq α]:∀(xs ys:List α),xs.Nodup->(∀x∈xs,x∈ys)->xs.length<=ys.length
 | [],_,_,_=>Bg _
 |x::xs,ys,hn,hs=>by
  have bo:=Bq.mp hn;have hx:x∈ys:=hs x A6
  have:=yO xs (ys.erase x) bo.2 λy hy=>(Jv (a:=y) (b:=x) (λz=>bo.1 (by rw[<-z];exact hy))).mpr (hs y (A7 _ hy))
  rw[List.length_erase_of_mem hx]at this;have hpos:0<ys.length:=List.length_pos_of_mem hx;rw[As];omega
def į(hs:∀i j,cl i j=cl j i){L S:List Nat}(hL:L.Nodup)(hS:S.Nodup)(dv:∀x∈S,x∈L)(hp:PW cl S):∃e:List Nat,e.Sublist L/\PW cl e/\S.length<=e.length:=by
 refine⟨L.filter λx=>decide (x∈S),F4,?_,yO S _ hS λx hx=>Az.mpr ⟨dv x hx,K9 hx⟩⟩;refine SK (hL.sublist F4) λx hx y hy ah=>EW hs hp ?_ ?_ ah
 .exact lC (Az.mp hx).2
 .exact lC (Az.mp hy).2
structure sN(m:Nat)(cl:Nat->Nat->Bool)(bw:Nat->List Nat)(k:Nat)(f:List Nat):Prop where
 pw:PW cl f
 nd:f.Nodup
 lt:∀x∈f,x<m
 top:∀g,g<k->∀e:List Nat,e.Sublist (bw g)->PW cl e->e.length<=f.length
def sN.zero:sN m cl bw 0 []:=⟨Eg,Eg,(λx h=>by cases h),(λg h=>w9 h (Dv _))⟩
def sN.step(h:sN m cl bw k f)(ho:(bw k).Nodup)(hl:∀x∈bw k,x<m)(hb:PW cl b/\b.Sublist (bw k)/\∀e:List Nat,e.Sublist (bw k)->PW cl e->e.length<=b.length):
  sN m cl bw (k+1) (if f.length<b.length then b else f):=by
 obtain⟨b1,b2,b3⟩:=hb;by_cases hc:f.length<b.length
 .rw[z7 hc];refine⟨b1,ho.sublist b2,λx hx=>hl x (b2.subset hx),λg hg e he pe=>?_⟩;rcases G4.mp hg with z|rfl
  .exact Bn (h.top g z e he pe) (D7 hc)
  .exact b3 e he pe
 .rw[y3 hc];refine⟨h.pw,h.nd,h.lt,λg hg e he pe=>?_⟩;rcases G4.mp hg with z|rfl
  .exact h.top g z e he pe
  .exact Bn (b3 e he pe) (Nat.le_of_not_lt hc)
def sN.all(h:sN m cl bw k f)(hs:∀i j,cl i j=cl j i)(ho:∀g,g<k->(bw g).Nodup)(helly:∀S:List Nat,S≠[]->S.Nodup->(∀x∈S,x<m)->PW cl S->∃g,g<k/\∀x∈S,x∈bw g){S:List Nat}(hn:S.Nodup)(hl:∀x∈S,x<m)(hp:PW cl S):S.length<=f.length:=by
 by_cases hS:S=[]
 .rw[hS];exact Bg _
 .obtain⟨g,hg,dv⟩:=helly S hS hn hl hp;obtain⟨e,e1,e2,e3⟩:=į hs (ho g hg) hn dv hp;exact Bn e3 (h.top g hg e e1 e2)
structure vY(cl:Nat->Nat->Bool)(aB left:List Nat)(R:Nat):Prop where
 has:∃e:List Nat,e.Sublist left/\PW cl (aB++e)/\R=aB.length+e.length
 top:∀e:List Nat,e.Sublist left->PW cl (aB++e)->aB.length+e.length<=R
structure p7(cl:Nat->Nat->Bool)(aB pre post:List Nat)(R:Nat):Prop where
 has:∃e:List Nat,e.Sublist (pre++post)/\PW cl (aB++e)/\R=aB.length+e.length
 le:aB.length<=R
 top:∀(p:List Nat) (t:Nat) (q:List Nat),p++t::q=pre->∀e:List Nat,e.Sublist (q++post)->PW cl (aB++t::e)->aB.length+(e.length+1)<=R
theorem p7.all(h:p7 cl aB left [] R):vY cl aB left R:=by
 refine⟨by have:=h.has;rw[Bx]at this;exact this,λe he pe=>?_⟩
 cases e with
 |nil=>exact h.le
 |cons t e=>
  obtain⟨r1,r2,er,ht,hs⟩:=List.cons_sublist_iff.mp he;obtain⟨p,q,rfl⟩:=List.append_of_mem ht;refine h.top p t (q++r2) (by rw[er];simp) e ?_ pe
  rw[Bx];exact hs.trans (List.sublist_append_right _ _)
end
end P
namespace P
open PySem L2 L3
def R4(s t:c9):lU s t=lU t s:=by
 unfold lU;by_cases h:s.1=t.1\/s.1=t.2\/s.2=t.1\/s.2=t.2
 .rw[z7 h,z7 (by omega)]
 .have h':¬(t.1=s.1\/t.1=s.2\/t.2=s.1\/t.2=s.2):=by omega
  rw[y3 h,y3 h'];rcases uT s t with z|z|z
  .have z':¬jF t s:=λq=>tH z q;rw[y3 z',z7 z,z7 z,y3 z']
  .subst z;exact w9 (.inl rfl) h
  .have z':¬jF s t:=λq=>tH z q;rw[z7 z,y3 z',y3 z',z7 z]
def Tu(h:jF s t):lU s t=(if s.1=t.1\/s.1=t.2\/s.2=t.1\/s.2=t.2 then ("meet":Bf) else if s.2<t.1 then ("apart":Bf) else if s.2<t.2 then ("cross":Bf) else ("within":Bf):Bf):=by unfold lU;rw[y3 (λq=>tH h q),z7 h]
def T7(h:jF s t):s.1<=t.1:=by unfold jF at h;omega
def zB(h:jF s t)(hs:s.1<s.2)(ht:t.1<t.2):lU s t = "cross"↔(s.1<t.1/\t.1<s.2/\s.2<t.2):=by
 have hl:=T7 h;rw[Tu h];by_cases h1:s.1=t.1\/s.1=t.2\/s.2=t.1\/s.2=t.2
 .rw[z7 h1];exact⟨λe=>w9 e (by decide),λe=>by omega⟩
 .rw[y3 h1];by_cases h2:s.2<t.1
  .rw[z7 h2];exact⟨λe=>w9 e (by decide),λe=>by omega⟩
  .rw[y3 h2];by_cases h3:s.2<t.2
   .rw[z7 h3];exact⟨λ_=>by omega,λ_=>rfl⟩
   .rw[y3 h3];exact⟨λe=>w9 e (by decide),λe=>by omega⟩
def uW(h:jF s t)(hs:s.1<s.2)(ht:t.1<t.2):lU s t = "within"↔(s.1<t.1/\t.2<s.2):=by
 have hl:=T7 h;rw[Tu h];by_cases h1:s.1=t.1\/s.1=t.2\/s.2=t.1\/s.2=t.2
 .rw[z7 h1];exact⟨λe=>w9 e (by decide),λe=>by omega⟩
 .rw[y3 h1];by_cases h2:s.2<t.1
  .rw[z7 h2];exact⟨λe=>w9 e (by decide),λe=>by omega⟩
  .rw[y3 h2];by_cases h3:s.2<t.2
   .rw[z7 h3];exact⟨λe=>w9 e (by decide),λe=>by omega⟩
   .rw[y3 h3];exact⟨λ_=>by omega,λ_=>rfl⟩
def Ņ(hk:KW k w)(h1:jF s t)(h2:jF t u)(hs:s.1<s.2)(ht:t.1<t.2)(hu:u.1<u.2)(hg:u.1<s.2)(a:lU s t=w)(b:lU t u=w):lU s u=w:=by
 have h3:=PB h1 h2;rcases hk with⟨_,rfl⟩|⟨_,rfl⟩
 .have a':=(zB h1 hs ht).mp a;have b':=(zB h2 ht hu).mp b;exact(zB h3 hs hu).mpr (by omega)
 .have a':=(uW h1 hs ht).mp a;have b':=(uW h2 ht hu).mp b;exact(uW h3 hs hu).mpr (by omega)
def Ϭ(hk:KW k w){s t:c9}(hs:s.1<s.2)(ht:t.1<t.2)(a:lU s t=w):s.1<t.2/\t.1<s.2:=by
 rcases uT s t with z|z|z
 .rcases hk with⟨_,rfl⟩|⟨_,rfl⟩
  .have:=(zB z hs ht).mp a;omega
  .have:=(uW z hs ht).mp a;omega
 .subst z;exact⟨hs,ht⟩
 .rw[R4]at a;rcases hk with⟨_,rfl⟩|⟨_,rfl⟩
  .have:=(zB z ht hs).mp a;omega
  .have:=(uW z ht hs).mp a;omega
structure kI(n:Int)(ts:List c9)(r:List Int):Prop where
 up:ts.Pairwise jF
 ok:∀t∈ts,0<=t.1/\t.1<t.2/\t.2<n
 nd:r.Nodup
 len:(r.length:Int)=n
 mem:∀t∈ts,t.1∈r/\t.2∈r
 n6:n<=6
 m12:ts.length<=12
section
variable{n:Int}{ts:List c9}{r:List Int}{k w:Bf}
def kI.rl(h:kI n ts r):r.length<=1000:=by have:=h.len;have:=h.n6;omega
def kI.hm'(h:kI n ts r):ts.length<=1000:=by have:=h.m12;omega
def FP(r:List Int)(p:Int):0<=h9 r p:=by unfold h9;omega
def ME{r:List Int}{p:Int}(h:p∈r):h9 r p<(r.length:Int):=by
 unfold h9
 have:=Bl h
 omega
def kI.sp(h:kI n ts r){i:Nat}(hi:i<ts.length):∃t∈ts,ts[i]?=some t/\W7 r ts i=Q9 r t:=
 ⟨ts[i],Cd hi,A4 hi,yD (A4 hi)⟩
def kI.sp_ok(h:kI n ts r){i:Nat}(hi:i<ts.length):0<=(W7 r ts i).1/\(W7 r ts i).1<(W7 r ts i).2/\(W7 r ts i).2<n:=by
 obtain⟨t,ht,_,e⟩:=h.sp hi;rw[e];unfold Q9;dsimp only;have hm:=h.mem t ht;have ah:=zO hm.1 hm.2 (by have:=h.ok t ht;omega)
 have a1:=FP r t.1;have a2:=FP r t.2;have b1:=ME hm.1;have b2:=ME hm.2
 have:=h.len
 omega
def EM{r:List Int}{p q:Int}(hp:p∈r)(hq:q∈r)(e:h9 r p=h9 r q):p=q:=by
 by_cases h:p=q
 .exact h
 .exact w9 e (zO hp hq h)
def v0D{a b c d:Int}(h1:Jq a b=Jq c d)(h2:max a b=max c d):(a=c/\b=d)\/(a=d/\b=c):=by
 rcases Ki a b with x|x<;>rcases Ki c d with y|y
 .rw[E7 x,E7 y]at h1;rw[Ed x,Ed y]at h2;exact .inl ⟨h1,h2⟩
 .rw[E7 x,Ev y]at h1;rw[Ed x,Fl y]at h2;exact .inr ⟨h1,h2⟩
 .rw[Ev x,E7 y]at h1;rw[Fl x,Ed y]at h2;exact .inr ⟨h2,h1⟩
 .rw[Ev x,Ev y]at h1;rw[Fl x,Fl y]at h2;exact .inl ⟨h2,h1⟩
def kI.sp_inj(h:kI n ts r){i j:Nat}(hi:i<ts.length)(hj:j<ts.length)(e:W7 r ts i=W7 r ts j):i=j:=by
 obtain⟨s,hs,gs,es⟩:=h.sp hi;obtain⟨t,ht,gt,et⟩:=h.sp hj;rw[es,et]at e;unfold Q9 at e;have e1:=lD Bp e;have e2:=lD Mi e;dsimp only at e1 e2;have ms:=h.mem s hs;have mt:=h.mem t ht;have os:=h.ok s hs;have ot:=h.ok t ht;have hc:(h9 r s.1=h9 r t.1/\h9 r s.2=h9 r t.2)\/(h9 r s.1=h9 r t.2/\h9 r s.2=h9 r t.1):=v0D e1 e2
 have est:s=t:=by
  rcases hc with⟨c1,c2⟩|⟨c1,c2⟩
  .exact O3 (EM ms.1 mt.1 c1) (EM ms.2 mt.2 c2)
  .have q1:=EM ms.1 mt.2 c1;have q2:=EM ms.2 mt.1 c2;omega
 subst est;have gi:=(B2.mp gs).2;have gj:=(B2.mp gt).2;have pw:=Hm.mp h.up;rcases Lb i j with q|q|q
 .have:=pw i j hi hj q
  rw[gi,gj]at this;exact w9 this (sZ _)
 .exact q
 .have:=pw j i hj hi q
  rw[gi,gj]at this;exact w9 this (sZ _)
def uP(i j:Nat):i6 r ts w i j=i6 r ts w j i:=by unfold i6;rw[R4]
def wA:i6 r ts w i j=true↔lU (W7 r ts i) (W7 r ts j)=w:=by unfold i6;exact beq_iff_eq
def o3(r:List Int)(ts:List c9)(g:Nat)(i:Nat):Bool:=decide ((W7 r ts i).1<=(g:Int))&&decide ((g:Int)<(W7 r ts i).2)
def oP(r:List Int)(ts:List c9)(i j:Nat):Bool:=lF (lA (W7 r ts i)) (lA (W7 r ts j))
def kB(r:List Int)(ts:List c9)(g:Nat):List Nat:=((A9 ts.length).filter (o3 r ts g)).mergeSort (oP r ts)
def Se(g:Nat):(kB r ts g).Perm ((A9 ts.length).filter (o3 r ts g)):=E2 _ _
def qE{g i:Nat}:i∈kB r ts g↔i<ts.length/\o3 r ts g i=true:=by rw[(Se g).mem_iff,Az,Ag]
def BW(g:Nat):(kB r ts g).Nodup:=(Se g).nodup_iff.mpr (Cj.sublist F4)
def kI.ovr_up(h:kI n ts r)(g:Nat):(kB r ts g).Pairwise λi j=>jF (W7 r ts i) (W7 r ts j):=by
 have h1:(kB r ts g).Pairwise λi j=>oP r ts i j=true:=Ea (λa b c h1 h2=>by
  unfold oP lF at h1 h2 ⊢;simp only[Fq]at h1 h2 ⊢
  exact wL _ _ _ h1 h2) (λa b=>by
  unfold oP lF
  have:=rM (W7 r ts a) (W7 r ts b)
  have h2:=rM (W7 r ts b) (W7 r ts a);unfold lA;rw[this,h2];rcases uT (W7 r ts a) (W7 r ts b) with z|z|z
  .rw[Y1 (λq=>tH z q)];rfl
  .rw[z,Y1 (sZ _)];rfl
  .rw[Y1 (λq=>tH z q)];simp) _
 refine G0 (λ{a b} ha hb q=>?_) (h1.and (BW g));have la:=(qE.mp ha).1;have lb:=(qE.mp hb).1;obtain⟨q1,q2⟩:=q;unfold oP lF at q1;have l2:=rM (W7 r ts b) (W7 r ts a);unfold lA at q1;rw[l2]at q1;rcases uT (W7 r ts a) (W7 r ts b) with z|z|z
 .exact z
 .exact w9 (h.sp_inj la lb z) q2
 .rw[K9 z]at q1;cases q1
def kI.helly(h:kI n ts r)(hk:KW k w){S:List Nat}(hS:S≠[])(hl:∀x∈S,x<ts.length)(hp:PW (i6 r ts w) S):∃g:Nat,(g:Int)<n-1/\∀x∈S,x∈kB r ts g:=by
 have mx:∀T:List Nat,T≠[]->(∀x∈T,x<ts.length)->∃a∈T,∀b∈T,(W7 r ts b).1<=(W7 r ts a).1:=by
  intro T
  induction T with
  |nil=>intro e;exact w9 rfl e
  |cons x T ih=>
   intro _ hl;by_cases hT:T=[]
   .subst hT;exact⟨x,A6,λb hb=>by rw[Ae.mp hb];exact Il _⟩
   .obtain⟨a,ha,hb⟩:=ih hT λy hy=>hl y (A7 _ hy);by_cases hc:(W7 r ts a).1<=(W7 r ts x).1
    .refine⟨x,A6,λb aI=>?_⟩;rcases Ad.mp aI with rfl|z
     .exact Il _
     .exact Int.le_trans (hb b z) hc
    .refine⟨a,A7 _ ha,λb aI=>?_⟩;rcases Ad.mp aI with rfl|z
     .omega
     .exact hb b z
 obtain⟨a,ha,hmax⟩:=mx S hS hl;have oa:=h.sp_ok (hl a ha);refine⟨(W7 r ts a).1.toNat,by omega,λx hx=>qE.mpr ⟨hl x hx,?_⟩⟩;have ox:=h.sp_ok (hl x hx);have e:((W7 r ts a).1.toNat:Int)=(W7 r ts a).1:=El oa.1;unfold o3;rw[e,K9 (hmax x hx)];by_cases hxa:x=a
 .subst hxa;rw[K9 oa.2.1];rfl
 .have:=wA.mp (EW (λi j=>uP (r:=r) (ts:=ts) (w:=w) i j) hp hx ha hxa)
  rw[K9 (Ϭ hk ox.2.1 oa.2.1 this).2];rfl
def kI.tr(h:kI n ts r)(hk:KW k w){done post:List Nat}{t:Nat}(hL:done++t::post=kB r ts g):∀x y,[x,y].Sublist done->i6 r ts w x y=true->i6 r ts w y t=true->i6 r ts w x t=true:=λx y hs h1 h2=>by
 have up:=h.ovr_up g;rw[<-hL]at up
 have sub:[x,y,t].Sublist (done++t::post):=by
  have:([x,y]++[t]).Sublist (done++t::post):=Hr hs (List.singleton_sublist.mpr A6)
  exact this
 have up3:=up.sublist sub;have p1:=Ds.mp up3;have p2:=Ds.mp p1.2
 have m:∀z∈[x,y,t],z∈kB r ts g:=λz hz=>by rw[<-hL];exact sub.subset hz
 have mx:=qE.mp (m x (by simp));have my:=qE.mp (m y (by simp));have mt:=qE.mp (m t (by simp));have ox:=h.sp_ok mx.1;have oy:=h.sp_ok my.1;have ot:=h.sp_ok mt.1;have gx:=mx.2;have gt:=mt.2;unfold o3 at gx gt;simp only[Bi,decide_eq_true_eq]at gx gt;exact wA.mpr (Ņ hk (p1.1 y (by simp)) (p2.1 t (by simp)) ox.2.1 oy.2.1 ot.2.1 (by omega) (wA.mp h1) (wA.mp h2))
end
def z8(i:Nat):D:=.int (i:Int)
def jR(c:List Nat):D:=.tup (c.map z8)
def Z0(r:List Int)(ts:List c9):D:=.lst (ts.map λt=>j4 (Q9 r t))
def Ô{j:Nat}(h:j<=100000):mY (j:Int)=true:=by unfold mY;rw[K9 (by omega),K9 (by omega)];rfl
def uJ{fa:ED}{j:Nat}(h:fa Y=some (.int (j:Int)))(hj:j<=100000):lB fa Y=some ((A9 j).map z8):=by rw[zU h (Ô hj),Ay];unfold Q2;congr 1;refine B4 λq _=>?_;rw[Np];rfl
def uQ{p:D->Bool}{q:Nat->Bool}(l:List Nat)(h:∀i∈l,p (z8 i)=q i):(l.map z8).filter p=(l.filter q).map z8:=by rw[I0];congr 1;exact List.filter_congr λi hi=>h i hi
theorem BK{fb:ED}{Y:K6}{f:D->D}:∀(ds:List D),(∀d∈ds,fb (Y.set 0 (sC d))=some (f d))->oQ fb Y ds=some (ds.map f)
 | [],_=>rfl
 |d::ds,h=>by unfold oQ;rw[h d A6];dsimp only;rw[BK ds λx hx=>h x (A7 _ hx)];rfl
section
variable{n:Int}{ts:List c9}{r:List Int}{k w:Bf}
def XY(S:List Nat):vC lF (S.map λi=>lA (W7 r ts i)) (S.map z8)=(S.mergeSort (oP r ts)).map z8:=by
 unfold vC
 have e:(S.map λi=>lA (W7 r ts i)).zip (S.map z8)=S.map λi=>(lA (W7 r ts i),z8 i):=by
  induction S with
  |nil=>rfl
  |cons a S ih=>rw[Af,Af,Et,ih];rfl
 rw[e]
 have:=List.map_mergeSort (r:=oP r ts) (s:=λ(a b:List Int×D)=>lF a.1 b.1) (f:=λi=>(lA (W7 r ts i),z8 i)) (l:=S) (λa _ b _=>rfl)
 rw[<-this,B1];rfl
theorem Oy(h:kI n ts r){S:List Nat}(hn:S.Nodup)(hl:∀i∈S,i<ts.length):EG (S.map λi=>j4 (W7 r ts i)) (S.map z8)=some ((S.mergeSort (oP r ts)).map z8):=by
 have ab:S.length<64:=by
  have:=yO S (A9 ts.length) hn λi hi=>Ag.mpr (hl i hi)
  rw[At]at this
  have:=h.m12
  omega
 unfold EG;rw[z7 (by rw[A0];exact ab)]
 cases S with
 |nil=>simp[Z6,vC]
 |cons a S=>
  have e1:Z6 ((a::S).map λi=>j4 (W7 r ts i))=none:=rfl
  have e2:mB ((a::S).map λi=>j4 (W7 r ts i))=some ((a::S).map λi=>lA (W7 r ts i)):=by
   have:=CO (nss:=(a::S).map λi=>lA (W7 r ts i)) (λns h=>by
    obtain⟨u,_,rfl⟩:=Ak.mp h
    simp[lA])
   rw[B1]at this;exact this
  have e3:((a::S).map λi=>lA (W7 r ts i)).Nodup:=by refine Bd.mpr (G0 (λ{x y} hx hy hxy z=>hxy ?_) hn);refine h.sp_inj (hl x hx) (hl y hy) ?_;unfold lA at z;have z1:=(Ln z).1;have z2:=(Ln (Ln z).2).1;exact O3 z1 z2
  rw[e1];dsimp only;rw[e2];dsimp only;rw[z7 e3,XY]
def WA(h:kI n ts r)(g:Nat):CQ [Z0 r ts,.int (g:Int)]=some (.lst ((kB r ts g).map z8)):=by
 have e1:W6 [none,some 0,some 1] (lB (jU (b9 (z9 0)))) (u5 0) (v5 (vE FA MP (jI (b9 (jI (b9 (z9 1)) (z9 0))) (dI 0)) (z9 2) (jI (b9 (jI (b9 (z9 1)) (z9 0))) (dI 1)))) (z9 0)
   [sC (Z0 r ts),sC (.int (g:Int)),none]=some (((A9 ts.length).filter (o3 r ts g)).map z8):=by
  have e0:lB (jU (b9 (z9 0))) [sC (Z0 r ts),sC (.int (g:Int)),none]=some ((A9 ts.length).map z8):=by
   refine uJ ?_ (by have:=h.m12;omega)
   refine(oY (ds:=ts.map λt=>j4 (Q9 r t)) (m9 rfl)).trans ?_;rw[A0]
  refine(mD e0 (by rw[A0,At];have:=h.m12;unfold d9;omega)).trans ?_
  refine(Q5 (λY=>∃c0,Y=[c0,sC (Z0 r ts),sC (.int (g:Int))]) (λd=>match d with|.int i=>o3 r ts g i.toNat|_=>false) (λd=>d) _ _ ⟨none,rfl⟩ ?_).trans ?_
  .rintro d hd Y ⟨c0,rfl⟩;obtain⟨i,hi,rfl⟩:=Ak.mp hd;have cu:i<ts.length:=Ag.mp hi;refine⟨_,rfl,⟨_,rfl⟩,?_,λ_=>rfl⟩;have at':jI (b9 (z9 1)) (z9 0) [sC (z8 i),sC (Z0 r ts),sC (.int (g:Int))]=some (j4 (W7 r ts i)):=(nD (ds:=ts.map λt=>j4 (Q9 r t)) (j:=(i:Int)) (m9 rfl) rfl).trans (wI cu);refine J7 (Ϣ (x:=.int (W7 r ts i).1) (y:=.int (g:Int)) (z:=.int (W7 r ts i).2) (a:=decide ((W7 r ts i).1<=(g:Int))) (b:=decide ((g:Int)<(W7 r ts i).2)) ?_ rfl rfl (λ_=>?_) (λ_=>rfl))
   .exact(nD (ds:=[.int (W7 r ts i).1,.int (W7 r ts i).2]) (j:=0) (vF at') rfl).trans rfl
   .exact(nD (ds:=[.int (W7 r ts i).1,.int (W7 r ts i).2]) (j:=1) (vF at') rfl).trans rfl
  .rw[uQ (q:=o3 r ts g) _ (λi _=>rfl),Hj]
 have e2:HA [sC (Z0 r ts),sC (.int (g:Int)),none]=some (.rt (.lst ((kB r ts g).map z8))):=by
  refine w8 (Q0 (mU e1)) (lJ (mU ?_));show qB [none,some 0] (b9 (z9 2)) (jI (b9 (z9 1)) (z9 0)) [sC (Z0 r ts),sC (.int (g:Int)),sC (.lst (((A9 ts.length).filter (o3 r ts g)).map z8))]=some ((kB r ts g).map z8);have lt:∀i∈(A9 ts.length).filter (o3 r ts g),i<ts.length:=λi hi=>Ag.mp (Az.mp hi).1;have nd:((A9 ts.length).filter (o3 r ts g)).Nodup:=Cj.sublist F4
  unfold kB;generalize (A9 ts.length).filter (o3 r ts g)=S at lt nd
  have hm:oQ (jI (b9 (z9 1)) (z9 0)) [none,sC (Z0 r ts)] (S.map z8)=some (S.map λi=>j4 (W7 r ts i)):=by
   refine(BK (f:=λd=>match d with|.int i=>j4 (W7 r ts i.toNat)|_=>d) _ λd hd=>?_).trans ?_
   .obtain⟨i,hi,rfl⟩:=Ak.mp hd;exact(nD (ds:=ts.map λt=>j4 (Q9 r t)) (j:=(i:Int)) (m9 rfl) rfl).trans (wI (lt i hi))
   .rw[B1];rfl
  unfold qB;rw[show b9 (z9 2) [sC (Z0 r ts),sC (.int (g:Int)),sC (.lst (S.map z8))]=some (S.map z8) from rfl];dsimp only;rw[show nF [none,some 0] [sC (Z0 r ts),sC (.int (g:Int)),sC (.lst (S.map z8))]=[none,sC (Z0 r ts)] from rfl,hm];exact Oy h nd lt
 show kY (HA [sC (Z0 r ts),sC (.int (g:Int)),none])=_;rw[e2];rfl
def Ts(c:List Nat):AR (jR c)=some (c.length:Int):=by show some ((c.map z8).length:Int)=_;rw[A0]
theorem QX:∀cs:List (List Nat),oW (cs.map jR)=some (cs.map λc=>(c.length:Int))
 | []=>rfl
 |c::cs=>by rw[Af];unfold oW;rw[Ts c];dsimp only;rw[QX cs];rfl
theorem IG{f:Nat->Int}:∀(q j b:Nat),b<j->(∀i,i<j->f i<=f b)->Y6 (λi j=>decide (f j<f i)) q j b<j+q/\∀i,i<j+q->f i<=f (Y6 (λi j=>decide (f j<f i)) q j b)
 | 0,j,b,hb,hm=>⟨hb,hm⟩
 |q+1,j,b,hb,hm=>by
  unfold Y6;by_cases hc:f b<f j
  .rw[z7 (K9 hc)]
   have:=IG (f:=f) q (j+1) j (by omega) λi hi=>by
    rcases G4.mp hi with z|rfl
    .have:=hm i z;omega
    .exact Il _
   rw[show j+(q+1)=j+1+q by omega];exact this
  .rw[y3 (by simpa using hc)]
   have:=IG (f:=f) q (j+1) b (by omega) λi hi=>by
    rcases G4.mp hi with z|rfl
    .exact hm i z
    .omega
   rw[show j+(q+1)=j+1+q by omega];exact this
theorem Po(cs:List (List Nat)):∃b,xD (cs.map jR) (jR [])=some (jR b)/\xS cs b:=by
 unfold xD;rw[QX];dsimp only
 cases cs with
 |nil=>exact⟨[],rfl,.inl ⟨rfl,rfl⟩⟩
 |cons c cs=>
  rw[Af];dsimp only;rw[<-Af];unfold qH;have hgt:sL ((c::cs).map λc=>(c.length:Int))=λi j=>decide (((c::cs).map λc=>(c.length:Int)).getD j 0<((c::cs).map λc=>(c.length:Int)).getD i 0):=rfl;rw[hgt]
  have:=IG (f:=λi=>((c::cs).map λc=>(c.length:Int)).getD i 0) (((c::cs).map jR).length-1) 1 0 (by omega) (λi hi=>by rw[show i=0 by omega];exact Il _)
  generalize Y6 (λi j=>decide (((c::cs).map λc=>(c.length:Int)).getD j 0<((c::cs).map λc=>(c.length:Int)).getD i 0)) (((c::cs).map jR).length-1) 1 0=b at this;obtain⟨h1,h2⟩:=this
  have ab:1+(((c::cs).map jR).length-1)=(c::cs).length:=by rw[A0,As];omega
  rw[ab]at h1 h2
  have get:∀(i:Nat) (hi:i<(c::cs).length),((c::cs).map λc=>(c.length:Int)).getD i 0=((c::cs)[i].length:Int):=λi hi=>by rw[Cu,Am,A4 hi];rfl
  refine⟨(c::cs)[b],?_,.inr ⟨Cd h1,λd hd=>?_⟩⟩
  .rw[Am,A4 h1];rfl
  .obtain⟨i,hi,rfl⟩:=Gw.mp hd
   have:=h2 i hi
   rw[get i hi,get b h1]at this;omega
def Ž{c:List Nat}{u:Nat}(h:c.getLast?=some u)(hc:c.length<=1000):l6 (c.map z8) (-1)=some (z8 u):=by
 obtain⟨ys,rfl⟩:=Hn.mp h;unfold l6 rC;rw[y3 (by omega),z7 (by rw[A0,Ah,Bb];omega)]
 show ((ys++[u]).map z8)[(-1+(((ys++[u]).map z8).length:Int)).toNat]?=_;rw[A0,Ah,Bb,show (-1+((ys.length+1:Nat):Int)).toNat=ys.length by omega,Am];simp
def rG(r:List Int)(ts:List c9)(w:Bf)(t:Nat)(c:List Nat):Bool:=match c.getLast? with|some u=>i6 r ts w u t|none=>false
def Tt:EO:=Q8 (f9 5 (kE (W6 [none,some 0,some 4,some 2] (kX 3) (u5 0) (v5 (x5 Q7 (y9 (jI (b9 (z9 1)) (jI (b9 (z9 0)) (sD (dI 1)))) (y9 (jI (b9 (z9 1)) (z9 2)) (jW 3))))) (z9 0))))
 (pU 3 (d2 jT (zT (b9 (z9 5)) (kD i3)) (kD (jW 4))))
def Ys(h:kI n ts r)(hk:KW k w){cs:List (List Nat)}{t:Nat}{c5:Option Cell}(ht:t<ts.length)(gp:cs.length<=12)(hc:∀c∈cs,c≠[]/\c.length<=12/\∀x∈c,x<ts.length):
  ∃b,xS (cs.filter (rG r ts w t)) b/\Tt [sC (Z0 r ts),sC tiesD,sC (.str k),some (.ow (cs.map jR)),sC (z8 t),c5] =
   some (.nx [sC (Z0 r ts),sC tiesD,sC (.str k),some (.ow ((cs++[b++[t]]).map jR)),sC (z8 t),sC (.lst ((cs.filter (rG r ts w t)).map jR))]):=by
 have e1:W6 [none,some 0,some 4,some 2] (kX 3) (u5 0) (v5 (x5 Q7 (y9 (jI (b9 (z9 1)) (jI (b9 (z9 0)) (sD (dI 1)))) (y9 (jI (b9 (z9 1)) (z9 2)) (jW 3))))) (z9 0)
   [sC (Z0 r ts),sC tiesD,sC (.str k),some (.ow (cs.map jR)),sC (z8 t),c5]=some ((cs.filter (rG r ts w t)).map jR):=by
  refine(mD (ds:=cs.map jR) rfl (by rw[A0];unfold d9;omega)).trans ?_
  refine(Q5 (λY=>∃c0,Y=[c0,sC (Z0 r ts),sC (z8 t),sC (.str k)]) (λd=>match d with|.tup ds=>(match ds.getLast? with|some (.int u)=>i6 r ts w u.toNat t|_=>false)|_=>false) (λd=>d) _ _ ⟨none,rfl⟩ ?_).trans ?_
  .rintro d hd Y ⟨c0,rfl⟩;obtain⟨c,hcm,rfl⟩:=Ak.mp hd;obtain⟨h1,h2,h3⟩:=hc c hcm;refine⟨_,rfl,⟨_,rfl⟩,?_,λ_=>rfl⟩
   cases hl:c.getLast? with
   |none=>exact w9 (Ho.mp hl) h1
   |some u=>
    have hu:u<ts.length:=h3 u (List.mem_of_getLast? hl)
    have el:(c.map z8).getLast?=some (z8 u):=by obtain⟨ys,rfl⟩:=Hn.mp hl;simp
    show v5 _ _=some (match (c.map z8).getLast? with|some (.int u)=>i6 r ts w u.toNat t|_=>false);rw[el];show v5 _ _=some (i6 r ts w u t);refine J7 ?_;have a0:jI (b9 (z9 0)) (sD (dI 1)) [sC (jR c),sC (Z0 r ts),sC (z8 t),sC (.str k)]=some (z8 u):=(nD (ds:=c.map z8) (j:=-1) (vF rfl) rfl).trans (Ž hl (by omega));have a1:jI (b9 (z9 1)) (jI (b9 (z9 0)) (sD (dI 1))) [sC (jR c),sC (Z0 r ts),sC (z8 t),sC (.str k)]=some (j4 (W7 r ts u)):=(nD (ds:=ts.map λt=>j4 (Q9 r t)) (j:=(u:Int)) (m9 rfl) a0).trans (wI hu)
    have a2:jI (b9 (z9 1)) (z9 2) [sC (jR c),sC (Z0 r ts),sC (z8 t),sC (.str k)]=some (j4 (W7 r ts t)):=(nD (ds:=ts.map λt=>j4 (Q9 r t)) (j:=(t:Int)) (m9 rfl) rfl).trans (wI ht);exact(x9 (u7 a1 (u7 a2 (u7 (d:=.str k) rfl rfl)))).trans (PJ hk.tab _ _)
  .rw[Hj,I0];refine lD (λl=>some (List.map jR l)) (List.filter_congr λc hcm=>?_);show (match (c.map z8).getLast? with|some (.int u)=>i6 r ts w u.toNat t|_=>false)=rG r ts w t c;unfold rG;rw[List.getLast?_map]
   cases c.getLast? with
   |none=>rfl
   |some u=>rfl
 obtain⟨b,eb,hb⟩:=Po (cs.filter (rG r ts w t));refine⟨b,hb,?_⟩
 have hbl:b.length<=12:=by
  rcases hb with⟨_,rfl⟩|⟨hb,_⟩
  .exact Bg _
  .exact(hc b (Az.mp hb).1).2.1
 refine w8 (Q0 (mU e1)) ?_;refine(KS (ds:=cs.map jR) (d:=jR (b++[t])) rfl ?_ (by rw[A0];unfold d9;omega)).trans ?_
 .refine(kK (x:=jR b) (y:=jR [t]) ?_ (oZ (ds:=[z8 t]) rfl (show 1<=d9 by decide))).trans ?_
  .show xD ((cs.filter (rG r ts w t)).map jR) (jR [])=some (jR b);exact eb
  .show (if (b.map z8).length+([t].map z8).length<=d9 then some (D.tup (b.map z8++[t].map z8)) else none)=_;rw[z7 (by rw[A0,A0,Bb];unfold d9;omega),<-B6]
   rfl
 .rw[B6];rfl
theorem ZR:rG r ts w t c=true↔∃u,c.getLast?=some u/\i6 r ts w u t=true:=by
 unfold rG
 cases c.getLast? with
 |none=>exact⟨(λe=>by cases e),(λ⟨u,e,_⟩=>by cases e)⟩
 |some v=>exact⟨λe=>⟨v,rfl,e⟩,λ⟨u,e,q⟩=>by cases e;exact q⟩
def UY(h:kI n ts r)(hk:KW k w)(g:Nat):∃b:List Nat,DD [Z0 r ts,.lst ((kB r ts g).map z8),.str k]=some (jR b) /\
  PW (i6 r ts w) b/\b.Sublist (kB r ts g)/\∀e:List Nat,e.Sublist (kB r ts g)->PW (i6 r ts w) e->e.length<=b.length:=by
 have hL:(kB r ts g).length<=12:=by
  have:=yO (kB r ts g) (A9 ts.length) (BW g) λi hi=>Ag.mpr (qE.mp hi).1
  rw[At]at this
  have:=h.m12
  omega
 obtain⟨Y',l1,cs,c4,c5,bV,ar,rfl⟩:=yN (h:=u5 4) (g:=Tt) (λpre Y=>∃cs c4 c5,sP (i6 r ts w) ((kB r ts g).take pre.length) cs/\cs.length=pre.length /\
   Y=[sC (Z0 r ts),sC (.lst ((kB r ts g).map z8)),sC (.str k),some (.ow (cs.map jR)),c4,c5])
  (ds:=(kB r ts g).map z8) (Y:=[sC (Z0 r ts),sC (.lst ((kB r ts g).map z8)),sC (.str k),some (.ow []),none,none]) ⟨[],none,none,by rw[Dt,Jb];exact sP.zero,rfl,rfl⟩ (λpre d post Y he hI=>by
   obtain⟨cs,c4,c5,bV,ar,rfl⟩:=hI;have ab:=lD Ih he;rw[A0,Ah,As]at ab
   have am:pre.length<(kB r ts g).length:=by omega
   have hd:d=z8 (kB r ts g)[pre.length]:=by
    have h1:((kB r ts g).map z8)[pre.length]?=some d:=by rw[<-he];simp
    rw[Am,A4 am]at h1;exact(Ba h1).symm
   have ht:=(qE.mp (Cd am)).1
   have dR:(kB r ts g).take pre.length++(kB r ts g)[pre.length]::(kB r ts g).drop (pre.length+1)=kB r ts g:=by rw[<-Hl am,List.take_append_drop]
   have bA:(kB r ts g).take (pre.length+1)=(kB r ts g).take pre.length++[(kB r ts g)[pre.length]]:=(List.take_append_getElem am).symm;generalize (kB r ts g)[pre.length]=t at hd ht dR bA;subst hd
   have hok:∀c∈cs,c≠[]/\c.length<=12/\∀x∈c,x<ts.length:=λc hc=>by obtain⟨_,q2,q3⟩:=bV.ok c hc;have q4:c.Sublist (kB r ts g):=q2.trans (L1 _ _);exact⟨q3,Bn q4.length_le hL,λx hx=>(qE.mp (q4.subset hx)).1⟩
   obtain⟨b,hb,e⟩:=Ys h hk (tiesD:=.lst ((kB r ts g).map z8)) (cs:=cs) (t:=t) (c5:=c5) ht (by omega) hok;refine⟨_,_,rfl,.inl e,⟨cs++[b++[t]],_,_,?_,?_,rfl⟩⟩
   .rw[Ah,Bb,bA];obtain⟨b1,b2⟩:=xS.step (λc hc=>(hok c hc).1) hb (λc hc=>ZR (r:=r) (ts:=ts) (w:=w) (t:=t) (c:=c));exact bV.step (h.tr hk dR) b1 b2
   .rw[Ah,Ah,ar];rfl)
 rw[A0,Lu]at bV;obtain⟨b,eb,hb⟩:=Po cs;refine⟨b,?_,bV.best hb⟩;refine mX (x:=On [sC (Z0 r ts),sC (.lst ((kB r ts g).map z8)),sC (.str k),none,none,none]) ?_;refine w8 (zV (ds:=[]) rfl) ?_;refine w8 ((lZ (ds:=(kB r ts g).map z8) rfl).trans l1) ?_;refine lJ ?_;show xD (cs.map jR) (jR [])=some (jR b);exact eb
def ā(a b:List Nat):wD (jR a) (jR b)=some (jR (if a.length<b.length then b else a)):=by
 have e:=Ts;unfold wD;rw[e a,e b];dsimp only;by_cases hc:a.length<b.length
 .rw[z7 hc,z7 (by omega)]
 .rw[y3 hc,y3 (by omega)]
theorem yM:∀f:List Nat,Z6 (f.map z8)=some (f.map λ(i:Nat)=>(i:Int))
 | []=>rfl
 |a::f=>by
  rw[Af];unfold z8 Z6
  have:=yM f
  unfold z8 at this;rw[this];rfl
def YX(f:List Nat):qR (f.map λ(i:Nat)=>(i:Int))=(f.mergeSort λa b=>decide (a<=b)).map λ(i:Nat)=>(i:Int):=by
 unfold qR
 exact(List.map_mergeSort (r:=λ(a b:Nat)=>decide (a<=b)) (s:=λ(a b:Int)=>decide (a<=b)) (f:=λ(i:Nat)=>(i:Int)) (l:=f) (λa _ b _=>by
  by_cases hc:a<=b
  .rw[K9 hc,K9 (by omega)]
  .rw[Y1 hc,Y1 (by omega)])).symm
def YW(f:List Nat)(h:f.length<64):lR (f.map z8)=some ((f.mergeSort λa b=>decide (a<=b)).map z8):=by
 unfold lR;rw[z7 (by rw[A0];exact h),yM]
 dsimp only;rw[YX,B1];rfl
def ÿ(f:List Nat)(hn:f.Nodup):(f.mergeSort λa b=>decide (a<=b)).Pairwise (· < ·):=by
 have h1:(f.mergeSort λa b=>decide (a<=b)).Pairwise λa b=>decide (a<=b)=true:=Ea (λa b c h1 h2=>by
  have:=lC h1
  have:=lC h2
  exact K9 (by omega)) (λa b=>by
  by_cases hc:a<=b
  .rw[K9 hc];rfl
  .rw[K9 (show b<=a by omega)];simp) _
 have h2:(f.mergeSort λa b=>decide (a<=b)).Nodup:=(E2 _ _).nodup_iff.mpr hn;refine(h1.and h2).imp λ{a b} q=>?_
 have:=lC q.1
 have:=q.2
 omega
structure p8(m:Nat)(cl:Nat->Nat->Bool)(F:List Nat):Prop where
 up:F.Pairwise (· < ·)
 lt:∀x∈F,x<m
 pw:PW cl F
 top:∀S:List Nat,S.Nodup->(∀x∈S,x<m)->PW cl S->S.length<=F.length
def Wa(h:kI n ts r)(hk:KW k w):∃F:List Nat,zE [Y4 n ts,.tup (r.map D.int),.str k]=some (jR F)/\p8 ts.length (i6 r ts w) F:=by
 have hs:=HK (n:=n) h.nd h.rl h.hm' h.mem
 have hlo:0<=n:=by have:=h.len;omega
 have h6:=h.n6
 obtain⟨Y',l1,f,c5,hg,rfl⟩:=yN (h:=u5 5) (g:=f9 4 (d2 wD (z9 4) (x5 DD (y9 (z9 3) (y9 (x5 CQ (jQ 3 5)) (jW 2))))))
  (λpre Y=>∃f c5,sN ts.length (i6 r ts w) (kB r ts) pre.length f/\Y=[sC (Y4 n ts),sC (.tup (r.map D.int)),sC (.str k),sC (Z0 r ts),sC (jR f),c5])
  (ds:=Q2 0 (n-1).toNat) (Y:=[sC (Y4 n ts),sC (.tup (r.map D.int)),sC (.str k),sC (Z0 r ts),sC (jR []),none]) ⟨[],none,sN.zero,rfl⟩ (λpre d post Y he hI=>by
   obtain⟨f,c5,hg,rfl⟩:=hI;have ab:=lD Ih he;rw[rS,Ah,As]at ab
   have hd:d = .int (pre.length:Int):=by
    have h1:(Q2 0 (n-1).toNat)[pre.length]?=some d:=by rw[<-he];simp
    rw[KA (by omega)]at h1;exact(Ba h1).symm
   subst hd;obtain⟨b,e,hb⟩:=UY h hk pre.length;refine⟨_,_,rfl,.inl (Q0 (d:=jR (if f.length<b.length then b else f)) ?_),⟨_,_,?_,rfl⟩⟩
   .refine(kK (x:=jR f) (y:=jR b) rfl ?_).trans (ā f b);refine(x9 (ds:=[Z0 r ts,.lst ((kB r ts pre.length).map z8),.str k]) (u7 rfl (u7 ?_ rfl))).trans e;exact(x9 (ds:=[Z0 r ts,.int (pre.length:Int)]) rfl).trans (WA h _)
   .rw[Ah,Bb]
    exact hg.step (BW _) (λx hx=>(qE.mp hx).1) hb)
 rw[rS]at hg
 have hfl:f.length<=12:=by
  have:=yO f (A9 ts.length) hg.nd λi hi=>Ag.mpr (hg.lt i hi)
  rw[At]at this
  have:=h.m12
  omega
 have pm:(f.mergeSort λa b=>decide (a<=b)).Perm f:=E2 _ _;refine⟨f.mergeSort λa b=>decide (a<=b),?_,⟨ÿ f hg.nd,λx hx=>hg.lt x (pm.mem_iff.mp hx),ä (λi j=>uP i j) hg.nd pm.symm hg.pw,λS hS hl hp=>?_⟩⟩
 .have fin:GJ [sC (Y4 n ts),sC (.tup (r.map D.int)),sC (.str k),none,none,none]=some (.rt (jR (f.mergeSort λa b=>decide (a<=b)))):=by
   refine w8 (Q0 ((x9 (ds:=[Y4 n ts,.tup (r.map D.int)]) rfl).trans hs)) ?_;refine w8 (Q0 (d:=jR []) (oZ (ds:=[]) rfl (show 0<=d9 by decide))) ?_;refine w8 ((lZ (ds:=Q2 0 (n-1).toNat) (zU (j:=n-1) ((kK (x:=.int n) (y:=.int 1) rfl rfl).trans rfl) (by unfold mY;rw[K9 (by omega),K9 (by omega)];rfl))).trans l1) ?_
   refine lJ (zW ((LW (ds:=f.map z8) (vF rfl)).trans (YW f (by omega))))
  show kY (GJ [sC (Y4 n ts),sC (.tup (r.map D.int)),sC (.str k),none,none,none])=_;rw[fin];rfl
 .rw[pm.length_eq];refine hg.all (λi j=>uP i j) (λg _=>BW g) (λS hS hn hl hp=>?_) hS hl hp;obtain⟨g,g1,g2⟩:=h.helly hk hS hl hp;exact⟨g,by omega,g2⟩
end
end P
namespace P
open PySem L2
theorem Y3{α:Type}[DecidableEq α]:∀(xs ys:List α),xs.Nodup->(∀x∈xs,x∈ys)->xs.length<=ys.length
 | [],_,_,_=>Bg _
 |x::xs,ys,hn,hs=>by
  have bo:=Bq.mp hn;have p:=List.perm_cons_erase (hs x A6)
  have ih:=Y3 xs (ys.erase x) bo.2 λy hy=>by have ah:y≠x:=λe=>bo.1 (e▸hy);exact(Jv ah).mpr (hs y (A7 _ hy))
  have:=p.length_eq
  rw[As]at this ⊢;omega
section
variable{cl:Nat->Nat->Bool}
structure GA(cl:Nat->Nat->Bool)(m:Nat)(c:Nat->Nat)(K:Nat):Prop where
 lt:∀i,i<m->c i<K
 ne:∀i j,i<m->j<m->cl i j=true->c i≠c j
structure kC(cl:Nat->Nat->Bool)(G:List Nat)(K u:Nat)(P:List (Nat×Nat)):Prop where
 nd:(P.map Bp).Nodup
 sub:∀x∈P,x.1∈G
 ok:∀x∈P,∀y∈P,cl x.1 y.1=true->x.2≠y.2
 use:∀v,(∃x∈P,x.2=v)↔v<u
 uK:u<=K
structure mK(cl:Nat->Nat->Bool)(G:List Nat)(c:Nat->Nat)(K:Nat):Prop where
 lt:∀i∈G,c i<K
 ne:∀i∈G,∀j∈G,cl i j=true->c i≠c j
def xT(c:Nat->Nat)(P:List (Nat×Nat)):Prop:=∀x∈P,c x.1=x.2
variable{G:List Nat}{K u:Nat}{P:List (Nat×Nat)}
def kC.zero:kC cl G K 0 []:=⟨E6,λx h=>by simp at h,λx h=>by simp at h,λv=>⟨λ⟨x,h,_⟩=>by simp at h,λh=>by omega⟩,Bg _⟩
def kC.add(h:kC cl G K u P)(hs:∀i j,cl i j=cl j i)(hr:∀i,cl i i=false){t v:Nat}(ht:t∈G)(hn:t∉P.map Bp)(hv:v<=u)(hK:v<K)(bD:∀x∈P,cl t x.1=true->x.2≠v):
  kC cl G K (if v=u then u+1 else u) (P++[(t,v)]):=by
 refine⟨?_,λx hx=>?_,λx hx y hy hc=>?_,λw=>?_,by have:=h.uK;split<;>omega⟩
 .rw[B6,Bz];refine⟨h.nd,by simp,λa ha b hb e=>?_⟩
  have:b=t:=by simpa using hb
  exact hn (this▸e▸ha)
 .rcases Aw.mp hx with z|z
  .exact h.sub x z
  .rw[Ae.mp z];exact ht
 .rcases Aw.mp hx with z|z<;>rcases Aw.mp hy with z'|z'
  .exact h.ok x z y z' hc
  .rw[Ae.mp z']at hc ⊢;exact bD x z (by rw[hs];exact hc)
  .rw[Ae.mp z]at hc ⊢;exact λe=>bD y z' hc e.symm
  .rw[Ae.mp z,Ae.mp z']at hc;rw[hr]at hc;cases hc
 .constructor
  .rintro ⟨x,hx,rfl⟩;rcases Aw.mp hx with z|z
   .have:=(h.use x.2).mp ⟨x,z,rfl⟩
    split<;>omega
   .rw[Ae.mp z];show v<_
    split<;>omega
  .intro hw;by_cases c:w=v
   .exact⟨(t,v),Ac _ (Ae.mpr rfl),c.symm⟩
   .obtain⟨x,hx,e⟩:=(h.use w).mpr (by split at hw<;>omega)
    exact⟨x,B7 _ hx,e⟩
def kC.try(h:kC cl G K u P)(hc:mK cl G c K)(he:xT c P){t:Nat}(ht:t∈G)(hn:t∉P.map Bp):
  ∃v,v<=u/\v<K/\(∀x∈P,cl t x.1=true->x.2≠v)/\∃c',mK cl G c' K/\xT c' (P++[(t,v)]):=by
 have aA:∀c:Nat->Nat,mK cl G c K->xT c P->c t<=u->∃v,v<=u/\v<K/\(∀x∈P,cl t x.1=true->x.2≠v)/\∃c',mK cl G c' K/\xT c' (P++[(t,v)]):=λc hc he hu=>by
  refine⟨c t,hu,hc.lt t ht,λx hx ar e=>hc.ne t ht x.1 (h.sub x hx) ar (by rw[he x hx,e]),c,hc,λx hx=>?_⟩;rcases Aw.mp hx with z|z
  .exact he x z
  .rw[Ae.mp z]
 by_cases hu:c t<=u
 .exact aA c hc he hu
 .let sw:Nat->Nat:=λv=>if v=u then c t else if v=c t then u else v
  have inj:∀a b,sw a=sw b->a=b:=λa b e=>by simp only[sw]at e;split at e<;>split at e<;>(try split at e)<;>(try split at e)<;>omega
  refine aA (λi=>sw (c i)) ⟨λi hi=>?_,λi hi j hj ar e=>hc.ne i hi j hj ar (inj _ _ e)⟩ (λx hx=>?_) ?_
  .have:=hc.lt i hi
   have:=hc.lt t ht
   show (if c i=u then c t else if c i=c t then u else c i)<K;split
   .omega
   .split<;>omega
  .have hv:=(h.use x.2).mp ⟨x,hx,rfl⟩;show (if c x.1=u then c t else if c x.1=c t then u else c x.1)=x.2;rw[he x hx,y3 (by omega),y3 (by omega)]
  .show (if c t=u then c t else if c t=c t then u else c t)<=u;rw[y3 (by omega),z7 rfl];exact Aj _
def kC.full(h:kC cl G K u P)(hG:G.Nodup)(hl:P.length=G.length):∀t∈G,t∈P.map Bp:=λt ht=>by
 by_cases c:t∈P.map Bp
 .exact c
 .exfalso;have av:(t::P.map Bp).Nodup:=Bq.mpr ⟨c,h.nd⟩
  have bY:∀x∈t::P.map Bp,x∈G:=λx hx=>by
   rcases Ad.mp hx with z|z
   .rw[z];exact ht
   .obtain⟨y,hy,rfl⟩:=Ak.mp z;exact h.sub y hy
  have:=Y3 _ _ av bY
  rw[As,A0]at this;omega
end
end P
namespace P
open PySem L2 L3
def jB(P:List (Nat×Nat)):List d3:=P.map λx=>(Bv (x.1:Int):d3)
def jM(P:List (Nat×Nat)):List D:=P.map λx=>z8 x.2
def jC(P:List (Nat×Nat)):D:=.dct (jB P) (jM P)
theorem wC(t:Nat):∀P:List (Nat×Nat),kF (jB P) (jM P) (Bv (t:Int))=(P.lookup t).map z8
 | []=>rfl
 | (a,b)::P=>by
  show (if (Bv (a:Int):d3)=Bv (t:Int) then some (z8 b) else kF (jB P) (jM P) (Bv (t:Int)))=_;rw[Bm,wC t P];by_cases h:a=t
  .subst h;rw[z7 rfl,beq_self_eq_true];rfl
  .rw[y3 (λz=>h (by have:=Fm z;omega)),show (t==a)=false from by rw[beq_eq_false_iff_ne];exact Ch h]
theorem BJ{P:List (Nat×Nat)}(hn:(P.map Bp).Nodup){t v:Nat}:P.lookup t=some v↔(t,v)∈P:=by
 induction P with
 |nil=>simp
 |cons x P ih=>
  obtain⟨a,b⟩:=x;rw[Af]at hn;have bo:=Bq.mp hn;rw[Bm];by_cases h:t=a
  .subst h;rw[beq_self_eq_true];constructor
   .intro z;cases z;exact A6
   .intro z;rcases Ad.mp z with y|y
    .rw[(Jx y).2]
    .exact w9 (C3 (f:=Bp) y) bo.1
  .rw[show (t==a)=false from by rw[beq_eq_false_iff_ne];exact h]
   dsimp only;rw[ih bo.2,Ad];exact⟨.inr,λz=>z.elim (λy=>w9 (Jx y).1 h) id⟩
theorem wU{P:List (Nat×Nat)}:(P.lookup t).isSome=decide (t∈P.map Bp):=by
 induction P with
 |nil=>rfl
 |cons x P ih=>
  obtain⟨a,b⟩:=x;rw[Bm,Af];by_cases h:t=a
  .subst h;rw[beq_self_eq_true,K9 A6];rfl
  .rw[show (t==a)=false from by rw[beq_eq_false_iff_ne];exact h]
   dsimp only;rw[ih];refine decide_eq_decide.mpr ⟨A7 _,λz=>(Ad.mp z).elim (λy=>w9 y h) id⟩
def BY{P:List (Nat×Nat)}(h:(P.map Bp).Nodup):(jB P).Nodup:=by unfold jB;rw[M5,Bd]at *;exact h.imp λ{a b} q z=>q (by have:=Fm z;omega)
def Þ{P:List (Nat×Nat)}{t:Nat}(h:t∉P.map Bp):(Bv (t:Int):d3)∉jB P:=λz=>by
 obtain⟨x,hx,e⟩:=Ak.mp z
 have:x.1=t:=by have:=Fm e;omega
 exact h (this▸C3 hx)
def EV{P:List (Nat×Nat)}{t v:Nat}(h:t∉P.map Bp):kP (jB P) (jM P) (Bv (t:Int)) (z8 v)=(jB (P++[(t,v)]),jM (P++[(t,v)])):=by
 rw[wM _ _ _ _ (by unfold jB jM;rw[A0,A0]) (Þ h)]
 unfold jB jM;rw[B6,B6];rfl
def jD(R:Nat->List Nat)(m:Nat):D:=.lst ((A9 m).map λi=>.lst ((R i).map z8))
def KL{R:Nat->List Nat}{m t:Nat}(h:t<m):l6 ((A9 m).map λi=>D.lst ((R i).map z8)) (t:Int)=some (.lst ((R t).map z8)):=by unfold l6;rw[A0,At,DT h];show ((A9 m).map λi=>D.lst ((R i).map z8))[t]?=_;rw[Am,Dl h];rfl
def lP(R:Nat->List Nat)(P:List (Nat×Nat))(t:Nat):List Nat:=((R t).filter λj=>decide (j∈P.map Bp)).map λj=>(P.lookup j).getD 0
def CA{P:List (Nat×Nat)}(hn:(P.map Bp).Nodup){t v:Nat}:v∈lP R P t↔∃x∈P,x.1∈R t/\x.2=v:=by
 unfold lP;rw[Ak];constructor
 .rintro ⟨j,hj,rfl⟩;obtain⟨h1,h2⟩:=Az.mp hj
  have h3:(P.lookup j).isSome=true:=by rw[wU];exact h2
  obtain⟨v,hv⟩:=Dj.mp h3;exact⟨(j,v),(BJ hn).mp hv,h1,by rw[hv];rfl⟩
 .rintro ⟨⟨j,v'⟩,hx,h1,rfl⟩;refine⟨j,Az.mpr ⟨h1,K9 (C3 (f:=Bp) hx)⟩,?_⟩;rw[(BJ hn).mpr hx];rfl
def Sz{α:Type}{f g:K6->Option α}(h:f Y=none):sE f g Y=g Y:=by unfold sE;rw[h]
def GF{R:Nat->List Nat}{m t:Nat}(ht:t<m)(hl:(R t).length<=1000):J0 [jD R m,jC P,z8 t]=some (.lst ((lP R P t).map z8)):=by
 refine mX (x:=Op [sC (jD R m),sC (jC P),sC (z8 t)]) ?_;refine lJ (mU ((mD (ds:=(R t).map z8) (m9 ((nD (ds:=(A9 m).map λi=>D.lst ((R i).map z8)) (j:=(t:Int)) rfl rfl).trans (KL ht))) (by rw[A0];unfold d9;omega)).trans ?_))
 refine(Q5 (λY=>∃c,Y=[c,sC (jC P)]) (λd=>match d with|.int x=>(P.lookup x.toNat).isSome|_=>false) (λd=>match d with|.int x=>z8 ((P.lookup x.toNat).getD 0)|_=>.non) _ _ ⟨none,rfl⟩ ?_).trans ?_
 .rintro d hd Y ⟨c,rfl⟩;obtain⟨j,hj,rfl⟩:=Ak.mp hd;have lk:kF (jB P) (jM P) (Bv (j:Int))=(P.lookup j).map z8:=wC j P;refine⟨_,rfl,⟨_,rfl⟩,(Sz rfl).trans (J7 ?_),λhh=>?_⟩
  .show some (D.bl (kF (jB P) (jM P) (Bv (j:Int))).isSome)=some (D.bl (P.lookup (j:Int).toNat).isSome);rw[lk,Ay,Fs]
  .show kF (jB P) (jM P) (Bv (j:Int))=some (z8 ((P.lookup (j:Int).toNat).getD 0))
   have hh':(P.lookup j).isSome=true:=by
    have:(P.lookup (j:Int).toNat).isSome=true:=hh
    rw[Ay]at this;exact this
   obtain⟨v,hv⟩:=Dj.mp hh';rw[lk,Ay,hv];rfl
 .rw[uQ (q:=λj=>decide (j∈P.map Bp)) _ (λi _=>by
   show (P.lookup (i:Int).toNat).isSome=_
   rw[Ay,wU])]
  unfold lP;rw[B1,B1];rfl
def tY(vs:List Nat):Nat:=(lS (vs.map λ(i:Nat)=>(i:Int))).length
def HX{vs:List Nat}(hl:vs.length<=1000){d:D}(hd:d = .lst (vs.map z8)\/d = .tup (vs.map z8)):J8 [d]=some (z8 (tY vs)):=by
 show kY (HG [sC d])=_
 have hs:b9 (z9 0) [sC d]=some (vs.map z8):=by rcases hd with rfl|rfl<;>rfl
 have fin:HG [sC d]=some (.rt (z8 (tY vs))):=by
  refine lJ ?_;unfold DN;rw[hs];dsimp only;rw[yM];dsimp only;rw[z7 (by rw[A0];omega)]
  rfl
 rw[fin];rfl
def QE{vs:List Nat}{u:Nat}(h:∀v,v∈vs↔v<u):tY vs=u:=by
 unfold tY
 have h1:=Y3 (lS (vs.map λ(i:Nat)=>(i:Int))) ((A9 u).map λ(i:Nat)=>(i:Int)) (wX _) λx hx=>by obtain⟨v,hv,rfl⟩:=Ak.mp (rV.mp hx);exact C3 (Ag.mpr ((h v).mp hv))
 have h2:=Y3 ((A9 u).map λ(i:Nat)=>(i:Int)) (lS (vs.map λ(i:Nat)=>(i:Int))) (Bd.mpr (Cj.imp λ{a b} q z=>q (by omega))) λx hx=>by obtain⟨v,hv,rfl⟩:=Ak.mp hx;exact rV.mpr (C3 ((h v).mpr (Ag.mp hv)))
 rw[A0,At]at h1 h2;omega
theorem QB(gt:Nat->Nat->Bool):∀(q j b:Nat),b<j->Y6 gt q j b<j+q
 | 0,j,b,h=>h
 |q+1,j,b,h=>by
  unfold Y6
  have:=QB gt q (j+1) (if gt j b=true then j else b) (by split<;>omega)
  omega
def xU(kf:Nat->List Int):D->D
 | .int x=>.tup ((kf x.toNat).map D.int)
 |_=>.non
def VD{R:Nat->List Nat}{m:Nat}{G:List Nat}{P:List (Nat×Nat)}{gD:D}(hG:∀t∈G,t<m)(hr:∀t,t<m->(R t).length<=1000)(hGl:G.length<=50)(bM:∃t∈G,t∉P.map Bp)(hgD:gD = .lst (G.map z8)\/gD = .tup (G.map z8)):
  ∃t,HJ [jD R m,gD,jC P]=some (z8 t)/\t∈G/\t∉P.map Bp:=by
 let L:=G.filter λt=>!decide (t∈P.map Bp)
 have hL:∀t∈L,t∈G/\t∉P.map Bp:=λt ht=>by
  have:=Az.mp ht
  exact⟨this.1,by simpa using this.2⟩
 have hLl:L.length<=50:=Bn (Cw _ _) hGl
 have ah:L≠[]:=λe=>by
  obtain⟨t,h1,h2⟩:=bM
  have:t∈L:=Az.mpr ⟨h1,by simpa using h2⟩
  rw[e]at this;simp at this
 let kf:Nat->List Int:=λt=>[(tY (lP R P t):Int),((R t).length:Int)]
 have e1:W6 [none,some 2] (b9 (z9 1)) (u5 0) (sE (v5 (jX true (z9 0) (b9 (z9 1)))) (v5 (sA true (z9 0) (z9 1)))) (z9 0) [sC (jD R m),sC gD,sC (jC P),none]=some (L.map z8):=by
  refine(mD (ds:=G.map z8) (by rcases hgD with rfl|rfl<;>rfl) (by rw[A0];unfold d9;omega)).trans ?_
  refine(Q5 (λY=>∃c,Y=[c,sC (jC P)]) (λd=>match d with|.int x=>!(P.lookup x.toNat).isSome|_=>false) (λd=>d) _ _ ⟨none,rfl⟩ ?_).trans ?_
  .rintro d hd Y ⟨c,rfl⟩;obtain⟨j,hj,rfl⟩:=Ak.mp hd;have lk:kF (jB P) (jM P) (Bv (j:Int))=(P.lookup j).map z8:=wC j P;refine⟨_,rfl,⟨_,rfl⟩,(Sz rfl).trans (J7 ?_),λ_=>rfl⟩;show some (D.bl (!(kF (jB P) (jM P) (Bv (j:Int))).isSome))=some (D.bl (!(P.lookup (j:Int).toNat).isSome));rw[lk,Ay,Fs]
  .rw[Hj,uQ (q:=λt=>!decide (t∈P.map Bp)) _ (λi _=>by
    show (!(P.lookup (i:Int).toNat).isSome)=_
    rw[Ay,wU])]
 have ek:oQ (kD (y9 (x5 J8 (y9 (x5 J0 (lG 1 2 0)) i3)) (y9 (jU (b9 (jI (b9 (z9 1)) (z9 0)))) i3))) [none,sC (jD R m),sC (jC P)] (L.map z8)=some ((L.map z8).map (xU kf)):=by
  refine BK _ λd hd=>?_;obtain⟨t,ht,rfl⟩:=Ak.mp hd;have eM:=hG t (hL t ht).1;have ft:=GF (P:=P) eM (hr t eM)
  have am:(lP R P t).length<=1000:=by unfold lP;rw[A0];exact Bn (Cw _ _) (hr t eM)
  show kD _ [sC (z8 t),sC (jD R m),sC (jC P)]=some (D.tup ((kf (t:Int).toNat).map D.int));rw[Ay];refine oZ (ds:=[z8 (tY (lP R P t)),z8 (R t).length]) (u7 ((x9 (ds:=[.lst ((lP R P t).map z8)]) (u7 ((x9 (ds:=[jD R m,jC P,z8 t]) rfl).trans ft) rfl)).trans (HX am (.inl rfl))) (u7 ((oY (ds:=(R t).map z8) (m9 ((nD (ds:=(A9 m).map λi=>D.lst ((R i).map z8)) (j:=(t:Int)) rfl rfl).trans (KL eM)))).trans (by rw[A0];rfl)) rfl)) (show 2<=d9 by decide)
 have hm:∃i,∃h:i<L.length,FD ((L.map z8).map (xU kf)) (L.map z8)=some (z8 L[i]):=by
  cases hLe:L with
  |nil=>exact w9 hLe ah
  |cons t L'=>
   have ei:Z6 (((t::L').map z8).map (xU kf))=none:=rfl
   have et:mB (((t::L').map z8).map (xU kf))=some ((t::L').map kf):=by
    have:=CO (nss:=(t::L').map kf) (λns h=>by
     obtain⟨u,_,rfl⟩:=Ak.mp h
     simp[kf])
    rw[B1]at this ⊢;exact this
   refine⟨Y6 (vO ((t::L').map kf)) (((t::L').map z8).length-1) 1 0,?_,?_⟩
   .have:=QB (vO ((t::L').map kf)) (((t::L').map z8).length-1) 1 0 (by decide)
    rw[A0,As]at this;rw[A0,As];omega
   .show (match Z6 (((t::L').map z8).map (xU kf)) with
     |some ns=>qH (sL ns) ((t::L').map z8)
     |none=>(match mB (((t::L').map z8).map (xU kf)) with|some nss=>qH (vO nss) ((t::L').map z8)|none=>none))=_
    rw[ei];dsimp only;rw[et];dsimp only;unfold qH;rw[Am,A4];rfl
 obtain⟨i,hi,em⟩:=hm;refine⟨L[i],?_,hL _ (Cd hi)⟩;refine mX (x:=NZ [sC (jD R m),sC gD,sC (jC P),none]) ?_;refine w8 (Q0 (mU e1)) ?_;refine lJ ?_;unfold DO;show (match oQ _ [none,sC (jD R m),sC (jC P)] (L.map z8) with|some ks=>FD ks (L.map z8)|none=>none)=_;rw[ek];exact em
def Ś(P:List (Nat×Nat)):jM P=(P.map Mi).map z8:=by unfold jM;rw[B1];rfl
def ϔ{P:List (Nat×Nat)}{K u:Nat}(hu:∀v,(∃x∈P,x.2=v)↔v<u)(hl:P.length<=1000)(hK:K<=1000):zL [jC P,z8 K]=some (.lst ((A9 (Jq K (u+1))).map z8)):=by
 show kY (HU [sC (jC P),sC (z8 K)])=_
 have hc:tY (P.map Mi)=u:=QE λv=>by rw[<-hu,Ak]
 have ul:u<=1000:=by
  by_cases c:u<=1000
  .exact c
  .exfalso
   have h2:=Y3 (A9 u) (P.map Mi) Cj λv hv=>by obtain⟨x,hx,e⟩:=(hu v).mpr (Ag.mp hv);exact Ak.mpr ⟨x,hx,e⟩
   rw[At,A0]at h2;omega
 have fin:HU [sC (jC P),sC (z8 K)]=some (.rt (.lst ((A9 (Jq K (u+1))).map z8))):=by
  refine lJ (mU ?_)
  have e1:x5 J8 (y9 (kE (xJ (z9 0))) i3) [sC (jC P),sC (z8 K)]=some (z8 u):=by refine(x9 (ds:=[.lst (jM P)]) rfl).trans ?_;rw[Ś,HX (by rw[A0];exact hl) (.inl rfl),hc]
  have e2:x5 qW (y9 (z9 1) (y9 (d2 jT (x5 J8 (y9 (kE (xJ (z9 0))) i3)) (dI 1)) i3)) [sC (jC P),sC (z8 K)]=some (.int ((Jq K (u+1):Nat):Int)):=by refine(x9 (ds:=[D.int (K:Int),D.int ((u:Int)+1)]) (u7 rfl (u7 ((kK (x:=.int (u:Int)) (y:=.int 1) e1 rfl).trans rfl) rfl))).trans ((LI _ _).trans ?_);congr 2;omega
  refine(CF e2 (by omega) (by omega)).trans ?_;rw[Ay];unfold i4;rw[B1];refine lD some (B4 λi _=>?_);show D.int (0+(i:Int))=D.int (i:Int);rw[Np]
 rw[fin];rfl
def XR{P:List (Nat×Nat)}{t v:Nat}(hn:(P.map Bp).Nodup)(ht:t∉P.map Bp)(hl:P.length<=1000):zK [jC P,z8 t,z8 v]=some (jC (P++[(t,v)])):=by
 refine mX (x:=Qs [sC (jC P),sC (z8 t),sC (z8 v),none]) ?_;refine w8 (Y':=[sC (jC P),sC (z8 t),sC (z8 v),some (.od (jB P) (jM P))]) rfl ?_;refine w8 (Y':=[sC (jC P),sC (z8 t),sC (z8 v),some (.od (jB (P++[(t,v)])) (jM (P++[(t,v)])))]) ?_ rfl;show (if (jB P).Nodup/\(jB P).length<d9 then some (Out.nx [sC (jC P),sC (z8 t),sC (z8 v),some (.od (kP (jB P) (jM P) (Bv (t:Int)) (z8 v)).1 (kP (jB P) (jM P) (Bv (t:Int)) (z8 v)).2)]) else none)=_
 rw[z7 ⟨BY hn,by unfold jB;rw[A0];unfold d9;omega⟩,EV ht]
theorem QP(a:Nat):∀E:List Nat,mI (z8 a) (E.map z8)=decide (a∈E)
 | []=>by simp[mI]
 |b::E=>by
  have ih:=QP a E;unfold mI at ih ⊢;rw[Af,Ex,ih];show (((b:Int)==(a:Int))||decide (a∈E))=_;by_cases h:b=a
  .subst h;simp
  .have h':¬a=b:=λz=>h z.symm
   have h2:¬(b:Int)=(a:Int):=by omega
   simp[h2,h']
theorem PP:∀S:List Nat,lO (S.map z8)=0
 | []=>by simp[lO]
 |a::S=>by rw[Af,lO,PP S];simp[z8,depth]
def LB{fa:ED}{fl:EL}{E:List Nat}(ng:Bool)(h1:fa Y=some (z8 a))(h2:fl Y=some (E.map z8)):jX ng fa fl Y=some (.bl (if ng=true then !decide (a∈E) else decide (a∈E))):=by
 refine(vB h1 h2 (by rw[PP];decide) (by simp[z8,depth,jP])).trans ?_
 rw[QP]
def Tc(a b:Nat):lH (z8 a) (z8 b)=some (.bl (decide (a=b))):=by
 unfold lH;rw[z7 (by simp[z8,depth,jP])];show some (D.bl ((a:Int)==(b:Int)))=_;congr 2;by_cases h:a=b
 .subst h;simp
 .have:¬(a:Int)=(b:Int):=by omega
  simp[h,this]
def oG{h:D->K6->Option K6}{g:EO}{ds:List D}{Y Y1 Y2:K6}(h1:h d Y=some Y1)(h2:g Y1=some (.nx Y2)):W5 h g (d::ds) Y=W5 h g ds Y2:=by
 conv=>lhs;unfold W5
 rw[h1];dsimp only;rw[h2]
def R8{h:D->K6->Option K6}{g:EO}{ds:List D}{Y Y1:K6}(h1:h d Y=some Y1)(h2:g Y1=some (.rt v)):W5 h g (d::ds) Y=some (.rt v):=by unfold W5;rw[h1];dsimp only;rw[h2]
structure jH(cl:Nat->Nat->Bool)(m:Nat)(R:Nat->List Nat):Prop where
 sy:∀i j,cl i j=cl j i
 ir:∀i,cl i i=false
 mem:∀t,t<m->∀j,j∈R t↔j<m/\cl t j=true
 len:∀t,t<m->(R t).length<=1000
 m12:m<=12
structure nJ(m:Nat)(G:List Nat):Prop where
 nd:G.Nodup
 lt:∀t∈G,t<m
def nJ.len(h:nJ m G):G.length<=m:=by
 have:=Y3 G (A9 m) h.nd λt ht=>Ag.mpr (h.lt t ht)
 rw[At]at this;exact this
section
variable{cl:Nat->Nat->Bool}{m K u:Nat}{R:Nat->List Nat}{G:List Nat}{P:List (Nat×Nat)}
def kC.len(h:kC cl G K u P):P.length<=G.length:=by
 have:=Y3 (P.map Bp) G h.nd λt ht=>by obtain⟨x,hx,rfl⟩:=Ak.mp ht;exact h.sub x hx
 rw[A0]at this;exact this
def rL(Fr:LD):EO:=
 (jZ (v5 (jX true (z9 6) (b9 (z9 5))))
 (Q8 (f9 7 (x5 Fr (y9 (z9 0) (y9 (z9 1) (y9 (x5 zK (lG 2 4 6)) (jW 3))))))
 (jZ (v5 (d2 sB (z9 7) (dC .non)))
 (i9 (z9 7))
 kO))
 kO)
def oK(R:Nat->List Nat)(m:Nat)(G:List Nat)(P:List (Nat×Nat))(K t:Nat)(c6 c7:Option Cell):K6:=[sC (jD R m),sC (.lst (G.map z8)),sC (jC P),sC (z8 K),sC (z8 t),sC (.lst ((lP R P t).map z8)),c6,c7]
def EX(cl:Nat->Nat->Bool)(G:List Nat)(K:Nat)(P:List (Nat×Nat))(res:D):Prop:=(res = .non/\∀c,mK cl G c K->¬xT c P)\/∃P' u',res=jC P'/\kC cl G K u' P'/\P'.length=G.length
theorem RZ(hg:jH cl m R)(hG:nJ m G)(h:kC cl G K u P){t:Nat}(ht:t∈G)(hn:t∉P.map Bp){Fr:LD}(hF:∀(P':List (Nat×Nat)) (u':Nat),kC cl G K u' P'->P'.length=P.length+1->∃res,Fr [jD R m,.lst (G.map z8),jC P',z8 K]=some res/\EX cl G K P' res):
  ∀(vs:List Nat) (c6 c7:Option Cell),(∀v∈vs,v<=u/\v<K) ->
   (∃P' u',W5 (u5 6) (rL Fr) (vs.map z8) (oK R m G P K t c6 c7)=some (.rt (jC P'))/\kC cl G K u' P'/\P'.length=G.length) \/
   (∃ck cy,W5 (u5 6) (rL Fr) (vs.map z8) (oK R m G P K t c6 c7)=some (.nx (oK R m G P K t ck cy))/\∀v∈vs,v∉lP R P t->∀c,mK cl G c K->¬xT c (P++[(t,v)]))
 | [],c6,c7,_=>.inr ⟨c6,c7,rfl,λv hv=>by simp at hv⟩
 |v::vs,c6,c7,hv=>by
  have eM:=hG.lt t ht
  have pl:P.length<=1000:=by have:=h.len;have:=hG.len;have:=hg.m12;omega
  have hZ:=hv v A6;have rest:=RZ hg hG h ht hn hF vs;have e1:v5 (jX true (z9 6) (b9 (z9 5))) (oK R m G P K t (sC (z8 v)) c7)=some (!decide (v∈lP R P t)):=J7 (LB true rfl rfl);by_cases c:v∈lP R P t
  .rw[K9 c]at e1;have st:W5 (u5 6) (rL Fr) ((v::vs).map z8) (oK R m G P K t c6 c7)=W5 (u5 6) (rL Fr) (vs.map z8) (oK R m G P K t (sC (z8 v)) c7):=oG rfl ((Y9 e1).trans rfl);rw[st];rcases rest (sC (z8 v)) c7 (λw hw=>hv w (A7 _ hw)) with z|⟨a,b,z1,z2⟩
   .exact .inl z
   .refine .inr ⟨a,b,z1,λw hw gO=>?_⟩;rcases Ad.mp hw with y|y
    .subst y;exact w9 c gO
    .exact z2 w y gO
  .rw[Y1 c]at e1;have bD:∀x∈P,cl t x.1=true->x.2≠v:=λx hx hc e=>c ((CA h.nd).mpr ⟨x,hx,(hg.mem t eM x.1).mpr ⟨hG.lt _ (h.sub x hx),hc⟩,e⟩);have hp:=h.add hg.sy hg.ir ht hn hZ.1 hZ.2 bD;obtain⟨res,er,hT⟩:=hF _ _ hp (by rw[Ah,Bb]);have ew:=XR (v:=v) h.nd hn pl
   have es:f9 7 (x5 Fr (y9 (z9 0) (y9 (z9 1) (y9 (x5 zK (lG 2 4 6)) (jW 3))))) (oK R m G P K t (sC (z8 v)) c7)=some (.nx (oK R m G P K t (sC (z8 v)) (sC res))):=(Q0 (d:=res) ((x9 (ds:=[jD R m,.lst (G.map z8),jC (P++[(t,v)]),z8 K]) (u7 rfl (u7 rfl (u7 ((x9 (ds:=[jC P,z8 t,z8 v]) rfl).trans ew) rfl)))).trans er)).trans rfl
   rcases hT with⟨rfl,bG⟩|⟨P',u',rfl,hP',cw⟩
   .have st:W5 (u5 6) (rL Fr) ((v::vs).map z8) (oK R m G P K t c6 c7)=W5 (u5 6) (rL Fr) (vs.map z8) (oK R m G P K t (sC (z8 v)) (sC .non)):=oG rfl ((Y9 e1).trans (w8 es ((Y9 (a:=false) (J7 rfl)).trans rfl)))
    rw[st];rcases rest (sC (z8 v)) (sC .non) (λw hw=>hv w (A7 _ hw)) with z|⟨a,b,z1,z2⟩
    .exact .inl z
    .refine .inr ⟨a,b,z1,λw hw gO=>?_⟩;rcases Ad.mp hw with y|y
     .subst y;exact bG
     .exact z2 w y gO
   .exact .inl ⟨P',u',R8 rfl ((Y9 e1).trans (w8 es ((Y9 (a:=true) (J7 rfl)).trans rfl))),hP',cw⟩
theorem NQ(hg:jH cl m R)(hG:nJ m G)(hK:K<=1000):∀(q:Nat) (P:List (Nat×Nat)) (u:Nat),kC cl G K u P->G.length<q+P.length ->
  ∃res,W9 q [jD R m,.lst (G.map z8),jC P,z8 K]=some res/\EX cl G K P res
 | 0,P,u,h,hq=>by have:=h.len;omega
 |q+1,P,u,h,hq=>by
  have hl:=h.len;have gl:=hG.len;have m12:=hg.m12
  have e0:v5 (d2 lH (uY (z9 2)) (jU (b9 (z9 1)))) [sC (jD R m),sC (.lst (G.map z8)),sC (jC P),sC (z8 K),none,none,none,none]=some (decide (P.length=G.length)):=by
   refine J7 ((kK (x:=z8 P.length) (y:=z8 G.length) ?_ ((oY (ds:=G.map z8) rfl).trans (by rw[A0];rfl))).trans (Tc _ _))
   show some (D.int ((jB P).length:Int))=_;unfold jB;rw[A0];rfl
  by_cases c:P.length=G.length
  .rw[K9 c]at e0;refine⟨jC P,?_,.inr ⟨P,u,rfl,h,c⟩⟩;show kY (wT (W9 q) [sC (jD R m),sC (.lst (G.map z8)),sC (jC P),sC (z8 K),none,none,none,none])=_;rw[show wT (W9 q) [sC (jD R m),sC (.lst (G.map z8)),sC (jC P),sC (z8 K),none,none,none,none]=some (.rt (jC P)) from rK ((Y9 e0).trans rfl)];rfl
  .rw[Y1 c]at e0
   have bM:∃t∈G,t∉P.map Bp:=by
    by_cases hh:∃t∈G,t∉P.map Bp
    .exact hh
    .exfalso
     have:=Y3 G (P.map Bp) hG.nd λt ht=>by
      by_cases z:t∈P.map Bp
      .exact z
      .exact w9 ⟨t,ht,z⟩ hh
     rw[A0]at this;omega
   obtain⟨t,eh,ht,hn⟩:=VD (R:=R) (P:=P) hG.lt hg.len (by omega) bM (.inl rfl);have eM:=hG.lt t ht;have et:=GF (P:=P) eM (hg.len t eM);have ey:=ϔ (K:=K) h.use (by omega) hK
   have pre:∀o,Q8 (kW (b9 (x5 zL (jQ 2 3))) (u5 6) (rL (W9 q))) (i9 (dC .non)) (oK R m G P K t none none)=o->wT (W9 q) [sC (jD R m),sC (.lst (G.map z8)),sC (jC P),sC (z8 K),none,none,none,none]=o:=λo ho=>by refine w8 ((Y9 e0).trans rfl) ?_;refine w8 (Q0 (d:=z8 t) ((x9 (ds:=[jD R m,.lst (G.map z8),jC P]) rfl).trans eh)) ?_;exact w8 (Q0 (d:=.lst ((lP R P t).map z8)) ((x9 (ds:=[jD R m,jC P,z8 t]) rfl).trans et)) ho
   have jb:kW (b9 (x5 zL (jQ 2 3))) (u5 6) (rL (W9 q)) (oK R m G P K t none none)=W5 (u5 6) (rL (W9 q)) ((A9 (Jq K (u+1))).map z8) (oK R m G P K t none none):=lZ (m9 ((x9 (ds:=[jC P,z8 K]) rfl).trans ey))
   rcases RZ hg hG h ht hn (Fr:=W9 q) (λP' u' hP' cw=>NQ hg hG hK q P' u' hP' (by omega)) (A9 (Jq K (u+1))) none none (λv hv=>by have:=Ag.mp hv;omega) with⟨P',u',z1,z2,z3⟩|⟨c6,c7,z1,z2⟩
   .refine⟨jC P',?_,.inr ⟨P',u',rfl,z2,z3⟩⟩;show kY (wT (W9 q) [sC (jD R m),sC (.lst (G.map z8)),sC (jC P),sC (z8 K),none,none,none,none])=_;rw[pre _ (rK (jb.trans z1))];rfl
   .refine⟨.non,?_,.inl ⟨rfl,λcc hc he=>?_⟩⟩
    .show kY (wT (W9 q) [sC (jD R m),sC (.lst (G.map z8)),sC (jC P),sC (z8 K),none,none,none,none])=_;rw[pre (some (.rt .non)) (w8 (jb.trans z1) (lJ rfl))];rfl
    .obtain⟨v,v1,v2,v3,c',c1,c2⟩:=h.try hc he ht hn;refine z2 v (Ag.mpr (by omega)) (λhm=>?_) c' c1 c2;obtain⟨x,hx,hxr,e⟩:=(CA h.nd).mp hm;exact v3 x hx ((hg.mem t eM x.1).mp hxr).2 e
end
section
variable{cl:Nat->Nat->Bool}{m:Nat}{R:Nat->List Nat}
def xB(cl:Nat->Nat->Bool)(m:Nat)(G:List Nat):Prop:=∀x∈G,∀j,j<m->cl x j=true->j∈G
def Ug(cl:Nat->Nat->Bool)(m t:Nat)(G:List Nat):Prop:=∀A:Nat->Prop,(∀x j,x<m->j<m->A x->cl x j=true->A j)->¬A t->∀x∈G,¬A x
structure GI(cl:Nat->Nat->Bool)(m t:Nat)(R:Nat->List Nat)(G:List Nat)(k:Nat):Prop where
 gr:nJ m G
 kl:k<=G.length
 has:t∈G
 clo:∀i,i<k->∀x,G[i]?=some x->∀j∈R x,j∈G
 aw:Ug cl m t G
def Ti:EB:=v5 (d2 mZ (z9 3) (jU (kX 2)))
def Th:EO:=
 (Q8 (qV 2 (W6 [none,some 2] (b9 (jI (b9 (z9 0)) (jI (kX 2) (z9 3)))) (u5 0) (v5 (jX true (z9 0) (kX 1))) (z9 0)))
 (tN 3 (dI 1)))
def tZ(R:Nat->List Nat)(m t:Nat)(G:List Nat)(k:Nat):K6:=[sC (jD R m),sC (z8 t),some (.ow (G.map z8)),sC (z8 k)]
def Yh(t:Nat)(G:List Nat)(k:Nat):Ti (tZ R m t G k)=some (decide (k<G.length)):=by
 refine J7 ((kK (x:=z8 k) (y:=z8 G.length) rfl ((oY (ds:=G.map z8) rfl).trans (by rw[A0];rfl))).trans ?_)
 show some (D.bl (decide ((k:Int)<(G.length:Int))))=_;congr 2;exact decide_eq_decide.mpr (by omega)
def Yg(hg:jH cl m R)(av:∀t,t<m->(R t).Nodup)(h:GI cl m t R G k)(hk:k<G.length):∃G',Th (tZ R m t G k)=some (.nx (tZ R m t G' (k+1)))/\GI cl m t R G' (k+1):=by
 have hx:G[k]<m:=h.gr.lt _ (Cd hk);have m12:=hg.m12;have gl:=h.gr.len
 let new:=(R G[k]).filter λj=>!decide (j∈G)
 have e1:W6 [none,some 2] (b9 (jI (b9 (z9 0)) (jI (kX 2) (z9 3)))) (u5 0) (v5 (jX true (z9 0) (kX 1))) (z9 0) (tZ R m t G k)=some (new.map z8):=by
  have ei:jI (kX 2) (z9 3) (tZ R m t G k)=some (z8 G[k]):=by refine(nD (ds:=G.map z8) (j:=(k:Int)) rfl rfl).trans ?_;unfold l6;rw[A0,DT hk];show (G.map z8)[k]?=_;rw[Am,A4 hk];rfl
  refine(mD (ds:=(R G[k]).map z8) (m9 ((nD (ds:=(A9 m).map λi=>D.lst ((R i).map z8)) (j:=(G[k]:Int)) rfl ei).trans (KL hx))) (by rw[A0];have:=hg.len _ hx;unfold d9;omega)).trans ?_
  refine(Q5 (λY=>∃c,Y=[c,some (.ow (G.map z8))]) (λd=>match d with|.int x=>!decide (x.toNat∈G)|_=>false) (λd=>d) _ _ ⟨none,rfl⟩ ?_).trans ?_
  .rintro d hd Y ⟨c,rfl⟩;obtain⟨j,hj,rfl⟩:=Ak.mp hd;refine⟨_,rfl,⟨_,rfl⟩,J7 ((LB true rfl rfl).trans ?_),λ_=>rfl⟩;show some (D.bl (!decide (j∈G)))=some (D.bl (!decide ((j:Int).toNat∈G)));rw[Ay]
  .rw[Hj,uQ (q:=λj=>!decide (j∈G)) _ (λi _=>by
    show (!decide ((i:Int).toNat∈G))=_
    rw[Ay])]
 have bL:∀j∈new,(j<m/\cl G[k] j=true)/\j∉G:=λj hj=>by
  have:=Az.mp hj
  exact⟨(hg.mem _ hx j).mp this.1,by simpa using this.2⟩
 have gr':nJ m (G++new):=by
  refine⟨?_,λx aC=>?_⟩
  .rw[Bz];refine⟨h.gr.nd,(av _ hx).sublist F4,λa ha b hb e=>(bL b hb).2 (e▸ha)⟩
  .rcases Aw.mp aC with z|z
   .exact h.gr.lt x z
   .exact(bL x z).1.1
 refine⟨G++new,?_,gr',by rw[Ah];omega,B7 _ h.has,λi hi x aC j hj=>?_,λA hA hn x aC=>?_⟩
 .have gl':=gr'.len;rw[Ah]at gl';refine w8 (Y':=tZ R m t (G++new) k) ((KU (ds:=G.map z8) rfl e1 (by rw[A0,A0];unfold d9;omega)).trans ?_) ?_
  .rw[<-B6];rfl
  .show some (Out.nx [sC (jD R m),sC (z8 t),some (.ow ((G++new).map z8)),sC (.int ((k:Int)+1))])=_;rfl
 .by_cases c:i<k
  .rw[Dg (by omega)]at aC;exact B7 _ (h.clo i c x aC j hj)
  .have:i=k:=by omega
   subst this;rw[Dg hk,A4 hk]at aC;cases aC;by_cases d:j∈G
   .exact B7 _ d
   .exact Ac _ (Az.mpr ⟨hj,by simpa using d⟩)
 .rcases Aw.mp aC with z|z
  .exact h.aw A hA hn x z
  .intro hax;have hq:=bL x z;refine h.aw A hA hn _ (Cd hk) (hA x _ hq.1.1 hx hax ?_);rw[hg.sy];exact hq.1.2
theorem RP(hg:jH cl m R)(av:∀t,t<m->(R t).Nodup):∀(f:Nat) (G:List Nat) (k:Nat),GI cl m t R G k->m<f+k->∃G',m8 f Ti Th (tZ R m t G k)=some (.nx (tZ R m t G' G'.length))/\GI cl m t R G' G'.length
 | 0,G,k,h,hf=>by
  have:=h.kl
  have:=h.gr.len
  omega
 |f+1,G,k,h,hf=>by
  unfold m8;rw[Yh];by_cases c:k<G.length
  .rw[K9 c];obtain⟨G',e,h'⟩:=Yg hg av h c;dsimp only;rw[e];exact RP hg av f G' (k+1) h' (by omega)
  .rw[Y1 c]
   have:k=G.length:=by have:=h.kl;omega
   subst this;exact⟨G,rfl,h⟩
def Zl(hg:jH cl m R)(av:∀t,t<m->(R t).Nodup){t:Nat}(ht:t<m):∃G,DC [jD R m,z8 t]=some (.lst (G.map z8))/\nJ m G/\t∈G/\xB cl m G/\Ug cl m t G:=by
 have h0:GI cl m t R [t] 0:=⟨⟨Dq _ _,λx hx=>by rw[Ae.mp hx];exact ht⟩,Bg _,Ae.mpr rfl,λi hi=>w9 hi (Dv _),λA _ hn x hx=>by rw[Ae.mp hx];exact hn⟩
 obtain⟨G,e,h⟩:=RP hg av 200 [t] 0 h0 (by have:=hg.m12;omega)
 refine⟨G,?_,h.gr,h.has,λx hx j hj hc=>?_,h.aw⟩
 .show kY (HS [sC (jD R m),sC (z8 t),none,none])=_
  have fin:HS [sC (jD R m),sC (z8 t),none,none]=some (.rt (.lst (G.map z8))):=by refine w8 (zV (ds:=[z8 t]) (EK rfl (show 1<=d9 by decide))) ?_;refine w8 (Q0 (d:=z8 0) rfl) ?_;exact w8 e rfl
  rw[fin];rfl
 .obtain⟨i,hi,e'⟩:=E3 hx;exact h.clo i hi x (by rw[A4 hi,e']) j ((hg.mem x (h.gr.lt x hx) j).mpr ⟨hj,hc⟩)
structure NL(cl:Nat->Nat->Bool)(m:Nat)(Gs:List (List Nat))(gd:List Nat):Prop where
 gr:∀G∈Gs,nJ m G/\xB cl m G
 dis:Gs.Pairwise λG G'=>∀x∈G,x∉G'
 nd:gd.Nodup
 mem:∀x,x∈gd↔∃G∈Gs,x∈G
def nI(gd:List Nat):List d3:=gd.map λ(x:Nat)=>(Bv (x:Int):d3)
def rA(gd:List Nat):List D:=gd.map λ_=>D.bl true
def oO(R:Nat->List Nat)(m:Nat)(Gs:List (List Nat))(gd:List Nat)(c3 c4:Option Cell):K6:=[sC (jD R m),some (.ow (Gs.map λG=>.lst (G.map z8))),some (.od (nI gd) (rA gd)),c3,c4]
theorem QZ(t:Nat):∀gd:List Nat,(kF (nI gd) (rA gd) (Bv (t:Int))).isSome=decide (t∈gd)
 | []=>rfl
 |a::gd=>by
  show (if (Bv (a:Int):d3)=Bv (t:Int) then some (D.bl true) else kF (nI gd) (rA gd) (Bv (t:Int))).isSome=_;by_cases h:a=t
  .subst h;rw[z7 rfl];simp
  .rw[y3 (λz=>h (by have:=Fm z;omega)),QZ t gd]
   have h':¬t=a:=λz=>h z.symm;simp[h']
def Ţ{gd:List Nat}{t:Nat}(h:t∉gd):kP (nI gd) (rA gd) (Bv (t:Int)) (.bl true)=(nI (gd++[t]),rA (gd++[t])):=by
 rw[wM _ _ _ _ (by unfold nI rA;rw[A0,A0]) (λz=>by
  obtain⟨x,hx,e⟩:=Ak.mp z
  have:x=t:=by have:=Fm e;omega
  exact h (this▸hx))]
 unfold nI rA;rw[B6,B6];rfl
def YZ{gd:List Nat}(h:gd.Nodup):(nI gd).Nodup:=by unfold nI;exact Bd.mpr (h.imp λ{a b} q z=>q (by have:=Fm z;omega))
theorem Qt:∀(G gd:List Nat) (c4:Option Cell),(gd++G).Nodup->(gd++G).length<=1000->∃bd,W5 (u5 4) (mQ 2 (z9 4) (dC (.bl true))) (G.map z8) (oO R m Gs gd c3 c4)=some (.nx (oO R m Gs (gd++G) c3 bd))
 | [],gd,c4,_,_=>⟨c4,by rw[Bx];rfl⟩
 |t::G,gd,c4,hn,hl=>by
  have bo:((gd++[t])++G).Nodup:=by rw[Co];exact hn
  have cw:((gd++[t])++G).length<=1000:=by rw[Co];exact hl
  obtain⟨bd,e⟩:=Qt (Gs:=Gs) (c3:=c3) G (gd++[t]) (sC (z8 t)) bo cw;have ht:t∉gd:=λz=>(Bz.mp hn).2.2 t z t A6 rfl;have hgd:=(Bz.mp hn).1
  have st:mQ 2 (z9 4) (dC (.bl true)) (oO R m Gs gd c3 (sC (z8 t)))=some (.nx (oO R m Gs (gd++[t]) c3 (sC (z8 t)))):=by
   show (if (nI gd).Nodup/\(nI gd).length<d9 then some (Out.nx [sC (jD R m),some (.ow (Gs.map λG=>.lst (G.map z8))),some (.od (kP (nI gd) (rA gd) (Bv (t:Int)) (.bl true)).1 (kP (nI gd) (rA gd) (Bv (t:Int)) (.bl true)).2),c3,sC (z8 t)]) else none)=_;rw[Ah]at hl;rw[z7 ⟨YZ hgd,by unfold nI;rw[A0];unfold d9;omega⟩,Ţ ht]
   rfl
  refine⟨bd,?_⟩;rw[Af,oG rfl st,e,Co];rfl
def Tj:EO:=
 (jZ (v5 (xI true (z9 3) 2))
 (Q8 (pU 1 (x5 DC (jQ 0 3)))
 (kW (b9 (jI (kX 1) (sD (dI 1)))) (u5 4)
 (mQ 2 (z9 4) (dC (.bl true)))))
 kO)
def Yi(hg:jH cl m R)(av:∀t,t<m->(R t).Nodup)(h:NL cl m Gs gd)(hGl:Gs.length<=100){t:Nat}(ht:t<m){c4:Option Cell}:
  ∃iA gU bd,Tj (oO R m Gs gd (sC (z8 t)) c4)=some (.nx (oO R m iA gU (sC (z8 t)) bd))/\NL cl m iA gU/\iA.length<=Gs.length+1/\(∀x∈gd,x∈gU)/\t∈gU:=by
 have e0:v5 (xI true (z9 3) 2) (oO R m Gs gd (sC (z8 t)) c4)=some (!decide (t∈gd)):=by refine J7 ?_;show some (D.bl (!(kF (nI gd) (rA gd) (Bv (t:Int))).isSome))=_;rw[QZ]
 by_cases c:t∈gd
 .rw[K9 c]at e0;exact⟨Gs,gd,c4,(Y9 e0).trans rfl,h,Em _,λx hx=>hx,c⟩
 .rw[Y1 c]at e0;obtain⟨G,eG,g1,g2,g3,g4⟩:=Zl hg av ht
  have ci:∀x∈G,x∉gd:=g4 (λx=>x∈gd) (λx j hx hj hA hc=>by
   obtain⟨G',bf,aC⟩:=(h.mem x).mp hA
   exact(h.mem j).mpr ⟨G',bf,(h.gr G' bf).2 x aC j hj hc⟩) c
  have hn:(gd++G).Nodup:=by rw[Bz];exact⟨h.nd,g1.nd,λa ha b hb e=>ci b hb (e▸ha)⟩
  have m12:=hg.m12
  have am:∀x∈gd++G,x<m:=λx hx=>by
   rcases Aw.mp hx with z|z
   .obtain⟨G',bf,aC⟩:=(h.mem x).mp z;exact(h.gr G' bf).1.lt x aC
   .exact g1.lt x z
  have hl:(gd++G).length<=1000:=by
   have:=Y3 _ (A9 m) hn λx hx=>Ag.mpr (am x hx)
   rw[At]at this;omega
  obtain⟨bd,el⟩:=Qt (R:=R) (m:=m) (Gs:=Gs++[G]) (c3:=sC (z8 t)) G gd c4 hn hl;refine⟨Gs++[G],gd++G,bd,?_,⟨λG' bf=>?_,?_,hn,λx=>?_⟩,by rw[Ah,Bb];exact Aj _,λx hx=>B7 _ hx,Ac _ g2⟩
  .refine(Y9 e0).trans ?_;rw[z7 (by decide)];refine w8 (Y':=oO R m (Gs++[G]) gd (sC (z8 t)) c4) ((KS (ds:=Gs.map λG=>D.lst (G.map z8)) (d:=.lst (G.map z8)) rfl ((x9 (ds:=[jD R m,z8 t]) rfl).trans eG) (by rw[A0];unfold d9;omega)).trans ?_) ?_
   .unfold oO;rw[B6];rfl
   .refine(lZ (ds:=G.map z8) (m9 ((nD (ds:=(Gs++[G]).map λG=>D.lst (G.map z8)) (j:=-1) rfl rfl).trans ?_))).trans el;unfold l6 rC;rw[A0,Ah,Bb,y3 (by decide),z7 (by omega)];show ((Gs++[G]).map λG=>D.lst (G.map z8))[(-1+((Gs.length+1:Nat):Int)).toNat]?=_;rw[show (-1+((Gs.length+1:Nat):Int)).toNat=Gs.length by omega,Am,List.getElem?_concat_length]
    rfl
  .rcases Aw.mp bf with z|z
   .exact h.gr G' z
   .rw[Ae.mp z];exact⟨g1,g3⟩
  .rw[D0];refine⟨h.dis,Dq _ _,λG' bf G2 hG2 x hx=>?_⟩;rw[Ae.mp hG2];exact λz=>ci x z ((h.mem x).mpr ⟨G',bf,hx⟩)
  .rw[Aw,h.mem];constructor
   .rintro (⟨G',bf,hx⟩|hx)
    .exact⟨G',B7 _ bf,hx⟩
    .exact⟨G,Ac _ (Ae.mpr rfl),hx⟩
   .rintro ⟨G',bf,hx⟩;rcases Aw.mp bf with z|z
    .exact .inl ⟨G',z,hx⟩
    .rw[Ae.mp z]at hx;exact .inr hx
def U4(hg:jH cl m R)(av:∀t,t<m->(R t).Nodup):∃Gs:List (List Nat),GU [jD R m]=some (.lst (Gs.map λG=>.lst (G.map z8)))/\(∀G∈Gs,nJ m G/\xB cl m G)/\(Gs.Pairwise λG G'=>∀x∈G,x∉G')/\(∀t,t<m->∃G∈Gs,t∈G)/\Gs.length<=m:=by
 have m12:=hg.m12
 obtain⟨Y',l1,Gs,gd,c3,c4,rfl,h,hl,bv⟩:=yN (h:=u5 3) (g:=Tj) (λpre Y=>∃(Gs:List (List Nat)) (gd:List Nat) (c3 c4:Option Cell),Y=oO R m Gs gd c3 c4/\NL cl m Gs gd/\Gs.length<=pre.length/\∀t,t<pre.length->t∈gd)
  (ds:=Q2 0 m) (Y:=oO R m [] [] none none) ⟨[],[],none,none,rfl,⟨λG hG=>by simp at hG,Eg,E6,λx=>by simp⟩,Aj _,λt ht=>w9 ht (Dv _)⟩ (λpre d post Y he hI=>by
   obtain⟨Gs,gd,c3,c4,rfl,h,hl,bv⟩:=hI;have ab:=lD Ih he;rw[rS,Ah,As]at ab
   have hd:d=z8 pre.length:=by
    have h1:(Q2 0 m)[pre.length]?=some d:=by rw[<-he];simp
    rw[KA (by omega)]at h1;exact(Ba h1).symm
   subst hd;obtain⟨iA,gU,bd,e,h',l',s',t'⟩:=Yi hg av h (by omega) (show pre.length<m by omega) (c4:=c4);refine⟨_,_,rfl,.inl e,iA,gU,_,bd,rfl,h',by rw[Ah,Bb];omega,λt ht=>?_⟩
   rw[Ah,Bb]at ht;by_cases c:t=pre.length
   .rw[c];exact t'
   .exact s' t (bv t (by omega)))
 refine⟨Gs,?_,h.gr,h.dis,λt ht=>(h.mem t).mp (bv t (by rw[rS];exact ht)),by rw[rS]at hl;exact hl⟩
 refine mX (x:=Qr [sC (jD R m),none,none,none,none]) ?_;refine w8 (zV (ds:=[]) (EK (ds:=[]) rfl (by decide))) ?_;refine w8 (Y':=oO R m [] [] none none) rfl ?_;refine w8 ((lZ (ds:=Q2 0 m) ?_).trans l1) rfl;have e4:=zU (fa:=jU (b9 (z9 0))) (Y:=oO R m [] [] none none) (j:=(((A9 m).map λi=>D.lst ((R i).map z8)).length:Int)) rfl (by rw[A0,At];unfold mY;rw[K9 (by omega),K9 (by omega)];rfl)
 rw[A0,At,Ay]at e4;exact e4
def qN(cl:Nat->Nat->Bool)(m K:Nat):Prop:=∀c K',GA cl m c K'->K<=K'
def IN{G:List Nat}{i j:Nat}(hi:i∈G)(hj:j∈G)(e:G.idxOf i=G.idxOf j):i=j:=by
 have l1:G.idxOf i<G.length:=Bl hi;have l2:G.idxOf j<G.length:=Bl hj
 have g1:G[G.idxOf i]?=some i:=by rw[A4 l1,Ie]
 have g2:G[G.idxOf j]?=some j:=by rw[A4 l2,Ie]
 rw[e,g2]at g1;exact(Ba g1).symm
def Ϥ(hg:jH cl m R){G:List Nat}{K:Nat}(h:G.length<=K):mK cl G (λi=>G.idxOf i) K:=by
 refine⟨λi hi=>?_,λi hi j hj hc e=>?_⟩
 .have:=Bl hi
  omega
 .have:=IN hi hj e
  subst this;rw[hg.ir]at hc;cases hc
def qN.up(h:qN cl m K)(hG:nJ m G)(bG:∀c,¬mK cl G c K):qN cl m (K+1):=λc K' hc=>by
 have h1:=h c K' hc;by_cases e:K'=K
 .exfalso;subst e;exact bG c ⟨λi hi=>hc.lt i (hG.lt i hi),λi hi j hj ar=>hc.ne i j (hG.lt i hi) (hG.lt j hj) ar⟩
 .omega
def MR:ED:=x5 (W9 12) (y9 (z9 0) (y9 (z9 3) (y9 (AV (λ_=>some ([],[]))) (jW 1))))
def oM(R:Nat->List Nat)(m K:Nat)(P:List (Nat×Nat))(c3 c4:Option Cell):K6:=[sC (jD R m),sC (z8 K),some (.od (jB P) (jM P)),c3,c4]
def QT(hg:jH cl m R)(hG:nJ m G)(hm:m<=11){K:Nat}(hK:K<=1000){c4:Option Cell}:∃res,MR (oM R m K P (sC (.lst (G.map z8))) c4)=some res/\EX cl G K [] res:=by
 obtain⟨res,e,h⟩:=NQ hg hG hK 12 [] 0 kC.zero (by have:=hG.len;rw[Dt];omega)
 exact⟨res,(x9 (ds:=[jD R m,.lst (G.map z8),jC [],z8 K]) rfl).trans e,h⟩
def EH:EB:=v5 (d2 vR (z9 4) (dC .non))
def MJ:EO:=Q8 (tN 1 (dI 1)) (f9 4 MR)
theorem T9(hg:jH cl m R)(hG:nJ m G)(hm:m<=11):∀(f K:Nat) (res:D),EX cl G K [] res->K<=m->qN cl m K->m+1<f+K ->
  ∃K' P' u',m8 f EH MJ (oM R m K P (sC (.lst (G.map z8))) (sC res))=some (.nx (oM R m K' P (sC (.lst (G.map z8))) (sC (jC P'))))/\kC cl G K' u' P'/\P'.length=G.length/\qN cl m K'/\K<=K'/\K'<=m
 | 0,K,res,hT,hK,hL,hf=>by omega
 |f+1,K,res,hT,hK,hL,hf=>by
  unfold m8;rcases hT with⟨rfl,bG⟩|⟨P',u',rfl,hP,hl⟩
  .have e0:EH (oM R m K P (sC (.lst (G.map z8))) (sC .non))=some true:=rfl;rw[e0];dsimp only
   have iV:∀c,¬mK cl G c K:=λc hc=>bG c hc λx hx=>by simp at hx
   have hKm:K<m:=by
    by_cases z:K<m
    .exact z
    .exact w9 (Ϥ hg (by have:=hG.len;omega)) (iV _)
   obtain⟨dZ,er,hT'⟩:=QT hg hG hm (K:=K+1) (by omega) (P:=P) (c4:=sC .non)
   have eb:MJ (oM R m K P (sC (.lst (G.map z8))) (sC .non))=some (.nx (oM R m (K+1) P (sC (.lst (G.map z8))) (sC dZ))):=w8 (Y':=oM R m (K+1) P (sC (.lst (G.map z8))) (sC .non)) rfl ((Q0 er).trans rfl)
   rw[eb];obtain⟨K',P',u',e,z1,z2,z3,z4,z5⟩:=T9 hg hG hm f (K+1) dZ hT' (by omega) (hL.up hG iV) (by omega);exact⟨K',P',u',e,z1,z2,z3,by omega,z5⟩
  .have e0:EH (oM R m K P (sC (.lst (G.map z8))) (sC (jC P')))=some false:=rfl;rw[e0];exact⟨K,P',u',rfl,hP,hl,hL,Aj _,hK⟩
theorem R9:∀(P' P:List (Nat×Nat)),((P++P').map Bp).Nodup->o4 (jB P) (jM P) (jB P') (jM P')=(jB (P++P'),jM (P++P'))
 | [],P,_=>by rw[Bx];unfold jB jM;cases P<;>rfl
 | (t,v)::P',P,hn=>by
  have bo:(((P++[(t,v)])++P').map Bp).Nodup:=by rw[Co];exact hn
  have ht:t∉P.map Bp:=λz=>by rw[B6,Bz]at hn;exact hn.2.2 t z t (by simp) rfl
  have ih:=R9 P' (P++[(t,v)]) bo;show o4 (kP (jB P) (jM P) (Bv (t:Int)) (z8 v)).1 (kP (jB P) (jM P) (Bv (t:Int)) (z8 v)).2 (jB P') (jM P')=_;rw[EV ht];dsimp only;rw[ih,Co];rfl
structure PI(cl:Nat->Nat->Bool)(m:Nat)(done:List (List Nat))(K:Nat)(P:List (Nat×Nat)):Prop where
 nd:(P.map Bp).Nodup
 mem:∀x,x∈P.map Bp↔∃G∈done,x∈G
 ok:∀x∈P,∀y∈P,cl x.1 y.1=true->x.2≠y.2
 lt:∀x∈P,x.2<K
 least:qN cl m K
 Km:K<=m
def SB:EO:=
 (Q8 (f9 4 MR)
 (Q8 (m8 200 EH MJ)
 (FC 2 (z9 4))))
def Xc(hg:jH cl m R)(hm:m<=11){done:List (List Nat)}(hd:∀G'∈done,nJ m G'/\xB cl m G')(hG:nJ m G/\xB cl m G)(ci:∀G'∈done,∀x∈G',x∉G)(h:PI cl m done K P){c4:Option Cell}:
  ∃K' P' bd,SB (oM R m K P (sC (.lst (G.map z8))) c4)=some (.nx (oM R m K' P' (sC (.lst (G.map z8))) bd))/\PI cl m (done++[G]) K' P':=by
 have m12:=hg.m12;obtain⟨res,e1,hT⟩:=QT hg hG.1 hm (K:=K) (by have:=h.Km;omega) (P:=P) (c4:=c4)
 obtain⟨K',P',u',e2,hP,hl,hL,hKK,hKm⟩:=T9 hg hG.1 hm (P:=P) 200 K res hT h.Km h.least (by omega)
 have hx:∀x∈P',x.1∉P.map Bp:=λx hx z=>by obtain⟨G',bf,aC⟩:=(h.mem x.1).mp z;exact ci G' bf x.1 aC (hP.sub x hx)
 have av:((P++P').map Bp).Nodup:=by rw[B6,Bz];refine⟨h.nd,hP.nd,λa ha b hb e=>?_⟩;obtain⟨x,aC,rfl⟩:=Ak.mp hb;exact hx x aC (e▸ha)
 have ab:(P++P').length<=1000:=by
  have:=Y3 ((P++P').map Bp) (A9 m) av λx aC=>by
   rw[B6,Aw]at aC;rcases aC with z|z
   .obtain⟨G',bf,fU⟩:=(h.mem x).mp z;exact Ag.mpr ((hd G' bf).1.lt x fU)
   .obtain⟨y,hy,rfl⟩:=Ak.mp z;exact Ag.mpr (hG.1.lt _ (hP.sub y hy))
  rw[A0,At]at this;omega
 have sep:∀x∈P,∀y∈P',cl x.1 y.1=true->False:=λx aC y hy hc=>by obtain⟨G',bf,fU⟩:=(h.mem x.1).mp (C3 aC);exact ci G' bf y.1 ((hd G' bf).2 x.1 fU y.1 (hG.1.lt _ (hP.sub y hy)) hc) (hP.sub y hy)
 refine⟨K',P++P',sC (jC P'),?_,av,λx=>?_,λx aC y hy hc=>?_,λx aC=>?_,hL,hKm⟩
 .refine w8 (Q0 e1) (w8 e2 ?_);show (if (jB P).Nodup/\(jB P).length+(jB P').length<=d9 then some (Out.nx [sC (jD R m),sC (z8 K'),some (.od (o4 (jB P) (jM P) (jB P') (jM P')).1 (o4 (jB P) (jM P) (jB P') (jM P')).2),sC (.lst (G.map z8)),sC (jC P')]) else none)=_;rw[Ah]at ab;rw[z7 ⟨BY h.nd,by unfold jB;rw[A0,A0];unfold d9;omega⟩,R9 P' P av]
  rfl
 .rw[B6,Aw,h.mem];constructor
  .rintro (⟨G',bf,aC⟩|aC)
   .exact⟨G',B7 _ bf,aC⟩
   .obtain⟨y,hy,rfl⟩:=Ak.mp aC;exact⟨G,Ac _ (Ae.mpr rfl),hP.sub y hy⟩
  .rintro ⟨G',bf,aC⟩;rcases Aw.mp bf with z|z
   .exact .inl ⟨G',z,aC⟩
   .rw[Ae.mp z]at aC;exact .inr (hP.full hG.1.nd hl x aC)
 .rcases Aw.mp aC with z|z<;>rcases Aw.mp hy with z'|z'
  .exact h.ok x z y z' hc
  .exact w9 hc λhc=>sep x z y z' hc
  .exact w9 hc λhc=>sep y z' x z (by rw[hg.sy];exact hc)
  .exact hP.ok x z y z' hc
 .rcases Aw.mp aC with z|z
  .have:=h.lt x z
   omega
  .have:=(hP.use x.2).mp ⟨x,z,rfl⟩
   have:=hP.uK
   omega
theorem Ps(hg:jH cl m R)(hm:m<=11):∀(Gs done:List (List Nat)) (K:Nat) (P:List (Nat×Nat)) (c3 c4:Option Cell),(∀G'∈done++Gs,nJ m G'/\xB cl m G')->((done++Gs).Pairwise λG G'=>∀x∈G,x∉G')->PI cl m done K P ->
  ∃K' P' cN bd,W5 (u5 3) SB (Gs.map λG=>.lst (G.map z8)) (oM R m K P c3 c4)=some (.nx (oM R m K' P' cN bd))/\PI cl m (done++Gs) K' P'
 | [],done,K,P,c3,c4,_,_,h=>⟨K,P,c3,c4,rfl,by rw[Bx];exact h⟩
 |G::Gs,done,K,P,c3,c4,hd,ci,h=>by
  have e0:done++G::Gs=(done++[G])++Gs:=by rw[Co];rfl
  obtain⟨K1,P1,c41,e1,h1⟩:=Xc hg hm (done:=done) (G:=G) (λG' bf=>hd G' (B7 _ bf)) (hd G (Ac _ A6)) (λG' bf=>(D0.mp ci).2.2 G' bf G A6) h (c4:=c4);rw[e0]at hd ci ⊢;obtain⟨K2,P2,c32,c42,e2,h2⟩:=Ps hg hm Gs (done++[G]) K1 P1 (sC (.lst (G.map z8))) c41 hd ci h1;exact⟨K2,P2,c32,c42,by rw[Af];exact(oG rfl e1).trans e2,h2⟩
structure nV(cl:Nat->Nat->Bool)(m K:Nat)(P:List (Nat×Nat)):Prop where
 nd:(P.map Bp).Nodup
 mem:∀x,x∈P.map Bp↔x<m
 ok:∀x∈P,∀y∈P,cl x.1 y.1=true->x.2≠y.2
 lt:∀x∈P,x.2<K
 least:qN cl m K
def XO(hg:jH cl m R)(av:∀t,t<m->(R t).Nodup)(hm:m<=11){K:Nat}(hK:K<=m)(hL:qN cl m K):∃K' P,CY [jD R m,z8 K]=some (jC P)/\nV cl m K' P:=by
 obtain⟨Gs,e0,g1,g2,g3,_⟩:=U4 hg av;obtain⟨K',P,c3,c4,e1,h⟩:=Ps hg hm Gs [] K [] none none g1 g2 ⟨E6,λx=>by simp,λx hx=>by simp at hx,λx hx=>by simp at hx,hL,hK⟩;refine⟨K',P,?_,h.nd,λx=>?_,h.ok,h.lt,h.least⟩
 .show kY (HH [sC (jD R m),sC (z8 K),none,none,none])=_
  have fin:HH [sC (jD R m),sC (z8 K),none,none,none]=some (.rt (jC P)):=by refine w8 (Y':=oM R m K [] none none) rfl ?_;exact w8 ((lZ (m9 ((x9 (ds:=[jD R m]) rfl).trans e0))).trans e1) rfl
  rw[fin];rfl
 .rw[h.mem];constructor
  .rintro ⟨G,hG,hx⟩;exact(g1 G hG).1.lt x hx
  .exact λhx=>g3 x hx
end
def Ol(m:Nat)(cl:Nat->Nat->Bool)(k:Nat):Y0 m cl (k+1)=Y0 m cl k++(((A9 (m-(k+1))).map λq=>k+1+q).filter (cl k)).map λ(j:Nat)=>((k:Int),(j:Int)):=by unfold Y0;rw[Hz,List.flatMap_append,List.flatMap_singleton]
def Ta:EO:=Q8 (f9 7 (kE (W6 [none,some 6,some 3,some 2] (tU (d2 jT (z9 5) (dI 1)) (jU (b9 (z9 3)))) (u5 0) (v5 (x5 Q7 (y9 (z9 1) (y9 (jI (b9 (z9 2)) (z9 0)) (jW 3))))) (z9 0))))
 (qV 4 (W6 [none,some 5] (b9 (z9 7)) (u5 0) lV (kD (jQ 1 0))))
abbrev tX(W R:D)(k:Bf)(sp found:List D)(c5 c6 c7:Option Cell):K6:=[sC W,sC R,sC (.str k),sC (.lst sp),some (.ow found),c5,c6,c7]
def X4{W R:D}{k w:Bf}(hk:xW.lookup k=some w){r:List Int}{ts:List c9}{i:Nat}{found:List c9}{c7:Option Cell}(hi:i<ts.length)(hm:ts.length<=12)(hf:found.length<=1000):
  ∃cy,Ta (tX W R k (ts.map λt=>j4 (Q9 r t)) (found.map j4) (sC (.int (i:Int))) (sC (j4 (W7 r ts i))) c7) =
   some (.nx (tX W R k (ts.map λt=>j4 (Q9 r t)) ((found++(((A9 (ts.length-(i+1))).map λq=>i+1+q).filter (i6 r ts w i)).map λ(j:Nat)=>((i:Int),(j:Int))).map j4) (sC (.int (i:Int))) (sC (j4 (W7 r ts i))) cy)):=by
 generalize ejs:((A9 (ts.length-(i+1))).map λq=>i+1+q)=js
 have hjs:∀j∈js,j<ts.length:=λj hj=>by
  rw[<-ejs]at hj;obtain⟨q,hq,rfl⟩:=Ak.mp hj
  have:=Ag.mp hq
  omega
 have hjl:js.length<=12:=by rw[<-ejs,A0,At];omega
 have e0:tU (d2 jT (z9 5) (dI 1)) (jU (b9 (z9 3))) (tX W R k (ts.map λt=>j4 (Q9 r t)) (found.map j4) (sC (.int (i:Int))) (sC (j4 (W7 r ts i))) c7)=some (js.map λ(j:Nat)=>D.int (j:Int)):=by
  have:=Ä (fa:=d2 jT (z9 5) (dI 1)) (fb:=jU (b9 (z9 3))) (Y:=tX W R k (ts.map λt=>j4 (Q9 r t)) (found.map j4) (sC (.int (i:Int))) (sC (j4 (W7 r ts i))) c7) (i:=(i:Int)+1) (j:=((ts.map λt=>j4 (Q9 r t)).length:Int)) rfl rfl
   (by unfold mY;rw[K9 (by omega),K9 (by omega)];rfl) (by rw[A0];unfold mY;rw[K9 (by omega),K9 (by omega)];rfl)
  rw[this,<-ejs,A0,B1,show ((ts.length:Int)-((i:Int)+1)).toNat=ts.length-(i+1) by omega];unfold Q2;rfl
 have e1:W6 [none,some 6,some 3,some 2] (tU (d2 jT (z9 5) (dI 1)) (jU (b9 (z9 3)))) (u5 0) (v5 (x5 Q7 (y9 (z9 1) (y9 (jI (b9 (z9 2)) (z9 0)) (jW 3))))) (z9 0) (tX W R k (ts.map λt=>j4 (Q9 r t)) (found.map j4) (sC (.int (i:Int))) (sC (j4 (W7 r ts i))) c7) =
   some ((js.filter (i6 r ts w i)).map λ(j:Nat)=>D.int (j:Int)):=by
  refine(mD e0 (by rw[A0];unfold d9;omega)).trans ?_
  refine(Q5 (λY=>∃c0,Y=[c0,sC (j4 (W7 r ts i)),sC (.lst (ts.map λt=>j4 (Q9 r t))),sC (.str k)]) (λd=>match d with|.int j=>i6 r ts w i j.toNat|_=>false) id _ _ ⟨none,rfl⟩ ?_).trans ?_
  .rintro d hd Y ⟨c0,rfl⟩;obtain⟨j,hj,rfl⟩:=Ak.mp hd;refine⟨_,rfl,⟨_,rfl⟩,J7 ?_,λ_=>rfl⟩;refine(x9 (ds:=[j4 (W7 r ts i),j4 (W7 r ts j),.str k]) (u7 rfl (u7 ((nD (ds:=ts.map λt=>j4 (Q9 r t)) rfl rfl).trans (wI (hjs j hj))) rfl))).trans ?_;rw[PJ hk];show some (D.bl (i6 r ts w i j))=some (D.bl (i6 r ts w i (j:Int).toNat));rw[Ay]
  .rw[Io,I0];rfl
 refine⟨sC (.lst ((js.filter (i6 r ts w i)).map λ(j:Nat)=>D.int (j:Int))),w8 (Q0 (mU e1)) ?_⟩
 have e2:W6 [none,some 5] (b9 (z9 7)) (u5 0) lV (kD (jQ 1 0)) (tX W R k (ts.map λt=>j4 (Q9 r t)) (found.map j4) (sC (.int (i:Int))) (sC (j4 (W7 r ts i))) (sC (.lst ((js.filter (i6 r ts w i)).map λ(j:Nat)=>D.int (j:Int))))) =
   some (((js.filter (i6 r ts w i)).map λ(j:Nat)=>((i:Int),(j:Int))).map j4):=by
  refine(mD (ds:=(js.filter (i6 r ts w i)).map λ(j:Nat)=>D.int (j:Int)) rfl (by rw[A0];have:=Cw (i6 r ts w i) js;unfold d9;omega)).trans ?_
  refine(qM (λY=>∃c0,Y=[c0,sC (.int (i:Int))]) (λd=>.tup [.int (i:Int),d]) _ _ ⟨none,rfl⟩ ?_).trans ?_
  .rintro d hd Y ⟨c0,rfl⟩;exact⟨_,rfl,⟨_,rfl⟩,oZ (ds:=[.int (i:Int),d]) rfl (show 2<=d9 by decide)⟩
  .rw[B1,B1];rfl
 refine(KU (ds:=found.map j4) rfl e2 ?_).trans ?_
 .rw[A0,A0,A0]
  have:=Cw (i6 r ts w i) js
  unfold d9;omega
 .rw[B6];rfl
theorem QK{k w:Bf}(hk:xW.lookup k=some w){ts:List c9}(hm:ts.length<=12):∀(gK:List c9) (i:Nat) (c5 c6 c7:Option Cell),ts.drop i=gK->i+gK.length=ts.length->(Y0 ts.length (i6 r ts w) i).length<=i*12 ->
  ∃dA ck cy,W5 (nZ 2 (lN (u5 5) (lN (u5 6) (nY)))) Ta (lL i (gK.map λt=>j4 (Q9 r t))) (tX W R k (ts.map λt=>j4 (Q9 r t)) ((Y0 ts.length (i6 r ts w) i).map j4) c5 c6 c7) =
   some (.nx (tX W R k (ts.map λt=>j4 (Q9 r t)) ((Y0 ts.length (i6 r ts w) ts.length).map j4) dA ck cy))
 | [],i,c5,c6,c7,hd,hl,hp=>by
  have:i=ts.length:=by simpa using hl
  subst this;exact⟨c5,c6,c7,rfl⟩
 |t::gK,i,c5,c6,c7,hd,hl,hp=>by
  rw[As]at hl
  have hi:i<ts.length:=by omega
  have ht:ts[i]?=some t:=by rw[<-List.head?_drop,hd];rfl
  obtain⟨cy,e⟩:=X4 (W:=W) (R:=R) hk (r:=r) (ts:=ts) (i:=i) (found:=Y0 ts.length (i6 r ts w) i) (c7:=c7) hi hm (by omega);rw[<-Ol]at e
  have bZ:ts.drop (i+1)=gK:=by rw[<-Mj,hd];rfl
  have iu:(Y0 ts.length (i6 r ts w) (i+1)).length<=(i+1)*12:=by
   rw[Ol,Ah,A0]
   have:=Cw (i6 r ts w i) ((A9 (ts.length-(i+1))).map λq=>i+1+q)
   rw[A0,At]at this;omega
  obtain⟨d5,d6,d7,ih⟩:=QK hk hm gK (i+1) (sC (.int (i:Int))) (sC (j4 (W7 r ts i))) cy bZ (by omega) iu;refine⟨d5,d6,d7,?_⟩;rw[Af];rw[<-yD (r:=r) ht];exact(oG rfl e).trans ih
def VC{k w:Bf}(hk:xW.lookup k=some w){ts:List c9}{r:List Int}(hn:r.Nodup)(hr:r.length<=1000)(ht:ts.length<=12)(hm:∀t∈ts,t.1∈r/\t.2∈r):
  yY [Y4 n ts,.tup (r.map D.int),.str k]=some (.tup ((Y0 ts.length (i6 r ts w) ts.length).map j4)):=by
 obtain⟨c5,c6,c7,e⟩:=QK (W:=Y4 n ts) (R:=.tup (r.map D.int)) hk (r:=r) (ts:=ts) ht ts 0 none none none rfl (by omega) (by unfold Y0;simp)
 refine mX (x:=Pf [sC (Y4 n ts),sC (.tup (r.map D.int)),sC (.str k),none,none,none,none,none]) ?_;refine w8 (Q0 ((x9 (ds:=[Y4 n ts,.tup (r.map D.int)]) rfl).trans (HK hn hr (by omega) hm))) ?_;refine w8 (zV (ds:=[]) (EK (ds:=[]) rfl (by decide))) ?_;refine w8 ((lZ (ds:=lL 0 (ts.map λt=>j4 (Q9 r t))) rfl).trans e) ?_;exact lJ (zW rfl)
def other(i:Nat)(q:Nat×Nat):Option Nat:=if q.1=i then some q.2 else if q.2=i then some q.1 else none
def nH(qs:List (Nat×Nat))(i:Nat):List Nat:=qs.filterMap (other i)
def uB(l:List Nat):List Int:=l.map λ(j:Nat)=>(j:Int)
def YV{α:Type}(f:Nat->α)(x:α):((A9 m).map f).set a x=(A9 m).map λi=>if i=a then x else f i:=by
 apply Fu;intro i;rw[List.getElem?_set,Am];by_cases hi:i<m
 .rw[Am,Dl hi];by_cases c:a=i
  .subst c;rw[z7 rfl,z7 (by rw[A0,At];exact hi)]
   simp
  .rw[y3 c]
   have:¬i=a:=λz=>c z.symm
   simp[this]
 .have hn:(A9 m)[i]?=none:=Cv (by rw[At];omega)
  rw[Am,hn];by_cases c:a=i
  .subst c;rw[z7 rfl,y3 (by rw[A0,At];exact hi)]
   rfl
  .rw[y3 c];rfl
def Pu{m a b:Nat}(f:Nat->List Int)(h:a<m):oR ((A9 m).map f) a b=(A9 m).map λi=>if i=a then f i++[(b:Int)] else f i:=by
 unfold oR
 have:((A9 m).map f).getD a []=f a:=by rw[Cu,Am,Dl h];rfl
 rw[this,YV];refine B4 λi _=>?_;by_cases c:i=a
 .subst c;simp
 .rw[y3 c,y3 c]
theorem RN{m:Nat}:∀(qs:List (Nat×Nat)) (f:Nat->List Nat),(∀q∈qs,q.1<m/\q.2<m/\q.1≠q.2)->qs.foldl r9 ((A9 m).map λi=>uB (f i))=(A9 m).map λi=>uB (f i++nH qs i)
 | [],f,_=>by rw[List.foldl_nil];refine B4 λi _=>?_;unfold nH;rw[List.filterMap_nil,Bx]
 |q::qs,f,h=>by
  have hq:=h q A6;have ih:=RN qs (λi=>f i++(other i q).toList) λq' jp=>h q' (A7 _ jp)
  have e:r9 ((A9 m).map λi=>uB (f i)) q=(A9 m).map λi=>uB (f i++(other i q).toList):=by
   unfold r9;rw[Pu _ hq.1,Pu _ hq.2.1];refine B4 λi _=>?_;unfold other uB;by_cases c1:i=q.1
   .have c2:¬i=q.2:=λz=>hq.2.2 (by omega);rw[y3 c2,z7 c1,z7 c1.symm,B6];rfl
   .by_cases c2:i=q.2
    .rw[z7 c2,y3 c1,y3 (λz=>c1 z.symm),z7 c2.symm,B6];rfl
    .rw[y3 c2,y3 c1,y3 (λz=>c1 z.symm),y3 (λz=>c2 z.symm)];simp
  rw[Fh,e,ih];refine B4 λi _=>?_;unfold nH;rw[Cs,Co];cases other i q<;>rfl
def Xs{qs:List (Nat×Nat)}(h:∀q∈qs,q.1<q.2){i j:Nat}:j∈nH qs i↔(i,j)∈qs\/(j,i)∈qs:=by
 unfold nH;rw[Er];constructor
 .rintro ⟨⟨a,b⟩,hq,e⟩;unfold other at e;dsimp only at e;split at e
  .rename_i c;cases e;rw[c]at hq;exact .inl hq
  .split at e
   .rename_i c;cases e;rw[c]at hq;exact .inr hq
   .cases e
 .rintro (hq|hq)
  .exact⟨(i,j),hq,by unfold other;rw[z7 rfl]⟩
  .refine⟨(j,i),hq,?_⟩
   have:=h _ hq
   dsimp only at this;unfold other;dsimp only;rw[y3 (by omega),z7 rfl]
def Ć{qs:List (Nat×Nat)}(h:∀q∈qs,q.1<q.2)(hn:qs.Nodup)(i:Nat):(nH qs i).Nodup:=by
 unfold nH;rw[M5,Ip];refine hn.imp_of_mem λ{a b} ha hb ah x hx y hy e=>ah ?_;have h1:=h a ha;have h2:=h b hb;obtain⟨a1,a2⟩:=a;obtain⟨b1,b2⟩:=b;subst e;unfold other at hx hy;dsimp only at h1 h2 hx hy;split at hx
 .split at hy
  .cases hx;cases hy;rename_i c1 c2;rw[c1,c2]
  .split at hy
   .cases hx;cases hy;omega
   .cases hy
 .split at hx
  .split at hy
   .cases hx;cases hy;omega
   .split at hy
    .cases hx;cases hy;exact O3 rfl (by dsimp only;omega)
    .cases hy
  .cases hx
section
variable{n:Int}{ts:List c9}{r:List Int}{k w:Bf}
def mL(ts:List c9)(r:List Int)(w:Bf):List (Nat×Nat):=(Y0 ts.length (i6 r ts w) ts.length).map λt=>(t.1.toNat,t.2.toNat)
def zG{i j:Nat}:(i,j)∈mL ts r w↔i<j/\j<ts.length/\i6 r ts w i j=true:=by
 unfold mL;rw[Ak];constructor
 .rintro ⟨t,ht,e⟩;obtain⟨a,b,rfl,_,h1,h2,h3⟩:=xA.mp ht;have e1:=lD Bp e;have e2:=lD Mi e;simp only[Ay]at e1 e2;subst e1;subst e2;exact⟨h1,h2,h3⟩
 .rintro ⟨h1,h2,h3⟩;exact⟨((i:Int),(j:Int)),xA.mpr ⟨i,j,rfl,by omega,h1,h2,h3⟩,by simp⟩
def VX:(mL ts r w).Nodup:=by unfold mL;rw[M5,Bd];refine((NV ts.length ts.length (i6 r ts w)).imp_of_mem λ{a b} ha hb am e=>?_);obtain⟨i,j,rfl,_,_,_,_⟩:=xA.mp ha;obtain⟨i',j',rfl,_,_,_,_⟩:=xA.mp hb;have e1:=lD Bp e;have e2:=lD Mi e;simp only[Ay]at e1 e2;subst e1;subst e2;exact sZ _ am
theorem Qz:∀ps:List c9,(∀t∈ps,0<=t.1/\0<=t.2)->sU (ps.map j4)=some (ps.map λt=>(t.1.toNat,t.2.toNat))
 | [],_=>rfl
 |t::ps,h=>by
  have ih:=Qz ps λt' h'=>h t' (A7 _ h');have ht:=h t A6;rw[Af,sU]
  have e:AH (j4 t)=some (t.1.toNat,t.2.toNat):=by show (if 0<=t.1/\0<=t.2 then some (t.1.toNat,t.2.toNat) else none)=_;rw[z7 ht]
  rw[e];dsimp only;rw[ih];rfl
theorem KN(hk:KW k w)(i:Nat):i6 r ts w i i=false:=by
 cases hc:i6 r ts w i i with
 |false=>rfl
 |true=>unfold i6 lU at hc;rw[z7 (.inl rfl),hk.meet]at hc;cases hc
def VZ(h:kI n ts r)(hk:KW k w):jH (i6 r ts w) ts.length (nH (mL ts r w))/\∀t,(nH (mL ts r w) t).Nodup:=by
 have am:∀q∈mL ts r w,q.1<q.2:=λq hq=>(zG (i:=q.1) (j:=q.2).mp hq).1;have av:=λt=>Ć am (VX (ts:=ts) (r:=r) (w:=w)) t
 have aN:∀t,t<ts.length->∀j,j∈nH (mL ts r w) t↔j<ts.length/\i6 r ts w t j=true:=λt ht j=>by
  rw[Xs am,zG,zG];constructor
  .rintro (⟨h1,h2,h3⟩|⟨h1,h2,h3⟩)
   .exact⟨h2,h3⟩
   .exact⟨by omega,by rw[uP];exact h3⟩
  .rintro ⟨h1,h2⟩;rcases Lb t j with c|c|c
   .exact .inl ⟨c,h1,h2⟩
   .subst c;rw[KN hk]at h2;cases h2
   .exact .inr ⟨c,ht,by rw[uP];exact h2⟩
 refine⟨⟨λi j=>uP i j,KN hk,aN,λt ht=>?_,h.m12⟩,av⟩
 have:=Y3 (nH (mL ts r w) t) (A9 ts.length) (av t) λj hj=>Ag.mpr ((aN t ht j).mp hj).1
 rw[At]at this
 have:=h.m12
 omega
def U7(h:kI n ts r)(hk:KW k w):GW [Y4 n ts,.tup (r.map D.int),.str k]=some (jD (nH (mL ts r w)) ts.length):=by
 have m12:=h.m12;have ec:=VC (n:=n) hk.tab h.nd h.rl h.m12 h.mem
 have hps:∀t∈Y0 ts.length (i6 r ts w) ts.length,0<=t.1/\0<=t.2:=λt ht=>by obtain⟨i,j,rfl,_,_,_,_⟩:=xA.mp ht;exact⟨Int.natCast_nonneg _,Int.natCast_nonneg _⟩
 have hl:(mL ts r w).length<=1000:=by
  unfold mL;rw[A0,<-Xx,(tK _).length_eq]
  have:=NT (i6 r ts w) ts.length m12
  omega
 have bv:((mL ts r w).all λq=>decide (q.1<ts.length)&&decide (q.2<ts.length))=true:=by
  rw[Eb];intro q hq
  have:=(zG (i:=q.1) (j:=q.2)).mp hq
  rw[K9 (by omega),K9 this.2.1];rfl
 show kY (uZ 3 4 5 _ _ [sC (Y4 n ts),sC (.tup (r.map D.int)),sC (.str k),none,none,none])=_
 have fin:uZ 3 4 5 (b9 (jJ 0 1)) (b9 (x5 yY (lG 0 1 2))) [sC (Y4 n ts),sC (.tup (r.map D.int)),sC (.str k),none,none,none]=some (.rt (jD (nH (mL ts r w)) ts.length)):=by
  unfold uZ;have e1:b9 (jJ 0 1) [sC (Y4 n ts),sC (.tup (r.map D.int)),sC (.str k),none,none,none]=some (ts.map j4):=rfl;have e2:b9 (x5 yY (lG 0 1 2)) [sC (Y4 n ts),sC (.tup (r.map D.int)),sC (.str k),none,none,none]=some ((Y0 ts.length (i6 r ts w) ts.length).map j4):=vF ((x9 (ds:=[Y4 n ts,.tup (r.map D.int),.str k]) rfl).trans ec);rw[e1,e2];dsimp only;rw[Qz _ hps,A0];dsimp only
  rw[z7]
  .have hf:=RN (m:=ts.length) (mL ts r w) (λ_=>[]) λq hq=>by
    have:=(zG (i:=q.1) (j:=q.2)).mp hq
    omega
   have e0:(A9 ts.length).map (λi=>uB ((λ_=>[]) i))=Bh ts.length []:=by rw[List.map_const',At];rfl
   rw[e0]at hf;unfold mL at hf;rw[hf];unfold jD;rw[B1];congr 3;refine B4 λi _=>?_;show FS (uB ([]++nH _ i))=_;rw[Kb];unfold FS uB;rw[B1];rfl
  .unfold ET;unfold mL at hl bv;rw[bv,K9 (show ts.length<=1000 by omega),K9 hl];rfl
 rw[fin];rfl
def qY(r:List Int)(ts:List c9):List Nat:=(A9 ts.length).mergeSort (oP r ts)
def yP{i:Nat}:i∈qY r ts↔i<ts.length:=by unfold qY;rw[(E2 _ _).mem_iff,Ag]
def GO:(qY r ts).Nodup:=by unfold qY;exact(E2 _ _).nodup_iff.mpr Cj
def kI.ordQ_up(h:kI n ts r):(qY r ts).Pairwise λi j=>jF (W7 r ts i) (W7 r ts j):=by
 have h1:(qY r ts).Pairwise λi j=>oP r ts i j=true:=Ea (λa b c h1 h2=>by
  unfold oP lF at h1 h2 ⊢;simp only[Fq]at h1 h2 ⊢
  exact wL _ _ _ h1 h2) (λa b=>by
  unfold oP lF
  have:=rM (W7 r ts a) (W7 r ts b)
  have h2:=rM (W7 r ts b) (W7 r ts a);unfold lA;rw[this,h2];rcases uT (W7 r ts a) (W7 r ts b) with z|z|z
  .rw[Y1 (λq=>tH z q)];rfl
  .rw[z,Y1 (sZ _)];rfl
  .rw[Y1 (λq=>tH z q)];simp) _
 refine G0 (λ{a b} ha hb q=>?_) (h1.and GO);obtain⟨q1,q2⟩:=q;unfold oP lF at q1;have l2:=rM (W7 r ts b) (W7 r ts a);unfold lA at q1;rw[l2]at q1;rcases uT (W7 r ts a) (W7 r ts b) with z|z|z
 .exact z
 .exact w9 (h.sp_inj (yP.mp ha) (yP.mp hb) z) q2
 .rw[K9 z]at q1;cases q1
def xV(r:List Int)(ts:List c9)(x y:Nat):Prop:=(W7 r ts x).1<(W7 r ts y).1/\(W7 r ts y).2<(W7 r ts x).2
def Ñ(h:kI n ts r){x y:Nat}(hx:x<ts.length)(hy:y<ts.length)(hn:xV r ts x y):i6 r ts "within" x y=true:=by rw[wA];have z:jF (W7 r ts x) (W7 r ts y):=.inl hn.1;exact(uW z (h.sp_ok hx).2.1 (h.sp_ok hy).2.1).mpr hn
def Á(h:kI n ts r){x y:Nat}(hx:x<ts.length)(hy:y<ts.length)(z:jF (W7 r ts x) (W7 r ts y))(hc:i6 r ts "within" x y=true):xV r ts x y:=(uW z (h.sp_ok hx).2.1 (h.sp_ok hy).2.1).mp (wA.mp hc)
def uX(r:List Int)(ts:List c9)(t v:Nat):Prop:=∃S:List Nat,(S++[t]).Pairwise (xV r ts)/\S.length=v/\∀x∈S,x<ts.length
def uX.more(h:uX r ts s v)(hs:s<ts.length)(hn:xV r ts s t):uX r ts t (v+1):=by
 obtain⟨S,h1,h2,h3⟩:=h;refine⟨S++[s],?_,by rw[Ah,Bb,h2],λx hx=>?_⟩
 .rw[D0];refine⟨h1,Dq _ _,λa ha b hb=>?_⟩;rw[Ae.mp hb];rcases Aw.mp ha with z|z
  .have:=(D0.mp h1).2.2 a z s (Ae.mpr rfl)
   unfold xV at this hn ⊢;omega
  .rw[Ae.mp z];exact hn
 .rcases Aw.mp hx with z|z
  .exact h3 x z
  .rw[Ae.mp z];exact hs
def uX.small(h:kI n ts r)(hF:p8 ts.length (i6 r ts "within") F){t v:Nat}(ht:t<ts.length)(hc:uX r ts t v):v<F.length:=by
 obtain⟨S,h1,h2,h3⟩:=hc
 have am:∀x∈S++[t],x<ts.length:=λx hx=>by
  rcases Aw.mp hx with z|z
  .exact h3 x z
  .rw[Ae.mp z];exact ht
 have:=hF.top (S++[t]) (h1.imp λ{a b} q e=>by unfold xV at q;subst e;omega) am (h1.imp_of_mem λ{a b} ha hb q=>Ñ h (am a ha) (am b hb) q)
 rw[Ah,Bb]at this;omega
structure QI(r:List Int)(ts:List c9)(done:List Nat)(P:List (Nat×Nat)):Prop where
 keys:P.map Bp=done
 ok:∀x∈P,∀y∈P,i6 r ts "within" x.1 y.1=true->x.2≠y.2
 ch:∀x∈P,uX r ts x.1 x.2
def mex(T:List Nat):∃v,v∉T/\v<=T.length/\(∀v',v'<v->v'∈T)/\((A9 (T.length+1)).filter λj=>!decide (j∈T))≠[]:=by
 have ah:((A9 (T.length+1)).filter λj=>!decide (j∈T))≠[]:=λe=>by
  rw[List.filter_eq_nil_iff]at e
  have:=Y3 (A9 (T.length+1)) T Cj λx hx=>by
   have:=e x hx
   simpa using this
  rw[At]at this;omega
 have aA:∀q,(∀v,v<q->v∈T)\/∃v,v<q/\v∉T/\∀v',v'<v->v'∈T:=λq=>by
  induction q with
  |zero=>exact .inl λv hv=>w9 hv (Dv _)
  |succ q ih=>
   rcases ih with z|⟨v,z1,z2,z3⟩
   .by_cases c:q∈T
    .exact .inl λv hv=>by
      by_cases e:v=q
      .rw[e];exact c
      .exact z v (by omega)
    .exact .inr ⟨q,by omega,c,z⟩
   .exact .inr ⟨v,by omega,z2,z3⟩
 rcases aA (T.length+1) with z|⟨v,z1,z2,z3⟩
 .exfalso
  have:=Y3 (A9 (T.length+1)) T Cj λx hx=>z x (Ag.mp hx)
  rw[At]at this;omega
 .exact⟨v,z2,by omega,z3,ah⟩
def MT:ED:=tP (W6 [none,some 6] (lB (d2 jT (jU (b9 (z9 6))) (dI 1))) (u5 0) (v5 (jX true (z9 0) (b9 (z9 1)))) (z9 0))
theorem Ì{T:List Nat}(hl:T.length<=1000)(h6:z9 6 Y=some (.lst (T.map z8)))(hc:nF [none,some 6] Y=[none,sC (.lst (T.map z8))]):∃v,MT Y=some (z8 v)/\v∉T/\∀v',v'<v->v'∈T:=by
 obtain⟨v,v1,v2,v3,ah⟩:=mex T;refine⟨v,?_,v1,v3⟩
 have e0:W6 [none,some 6] (lB (d2 jT (jU (b9 (z9 6))) (dI 1))) (u5 0) (v5 (jX true (z9 0) (b9 (z9 1)))) (z9 0) Y=some (((A9 (T.length+1)).filter λj=>!decide (j∈T)).map z8):=by
  have er:lB (d2 jT (jU (b9 (z9 6))) (dI 1)) Y=some ((A9 (T.length+1)).map z8):=uJ (j:=T.length+1) ((kK (x:=.int (T.length:Int)) (y:=.int 1) ((oY (m9 h6)).trans (by rw[A0])) rfl).trans rfl) (by omega);refine(mD er (by rw[A0,At];unfold d9;omega)).trans ?_
  rw[hc];refine(Q5 (λY=>∃c,Y=[c,sC (.lst (T.map z8))]) (λd=>match d with|.int x=>!decide (x.toNat∈T)|_=>false) (λd=>d) _ _ ⟨none,rfl⟩ ?_).trans ?_
  .rintro d hd Y ⟨c,rfl⟩;obtain⟨j,hj,rfl⟩:=Ak.mp hd;refine⟨_,rfl,⟨_,rfl⟩,J7 ((LB true rfl rfl).trans ?_),λ_=>rfl⟩;show some (D.bl (!decide (j∈T)))=some (D.bl (!decide ((j:Int).toNat∈T)));rw[Ay]
  .rw[Hj,uQ (q:=λj=>!decide (j∈T)) _ (λi _=>by
    show (!decide ((i:Int).toNat∈T))=_
    rw[Ay])]
 unfold MT tP;rw[e0];dsimp only;rw[yM];have hv:v∈(A9 (T.length+1)).filter λj=>!decide (j∈T):=Az.mpr ⟨Ag.mpr (by omega),by simpa using v1⟩
 have cm:∀x∈(A9 (T.length+1)).filter λj=>!decide (j∈T),v<=x:=λx hx=>by
  have aC:x∉T:=by simpa using (Az.mp hx).2
  by_cases c:v<=x
  .exact c
  .exact w9 (v3 x (by omega)) aC
 generalize (A9 (T.length+1)).filter (λj=>!decide (j∈T))=L at hv cm ah
 cases L with
 |nil=>exact w9 rfl ah
 |cons a L=>
  rw[Af];dsimp only;have ho:=BU (L.map λ(i:Nat)=>(i:Int)) (a:Int);rw[<-Af (f:=λ(i:Nat)=>(i:Int))]at ho;obtain⟨x,hx,e⟩:=Ak.mp ho.1;have h1:=cm x hx;have h2:=ho.2 (v:Int) (Ak.mpr ⟨v,hv,rfl⟩);rw[<-e]at h2;rw[<-e]
  have:x=v:=by omega
  rw[this];rfl
def oN(n:Int)(ts:List c9)(r:List Int)(R:Nat->List Nat)(P:List (Nat×Nat))(c5 c6:Option Cell):K6:=[sC (Y4 n ts),sC (.tup (r.map D.int)),sC (jD R ts.length),sC (Z0 r ts),some (.od (jB P) (jM P)),c5,c6]
def SL:EO:=
 (Q8 (f9 6 (qO 4 (x5 J0 (lG 2 4 5))))
 (mQ 4 (z9 5) MT))
theorem Qu:∀l:List Nat,sX (l.map z8)=true
 | []=>by simp[sX]
 |a::l=>by rw[Af,sX,Qu l];rfl
def YL{c6:Option Cell}(et:J0 [jD R ts.length,jC P,z8 t]=some (.lst ((lP R P t).map z8))):qO 4 (x5 J0 (lG 2 4 5)) (oN n ts r R P (sC (z8 t)) c6)=some (.lst ((lP R P t).map z8)):=by have e1:x5 J0 (lG 2 4 5) ((oN n ts r R P (sC (z8 t)) c6).set 4 (sC (.dct (jB P) (jM P))))=some (.lst ((lP R P t).map z8)):=(x9 (ds:=[jD R ts.length,jC P,z8 t]) rfl).trans et;have e0:(oN n ts r R P (sC (z8 t)) c6)[4]?=some (some (.od (jB P) (jM P))):=rfl;unfold qO;rw[e0];dsimp only;rw[e1];dsimp only;rw[z7 (by rw[rH];exact Qu _)]
def š{fk fv:ED}(hv:fv Y=some (z8 v))(hk:fk Y=some (z8 t))(ho:pN i Y=some (jB P,jM P))(av:(P.map Bp).Nodup)(hn:t∉P.map Bp)(hl:P.length<=1000):mQ i fk fv Y=some (.nx (Y.set i (some (.od (jB (P++[(t,v)])) (jM (P++[(t,v)])))))):=by unfold mQ;rw[hv];dsimp only;rw[ho];dsimp only;rw[hk];dsimp only;have ek:qX (z8 t)=some (Bv (t:Int)):=rfl;rw[ek];dsimp only;rw[z7 ⟨BY av,by unfold jB;rw[A0];unfold d9;omega⟩,EV hn]
def Xn(h:kI n ts r)(hg:jH (i6 r ts "within") ts.length R)(hI:QI r ts done P)(hd:∀x∈done,x<ts.length/\jF (W7 r ts x) (W7 r ts t))(hn:done.Nodup)(ht:t<ts.length)(gO:t∉done){c6:Option Cell}:
  ∃v ck,SL (oN n ts r R P (sC (z8 t)) c6)=some (.nx (oN n ts r R (P++[(t,v)]) (sC (z8 t)) ck))/\QI r ts (done++[t]) (P++[(t,v)]):=by
 have m12:=h.m12
 have av:(P.map Bp).Nodup:=by rw[hI.keys];exact hn
 have hk:t∉P.map Bp:=by rw[hI.keys];exact gO
 have af:P.length<=12:=by
  have:=Y3 (P.map Bp) (A9 ts.length) av λx hx=>Ag.mpr (hd x (by rw[<-hI.keys];exact hx)).1
  rw[A0,At]at this;omega
 have et:=GF (P:=P) ht (hg.len t ht)
 have htl:(lP R P t).length<=1000:=by unfold lP;rw[A0];exact Bn (Cw _ _) (hg.len t ht)
 obtain⟨v,ev,v1,v2⟩:=Ì (T:=lP R P t) (Y:=oN n ts r R P (sC (z8 t)) (sC (.lst ((lP R P t).map z8)))) htl rfl rfl;have bL:∀x∈P,i6 r ts "within" t x.1=true->x.2≠v:=λx hx hc e=>v1 ((CA av).mpr ⟨x,hx,(hg.mem t ht x.1).mpr ⟨(hd x.1 (by rw[<-hI.keys];exact C3 hx)).1,hc⟩,e⟩)
 refine⟨v,sC (.lst ((lP R P t).map z8)),?_,?_,λx hx y hy hc=>?_,λx hx=>?_⟩
 .refine w8 (Y':=oN n ts r R P (sC (z8 t)) (sC (.lst ((lP R P t).map z8)))) (Q0 (d:=.lst ((lP R P t).map z8)) ?_) ?_
  .exact YL et
  .exact(š ev rfl rfl av hk (by omega)).trans rfl
 .rw[B6,hI.keys];rfl
 .rcases Aw.mp hx with z|z<;>rcases Aw.mp hy with z'|z'
  .exact hI.ok x z y z' hc
  .rw[Ae.mp z']at hc ⊢;exact bL x z (by rw[hg.sy];exact hc)
  .rw[Ae.mp z]at hc ⊢;exact λe=>bL y z' hc e.symm
  .rw[Ae.mp z,Ae.mp z',hg.ir]at hc;cases hc
 .rcases Aw.mp hx with z|z
  .exact hI.ch x z
  .rw[Ae.mp z];show uX r ts t v
   cases v with
   |zero=>exact⟨[],Dq _ _,rfl,λx hx=>by simp at hx⟩
   |succ v=>
    obtain⟨y,hy,y1,y2⟩:=(CA av).mp (v2 v (Dy _));have hyd:=hd y.1 (by rw[<-hI.keys];exact C3 hy)
    have hc:=(hg.mem t ht y.1).mp y1
    have:=hI.ch y hy
    rw[y2]at this;exact this.more hyd.1 (Á h hyd.1 ht hyd.2 (by rw[uP];exact hc.2))
theorem TQ(h:kI n ts r)(hg:jH (i6 r ts "within") ts.length R):∀(rest done:List Nat) (P:List (Nat×Nat)) (c5 c6:Option Cell),done++rest=qY r ts->QI r ts done P ->
  ∃P' dA ck,W5 (u5 5) SL (rest.map z8) (oN n ts r R P c5 c6)=some (.nx (oN n ts r R P' dA ck))/\QI r ts (qY r ts) P'
 | [],done,P,c5,c6,e,hI=>by rw[Bx]at e;subst e;exact⟨P,c5,c6,rfl,hI⟩
 |t::rest,done,P,c5,c6,e,hI=>by
  have hup:=h.ordQ_up;have av:=GO (r:=r) (ts:=ts);rw[<-e]at hup av;have aN:∀x∈done++t::rest,x<ts.length:=λx hx=>yP.mp (by rw[<-e];exact hx)
  have ha:=D0.mp hup;have hb:=Bz.mp av;obtain⟨v,ck,e1,hI'⟩:=Xn h hg hI (t:=t) (λx hx=>⟨aN x (B7 _ hx),ha.2.2 x hx t A6⟩) hb.1 (aN t (Ac _ A6)) (λz=>hb.2.2 t z t A6 rfl) (c6:=c6);obtain⟨P',dA,c6'',e2,h2⟩:=TQ h hg rest (done++[t]) (P++[(t,v)]) (sC (z8 t)) ck (by rw[Co];exact e) hI'
  exact⟨P',dA,c6'',by rw[Af];exact(oG rfl e1).trans e2,h2⟩
def NU(hF:p8 m cl F):qN cl m F.length:=λc K' hc=>by
 have:=Y3 (F.map c) (A9 K') (Bd.mpr (hF.pw.imp_of_mem λ{a b} ha hb q=>hc.ne a b (hF.lt a ha) (hF.lt b hb) q)) λx hx=>by obtain⟨y,hy,rfl⟩:=Ak.mp hx;exact Ag.mpr (hc.lt y (hF.lt y hy))
 rw[A0,At]at this;exact this
def Zm(h:kI n ts r)(hg:jH (i6 r ts "within") ts.length R)(hF:p8 ts.length (i6 r ts "within") F):∃P,DA [Y4 n ts,.tup (r.map D.int),jD R ts.length]=some (jC P)/\nV (i6 r ts "within") ts.length F.length P:=by
 have m12:=h.m12;obtain⟨P,c5,c6,e1,hI⟩:=TQ (n:=n) h hg (qY r ts) [] [] none none rfl ⟨rfl,λx hx=>by simp at hx,λx hx=>by simp at hx⟩;have am:∀x∈P,x.1<ts.length:=λx hx=>yP.mp (by rw[<-hI.keys];exact C3 hx)
 refine⟨P,?_,by rw[hI.keys];exact GO,λx=>by rw[hI.keys];exact yP,hI.ok,λx hx=>(hI.ch x hx).small h hF (am x hx),NU hF⟩
 have es:=HK (n:=n) h.nd h.rl h.hm' h.mem;show kY (HP [sC (Y4 n ts),sC (.tup (r.map D.int)),sC (jD R ts.length),none,none,none,none])=_
 have eo:qB [none,some 3] (Z7 (jU (b9 (z9 3)))) (jI (b9 (z9 1)) (z9 0)) (oN n ts r R [] none none)=some ((qY r ts).map z8):=by
  unfold qB
  have e0:Z7 (jU (b9 (z9 3))) (oN n ts r R [] none none)=some ((A9 ts.length).map z8):=by refine(CF (j:=(ts.length:Int)) ((oY (ds:=ts.map λt=>j4 (Q9 r t)) rfl).trans (by rw[A0])) (by omega) (by omega)).trans ?_;rw[Ay];unfold i4;rw[B1];refine lD some (B4 λi _=>?_);show D.int (0+(i:Int))=D.int (i:Int);rw[Np]
  rw[e0];dsimp only
  have ek:oQ (jI (b9 (z9 1)) (z9 0)) (nF [none,some 3] (oN n ts r R [] none none)) ((A9 ts.length).map z8)=some ((A9 ts.length).map λi=>j4 (W7 r ts i)):=by
   refine(BK (f:=λd=>match d with|.int x=>j4 (W7 r ts x.toNat)|_=>.non) _ λd hd=>?_).trans ?_
   .obtain⟨i,hi,rfl⟩:=Ak.mp hd;show jI (b9 (z9 1)) (z9 0) [sC (z8 i),sC (Z0 r ts)]=some (j4 (W7 r ts (i:Int).toNat));rw[Ay];exact(nD (ds:=ts.map λt=>j4 (Q9 r t)) (j:=(i:Int)) rfl rfl).trans (wI (Ag.mp hi))
   .rw[B1];refine lD some (B4 λi _=>?_);show j4 (W7 r ts (i:Int).toNat)=_;rw[Ay]
  rw[ek];exact Oy h Cj λi hi=>Ag.mp hi
 have fin:HP [sC (Y4 n ts),sC (.tup (r.map D.int)),sC (jD R ts.length),none,none,none,none]=some (.rt (jC P)):=by refine w8 (Q0 (d:=Z0 r ts) ((x9 (ds:=[Y4 n ts,.tup (r.map D.int)]) rfl).trans es)) ?_;refine w8 (Y':=oN n ts r R [] none none) rfl ?_;exact w8 ((lZ (m9 (mU eo))).trans e1) rfl
 rw[fin];rfl
end
def W1(ks:List Nat)(p:Nat):List Nat:=if p∈ks then ks else ks++[p]
def mV(vs:List Nat):List Nat:=vs.foldl W1 []
theorem DR:∀(vs ks:List Nat) (p:Nat),p∈vs.foldl W1 ks↔p∈ks\/p∈vs
 | [],ks,p=>by simp
 |v::vs,ks,p=>by
  rw[Fh,DR vs,Ad];unfold W1;by_cases c:v∈ks
  .rw[z7 c];constructor
   .rintro (z|z)
    .exact .inl z
    .exact .inr (.inr z)
   .rintro (z|z|z)
    .exact .inl z
    .rw[z];exact .inl c
    .exact .inr z
  .rw[y3 c,Aw,Ae,or_assoc]
theorem BS:∀(vs ks:List Nat),ks.Nodup->(vs.foldl W1 ks).Nodup
 | [],ks,h=>h
 |v::vs,ks,h=>by
  rw[Fh];refine BS vs _ ?_;unfold W1;by_cases c:v∈ks
  .rw[z7 c];exact h
  .rw[y3 c,Bz];refine⟨h,Dq _ _,λa ha b hb e=>c ?_⟩;rw[<-Ae.mp hb,<-e];exact ha
theorem QN{g:Nat->Nat}:∀(vs ks:List Nat),(∀a∈ks++vs,∀b∈ks++vs,g a=g b->a=b)->(vs.map g).foldl W1 (ks.map g)=(vs.foldl W1 ks).map g
 | [],ks,_=>rfl
 |v::vs,ks,h=>by
  rw[Af,Fh,Fh]
  have e:W1 (ks.map g) (g v)=(W1 ks v).map g:=by
   unfold W1;by_cases c:v∈ks
   .rw[z7 c,z7 (C3 c)]
   .have:g v∉ks.map g:=λz=>by
     obtain⟨x,hx,e⟩:=Ak.mp z
     have:=h x (B7 _ hx) v (Ac _ A6) e
     exact c (this▸hx)
    rw[y3 c,y3 this,B6];rfl
  rw[e]
  have sub:∀a∈W1 ks v++vs,a∈ks++v::vs:=λa ha=>by
   rcases Aw.mp ha with z|z
   .unfold W1 at z;split at z
    .exact B7 _ z
    .rcases Aw.mp z with y|y
     .exact B7 _ y
     .rw[Ae.mp y];exact Ac _ A6
   .exact Ac _ (A7 _ z)
  exact QN vs (W1 ks v) λa ha b hb=>h a (sub a ha) b (sub b hb)
def kL(ks:List Nat):List (Nat×Nat):=ks.map λp=>(p,ks.idxOf p)
def BV(ks:List Nat):(kL ks).map Bp=ks:=by unfold kL;rw[B1];exact(B4 (λp _=>rfl:∀p∈ks,(Bp∘λp=>(p,ks.idxOf p)) p=p)).trans (Io _)
def ϱ{ks:List Nat}{p:Nat}(h:p∉ks):kL ks++[(p,ks.length)]=kL (ks++[p]):=by
 unfold kL;rw[B6];congr 1
 .refine B4 λq hq=>?_;rw[Ji,z7 hq]
 .show [(p,ks.length)]=[(p,(ks++[p]).idxOf p)];rw[Ji,y3 h,Hb,M4]
def YA{ks:List Nat}{p:Nat}(hn:ks.Nodup)(h:p∈ks):(kL ks).lookup p=some (ks.idxOf p):=(BJ (by rw[BV];exact hn)).mpr (C3 (f:=λp=>(p,ks.idxOf p)) h)
def MG:EO:=oF 1 (z9 2) (qO 1 (uY (z9 1)))
def ϯ{ks:List Nat}(hn:ks.Nodup)(hl:ks.length<=1000):MG [sC vD,some (.od (jB (kL ks)) (jM (kL ks))),sC (z8 p)]=some (.nx [sC vD,some (.od (jB (kL (W1 ks p))) (jM (kL (W1 ks p)))),sC (z8 p)]):=by
 have e1:qO 1 (uY (z9 1)) [sC vD,some (.od (jB (kL ks)) (jM (kL ks))),sC (z8 p)]=some (z8 ks.length):=by show (match some (D.int ((jB (kL ks)).length:Int)) with|some d=>if rH d=true then some d else none|none=>none)=_;unfold jB kL;rw[A0,A0];rfl
 have ek:qX (z8 p)=some (Bv (p:Int)):=rfl;have e2:pN 1 [sC vD,some (.od (jB (kL ks)) (jM (kL ks))),sC (z8 p)]=some (jB (kL ks),jM (kL ks)):=rfl;have e3:z9 2 [sC vD,some (.od (jB (kL ks)) (jM (kL ks))),sC (z8 p)]=some (z8 p):=rfl
 have hk:((kL ks).map Bp).Nodup:=by rw[BV];exact hn
 have hs:(kF (jB (kL ks)) (jM (kL ks)) (Bv (p:Int))).isSome=decide (p∈ks):=by rw[wC,Fs,wU,BV]
 unfold MG oF;rw[e2];dsimp only;rw[e3];dsimp only;rw[ek];dsimp only;rw[e1];dsimp only;rw[z7 ⟨BY hk,by unfold jB kL;rw[A0,A0];unfold d9;omega⟩,hs]
 unfold W1;by_cases c:p∈ks
 .rw[z7 (K9 c),z7 c]
 .rw[y3 (by rw[Y1 c];decide),y3 c,EV (by rw[BV];exact c),ϱ c]
  rfl
theorem TD:∀(vs ks:List Nat) (c2:Option Cell),ks.Nodup->ks.length+vs.length<=1000->∃fq,W5 (u5 2) MG (vs.map z8) [sC vD,some (.od (jB (kL ks)) (jM (kL ks))),c2]=some (.nx [sC vD,some (.od (jB (kL (vs.foldl W1 ks))) (jM (kL (vs.foldl W1 ks)))),fq])
 | [],ks,c2,_,_=>⟨c2,rfl⟩
 |p::vs,ks,c2,hn,hl=>by
  rw[As]at hl;have h1:(W1 ks p).Nodup:=BS [p] ks hn
  have h2:(W1 ks p).length<=ks.length+1:=by
   unfold W1;split
   .omega
   .rw[Ah,Bb];exact Aj _
  obtain⟨fq,e⟩:=TD (vD:=vD) vs (W1 ks p) (sC (z8 p)) h1 (by omega);refine⟨fq,?_⟩;rw[Af];exact(oG rfl (ϯ hn (by omega))).trans e
def Wb{vs:List Nat}(hl:vs.length<=1000):IE [.lst (vs.map z8)]=some (.tup ((vs.map λp=>(mV vs).idxOf p).map z8)):=by
 obtain⟨c2,e⟩:=TD (vD:=.lst (vs.map z8)) vs [] none E6 (by rw[Dt];omega)
 have hn:(mV vs).Nodup:=BS vs [] E6;refine mX (x:=Os [sC (.lst (vs.map z8)),none,none]) ?_;refine w8 (Y':=[sC (.lst (vs.map z8)),some (.od (jB (kL [])) (jM (kL []))),none]) rfl ?_;refine w8 ((lZ (ds:=vs.map z8) rfl).trans e) ?_;show i9 (qQ (W6 [none,some 1] (b9 (z9 0)) (u5 0) lV (nL (z9 1) (z9 0)))) [sC (.lst (vs.map z8)),sC (jC (kL (mV vs))),c2]=_;refine lJ (zW ((mD (ds:=vs.map z8) rfl (by rw[A0];unfold d9;omega)).trans ?_))
 refine(qM (λY=>∃c,Y=[c,sC (jC (kL (mV vs)))]) (λd=>match d with|.int x=>z8 ((mV vs).idxOf x.toNat)|_=>.non) _ _ ⟨none,rfl⟩ ?_).trans ?_
 .rintro d hd Y ⟨c,rfl⟩;obtain⟨p,hp,rfl⟩:=Ak.mp hd;refine⟨_,rfl,⟨_,rfl⟩,?_⟩;show kF (jB (kL (mV vs))) (jM (kL (mV vs))) (Bv (p:Int))=some (z8 ((mV vs).idxOf (p:Int).toNat));rw[wC,YA hn (show p∈mV vs from (DR vs [] p).mpr (.inr hp)),Ay];rfl
 .rw[B1,B1];refine lD some (B4 λp _=>?_);show z8 ((mV vs).idxOf (p:Int).toNat)=_;rw[Ay];rfl
def FU(f:List Nat)(i:Nat):Nat:=f.getD i 0
structure p9(cl:Nat->Nat->Bool)(m K:Nat)(f:List Nat):Prop where
 len:f.length=m
 col:GA cl m (FU f) K
 fst:mV f=A9 K
 least:qN cl m K
section
variable{n:Int}{ts:List c9}{r:List Int}{k w:Bf}{cl:Nat->Nat->Bool}{m K:Nat}{P:List (Nat×Nat)}
def RO(h:nV cl m K P):p9 cl m K (((A9 m).map λi=>(P.lookup i).getD 0).map λp=>(mV ((A9 m).map λi=>(P.lookup i).getD 0)).idxOf p):=by
 let c:Nat->Nat:=λi=>(P.lookup i).getD 0
 have hc:∀i,i<m->(i,c i)∈P:=λi hi=>by
  have hs:(P.lookup i).isSome=true:=by rw[wU,K9 ((h.mem i).mpr hi)]
  obtain⟨v,hv⟩:=Dj.mp hs
  have:c i=v:=by show (P.lookup i).getD 0=v;rw[hv];rfl
  rw[this];exact(BJ h.nd).mp hv
 let vs:=(A9 m).map c
 let ks:=mV vs
 have bF:∀p,p∈ks↔∃i,i<m/\c i=p:=λp=>by show p∈vs.foldl W1 []↔_;rw[DR,Ak];simp[Ag]
 have hn:ks.Nodup:=BS vs [] E6
 have ab:ks.length<=K:=by
  have:=Y3 ks (A9 K) hn λp hp=>by obtain⟨i,hi,rfl⟩:=(bF p).mp hp;exact Ag.mpr (h.lt _ (hc i hi))
  rw[At]at this;exact this
 have gM:∀i,i<m->FU (vs.map λp=>ks.idxOf p) i=ks.idxOf (c i):=λi hi=>by unfold FU;rw[Cu,Am,Am,Dl hi];rfl
 have eU:GA cl m (FU (vs.map λp=>ks.idxOf p)) ks.length:=by
  refine⟨λi hi=>?_,λi j hi hj ar e=>?_⟩
  .rw[gM i hi];exact Bl ((bF _).mpr ⟨i,hi,rfl⟩)
  .rw[gM i hi,gM j hj]at e
   have:=IN ((bF _).mpr ⟨i,hi,rfl⟩) ((bF _).mpr ⟨j,hj,rfl⟩) e
   exact h.ok _ (hc i hi) _ (hc j hj) ar this
 have hK:ks.length=K:=by
  have:=h.least _ _ eU
  omega
 refine⟨by rw[A0,A0,At],by rw[<-hK];exact eU,?_,h.least⟩
 have e:=QN (g:=λp=>ks.idxOf p) vs [] λa ha b hb e=>IN ((bF a).mpr (by simpa [vs,Ag] using ha)) ((bF b).mpr (by simpa [vs,Ag] using hb)) e;show (vs.map λp=>ks.idxOf p).foldl W1 ([].map λp=>ks.idxOf p)=_;rw[e,<-hK];show ks.map (λp=>ks.idxOf p)=_;apply Fu;intro i;rw[Am];by_cases hi:i<ks.length
 .rw[A4 hi,Dl hi];show some (ks.idxOf ks[i])=some i;rw[hn.idxOf_getElem i hi]
 .rw[Cv (by omega),Cv (by rw[At];omega)]
  rfl
def U3(h:kI n ts r)(hm:ts.length<=11)(hk:KW k w)(eF:zE [Y4 n ts,.tup (r.map D.int),.str k]=some (jR F))(hF:p8 ts.length (i6 r ts w) F):
  ∃(f:List Nat) (K:Nat),K7 [Y4 n ts,.tup (r.map D.int),.str k]=some (.tup (f.map z8))/\p9 (i6 r ts w) ts.length K f/\(k = "queue"->K=F.length):=by
 have m12:=h.m12;obtain⟨hg,av⟩:=VZ h hk;have er:=U7 h hk;generalize nH (mL ts r w)=R at hg av er
 have aA:∀(K:Nat) (P:List (Nat×Nat)),nV (i6 r ts w) ts.length K P->(jZ (v5 (d2 lH (z9 2) (dC (.str "queue"))))
   (f9 4 (x5 DA (lG 0 1 3)))
   (f9 4 (x5 CY (y9 (z9 3) (y9 (jU (b9 (x5 zE (lG 0 1 2)))) i3))))) [sC (Y4 n ts),sC (.tup (r.map D.int)),sC (.str k),sC (jD R ts.length),none]=some (.nx [sC (Y4 n ts),sC (.tup (r.map D.int)),sC (.str k),sC (jD R ts.length),sC (jC P)]) ->
   K7 [Y4 n ts,.tup (r.map D.int),.str k]=some (.tup ((((A9 ts.length).map λi=>(P.lookup i).getD 0).map λp=>(mV ((A9 ts.length).map λi=>(P.lookup i).getD 0)).idxOf p).map z8)):=λK P hP e=>by
  show kY (HR [sC (Y4 n ts),sC (.tup (r.map D.int)),sC (.str k),none,none])=_;have en:=Wb (vs:=(A9 ts.length).map λi=>(P.lookup i).getD 0) (by rw[A0,At];omega)
  have ec:W6 [none,some 4] (lB (jU (b9 (z9 3)))) (u5 0) lV (nL (z9 1) (z9 0)) [sC (Y4 n ts),sC (.tup (r.map D.int)),sC (.str k),sC (jD R ts.length),sC (jC P)]=some (((A9 ts.length).map λi=>(P.lookup i).getD 0).map z8):=by
   have e0:lB (jU (b9 (z9 3))) [sC (Y4 n ts),sC (.tup (r.map D.int)),sC (.str k),sC (jD R ts.length),sC (jC P)]=some ((A9 ts.length).map z8):=uJ ((oY (ds:=(A9 ts.length).map λi=>D.lst ((R i).map z8)) rfl).trans (by rw[A0,At])) (by omega);refine(mD e0 (by rw[A0,At];unfold d9;omega)).trans ?_
   refine(qM (λY=>∃c,Y=[c,sC (jC P)]) (λd=>match d with|.int x=>z8 ((P.lookup x.toNat).getD 0)|_=>.non) _ _ ⟨none,rfl⟩ ?_).trans ?_
   .rintro d hd Y ⟨c,rfl⟩;obtain⟨i,hi,rfl⟩:=Ak.mp hd;refine⟨_,rfl,⟨_,rfl⟩,?_⟩;show kF (jB P) (jM P) (Bv (i:Int))=some (z8 ((P.lookup (i:Int).toNat).getD 0))
    have hs:(P.lookup i).isSome=true:=by rw[wU,K9 ((hP.mem i).mpr (Ag.mp hi))]
    obtain⟨v,hv⟩:=Dj.mp hs;rw[wC,Ay,hv];rfl
   .rw[B1,B1];refine lD some (B4 λi _=>?_);show z8 ((P.lookup (i:Int).toNat).getD 0)=_;rw[Ay];rfl
  have fin:HR [sC (Y4 n ts),sC (.tup (r.map D.int)),sC (.str k),none,none]=some (.rt (.tup ((((A9 ts.length).map λi=>(P.lookup i).getD 0).map λp=>(mV ((A9 ts.length).map λi=>(P.lookup i).getD 0)).idxOf p).map z8))):=by refine w8 (Q0 (d:=jD R ts.length) ((x9 (ds:=[Y4 n ts,.tup (r.map D.int),.str k]) rfl).trans er)) ?_;refine w8 e ?_;exact lJ ((x9 (ds:=[.lst (((A9 ts.length).map λi=>(P.lookup i).getD 0).map z8)]) (u7 (mU ec) rfl)).trans en)
  rw[fin];rfl
 have t0:v5 (d2 lH (z9 2) (dC (.str "queue"))) [sC (Y4 n ts),sC (.tup (r.map D.int)),sC (.str k),sC (jD R ts.length),none]=some (k=="queue"):=J7 rfl;rcases hk with⟨rfl,rfl⟩|⟨rfl,rfl⟩
 .have hFl:F.length<=ts.length:=by
   have:=Y3 F (A9 ts.length) (hF.up.imp λ{a b} q=>Aq q) λx hx=>Ag.mpr (hF.lt x hx)
   rw[At]at this;exact this
  obtain⟨K,P,e,hP⟩:=XO hg (λt _=>av t) hm hFl (NU hF);refine⟨_,K,aA K P hP ?_,RO hP,λz=>w9 z (by decide +kernel)⟩;refine(Y9 t0).trans ?_;rw[show (("pile":Bf)=="queue")=false by decide +kernel,y3 (by decide)];exact(Q0 (d:=jC P) ((x9 (ds:=[jD R ts.length,z8 F.length]) (u7 rfl (u7 ((oY (ds:=F.map z8) (vF ((x9 (ds:=[Y4 n ts,.tup (r.map D.int),.str "pile"]) rfl).trans eF))).trans (by rw[A0];rfl)) rfl))).trans e)).trans rfl
 .obtain⟨P,e,hP⟩:=Zm h hg hF;refine⟨_,F.length,aA F.length P hP ?_,RO hP,λ_=>rfl⟩;refine(Y9 t0).trans ?_;rw[show (("queue":Bf)=="queue")=true by decide +kernel,z7 rfl];exact(Q0 (d:=jC P) ((x9 (ds:=[Y4 n ts,.tup (r.map D.int),jD R ts.length]) rfl).trans e)).trans rfl
end
def jN(ts:List c9)(r:List Int)(w:Bf)(K:Nat):Prop:=∃c,GA (i6 r ts w) ts.length c K
def rD(r:List Int)(w:Bf)(s t:c9):Bool:=lU (Q9 r s) (Q9 r t)==w
def Sj{ts:List c9}{i j:Nat}(hi:i<ts.length)(hj:j<ts.length):i6 r ts w i j=rD r w ts[i] ts[j]:=by unfold i6 rD;rw[yD (A4 hi),yD (A4 hj)]
def jN.mono{K K':Nat}(h:jN ts r w K)(hk:K<=K'):jN ts r w K':=let ⟨c,hc⟩:=h;⟨c,λi hi=>B8 (hc.lt i hi) hk,hc.ne⟩
def jN.map{fE gQ:List c9}{R:c9->c9->Prop}(f:∀s∈fE,∃t∈gQ,R s t)(hR:∀s t s' t',s∈fE->s'∈fE->t∈gQ->t'∈gQ->R s t->R s' t'->rD r1 w s s'=true->rD r2 w t t'=true)(h:jN gQ r2 w K):jN fE r1 w K:=by
 obtain⟨c,hc⟩:=h
 have g:∀i,∃j,∀hi:i<fE.length,∃hj:j<gQ.length,R fE[i] gQ[j]:=λi=>by
  by_cases hi:i<fE.length
  .obtain⟨t,ht,hr⟩:=f fE[i] (Cd hi);obtain⟨j,hj,rfl⟩:=E3 ht;exact⟨j,λ_=>⟨hj,hr⟩⟩
  .exact⟨0,λz=>w9 z hi⟩
 refine⟨λi=>c (Jp (g i)),λi hi=>?_,λi j hi hj e=>?_⟩
 .obtain⟨hj,_⟩:=Eo (g i) hi;exact hc.lt _ hj
 .obtain⟨h1,r1'⟩:=Eo (g i) hi;obtain⟨h2,r2'⟩:=Eo (g j) hj;rw[Sj hi hj]at e;refine hc.ne _ _ h1 h2 ?_;rw[Sj h1 h2];exact hR _ _ _ _ (Cd hi) (Cd hj) (Cd h1) (Cd h2) r1' r2' e
def jN.all(hk:KW k w):jN ts r w ts.length:=
 ⟨id,λ_ h=>h,λi j _ _ e z=>by rw[show j=i from z.symm,KN hk]at e;cases e⟩
def rp(a b:Int):c9:=(Jq a b,max a b)
def uL(a b:Int):rp a b=rp b a:=by unfold rp;rw[Int.min_comm,Int.max_comm]
def OB(r:List Int)(a b:Int):Q9 r (rp a b)=rp (h9 r a) (h9 r b):=by
 unfold Q9 rp;rcases Ki a b with h|h
 .rw[E7 h,Ed h]
 .rw[Ev h,Fl h,Int.min_comm,Int.max_comm]
def qI(r:List Int)(t:c9):Q9 r t=rp (h9 r t.1) (h9 r t.2):=rfl
structure kG(n:Int)(r:List Int):Prop where
 nd:r.Nodup
 len:(r.length:Int)=n
 mem:∀p,p∈r↔0<=p/\p<n
structure l7(n:Int)(ts:List c9):Prop where
 up:ts.Pairwise jF
 ok:∀t∈ts,0<=t.1/\t.1<t.2/\t.2<n
def l7.in(W:l7 n ts)(h:kG n r){t:c9}(ht:t∈ts):t.1∈r/\t.2∈r/\t.1≠t.2:=by
 have:=W.ok t ht
 exact⟨(h.mem _).mpr (by omega),(h.mem _).mpr (by omega),by omega⟩
def l7.lay(W:l7 n ts)(h:kG n r)(h6:n<=6)(h12:ts.length<=12):kI n ts r:=⟨W.up,W.ok,h.nd,h.len,λt ht=>⟨(W.in h ht).1,(W.in h ht).2.1⟩,h6,h12⟩
def EI(hk:KW k w):(AB x==w)=(if k = "pile" then decide (x=2) else decide (3<=x)):=by
 rcases hk with⟨rfl,rfl⟩|⟨rfl,rfl⟩
 .match x with
  | 0=>decide +kernel
  | 1=>decide +kernel
  | 2=>decide +kernel
  |n+3=>
   rw[z7 rfl,Y1 (by omega)];show (("within":Bf)=="cross")=false
   decide +kernel
 .match x with
  | 0=>decide +kernel
  | 1=>decide +kernel
  | 2=>decide +kernel
  |n+3=>
   rw[y3 (by decide +kernel),K9 (by omega)];show (("within":Bf)=="within")=true
   decide +kernel
def ſ:∀B:Fin 7,∀a b c d:Fin 6,a≠b->c≠d->Jq (Jq a.val B.val) (Jq b.val B.val)<B.val->Jq (Jq c.val B.val) (Jq d.val B.val)<B.val->2<=vN (rp (Jq a.val B.val:Nat) (Jq b.val B.val:Nat)) (rp (Jq c.val B.val:Nat) (Jq d.val B.val:Nat))->vN (rp (Jq a.val B.val:Nat) (Jq b.val B.val:Nat)) (rp (Jq c.val B.val:Nat) (Jq d.val B.val:Nat))=vN (rp a.val b.val) (rp c.val d.val):=by decide +kernel
def ð:∀n:Fin 7,∀a b c d:Fin 6,a≠b->c≠d->a.val<n.val->b.val<n.val->c.val<n.val->d.val<n.val->(vN (rp a.val b.val) (rp c.val d.val)=2↔vN (rp (if a.val=0 then n.val-1 else a.val-1:Nat) (if b.val=0 then n.val-1 else b.val-1:Nat)) (rp (if c.val=0 then n.val-1 else c.val-1:Nat) (if d.val=0 then n.val-1 else d.val-1:Nat))=2):=by decide +kernel
variable{n:Int}{ts:List c9}{r:List Int}{k w:Bf}{K:Nat}
def kG.lt(h:kG n r)(h6:n<=6){p:Int}(hp:p∈r):r.idxOf p<6:=by
 have:=Bl hp
 have:=h.len
 omega
def Ss{B:Nat}{x:Nat}(h:x<=B):h9 (i4 0 (B+1)) (x:Int)=(x:Int):=by
 have av:(i4 0 (B+1)).Nodup:=by unfold i4;exact Bd.mpr (Cj.imp λ{a b} h z=>h (by omega))
 have hx:x<(i4 0 (B+1)).length:=by rw[tJ];omega
 have e:(i4 0 (B+1))[x]=(x:Int):=by unfold i4;simp
 have:=av.idxOf_getElem x hx
 rw[e]at this;unfold h9;rw[this]
def IY{B:Nat}{a b:Nat}(ha:a<=B)(hb:b<=B):Q9 (i4 0 (B+1)) (rp a b)=rp a b:=by rw[OB,Ss ha,Ss hb]
def Ç(beg rest:List Int)(p:Int):beg.idxOf p=Jq ((beg++rest).idxOf p) beg.length:=by
 rw[Ji];by_cases h:p∈beg
 .have:=Bl h
  rw[z7 h];omega
 .rw[y3 h,Hc h];omega
def jN.known(W:l7 n ts){beg rest:List Int}(hr:kG n (beg++rest))(h6:n<=6)(hk:KW k w){kn:List c9}(hkn:∀s∈kn,∃t∈ts,s=Q9 beg t/\s.1<(beg.length:Int))(h:jN ts (beg++rest) w K):jN kn (i4 0 (beg.length+1)) w K:=by
 refine jN.map (R:=λs t=>s=Q9 beg t/\s.1<(beg.length:Int)) hkn (λs t s' t' hs cv ht bt ⟨e1,l1⟩ ⟨e2,l2⟩ hc=>?_) h;obtain⟨m1,m2,ne1⟩:=W.in hr ht;obtain⟨m3,m4,ne2⟩:=W.in hr bt
 have hB:beg.length<7:=by have:=hr.len;rw[Ah]at this;omega
 have hix:∀p,h9 beg p=((Jq ((beg++rest).idxOf p) beg.length:Nat):Int):=λp=>by unfold h9;rw[<-Ç]
 have ah:∀{p q:Int},p∈beg++rest->q∈beg++rest->p≠q->(beg++rest).idxOf p≠(beg++rest).idxOf q:=λhp hq h z=>zO hp hq h (by unfold h9;rw[z])
 have ib:s=rp ((Jq ((beg++rest).idxOf t.1) beg.length:Nat):Int) ((Jq ((beg++rest).idxOf t.2) beg.length:Nat):Int):=by rw[e1,qI,hix,hix]
 have cr:s'=rp ((Jq ((beg++rest).idxOf t'.1) beg.length:Nat):Int) ((Jq ((beg++rest).idxOf t'.2) beg.length:Nat):Int):=by rw[e2,qI,hix,hix]
 have ca:=ſ ⟨beg.length,hB⟩ ⟨_,hr.lt h6 m1⟩ ⟨_,hr.lt h6 m2⟩ ⟨_,hr.lt h6 m3⟩ ⟨_,hr.lt h6 m4⟩ (λz=>ah m1 m2 ne1 (by simpa using z)) (λz=>ah m3 m4 ne2 (by simpa using z)) (by rw[ib]at l1;unfold rp at l1;dsimp only at l1 ⊢;omega) (by rw[cr]at l2;unfold rp at l2;dsimp only at l2 ⊢;omega)
 dsimp only at ca;unfold rD at hc ⊢;rw[ib,cr,IY (Hf _ _) (Hf _ _),IY (Hf _ _) (Hf _ _),BI,EI hk]at hc;rw[qI,qI,BI,EI hk]
 have c2:=ca (by
  split at hc
  .have:=lC hc;omega
  .have:=lC hc;omega)
 rw[c2]at hc;exact hc
def jN.whole(W:l7 n ts)(hr:kG n r){kn:List c9}(hkn:∀t∈ts,Q9 r t∈kn)(h:jN kn (i4 0 (r.length+1)) w K):jN ts r w K:=by
 refine jN.map (R:=λt s=>s=Q9 r t) (λt ht=>⟨_,hkn t ht,rfl⟩) (λs t s' t' hs cv ht bt e1 e2 hc=>?_) h;have hl:∀p,r.idxOf p<=r.length:=λp=>List.idxOf_le_length;unfold rD at hc ⊢
 have e:∀x:c9,Q9 (i4 0 (r.length+1)) (Q9 r x)=Q9 r x:=λx=>by rw[qI r x];unfold h9;exact IY (hl _) (hl _)
 rw[e1,e2,e,e];exact hc
def kG.rot{p:Int}{rest:List Int}(h:kG n (p::rest)):kG n (rest++[p]):=
 ⟨(Ha p rest).nodup_iff.mpr h.nd,by rw[<-h.len];simp,λq=>by rw[(Ha p rest).mem_iff];exact h.mem q⟩
def DS{p:Int}{rest:List Int}(hn:(p::rest).Nodup){q:Int}(hq:q∈p::rest):(rest++[p]).idxOf q=if (p::rest).idxOf q=0 then (p::rest).length-1 else (p::rest).idxOf q-1:=by
 rw[Bq]at hn;rw[Ji];by_cases e:p=q
 .subst e;rw[y3 hn.1,Hb,Hb];simp
 .have jp:q∈rest:=(Ad.mp hq).resolve_left λz=>e z.symm
  have e1:(p::rest).idxOf q=rest.idxOf q+1:=by rw[Kd,beq_eq_false_iff_ne.mpr e];rfl
  rw[z7 jp,e1,y3 (Nat.succ_ne_zero _)];rfl
def jN.rot(W:l7 n ts){p:Int}{rest:List Int}(hr:kG n (p::rest))(h6:n<=6):jN ts (p::rest) "cross" K↔jN ts (rest++[p]) "cross" K:=by
 have aA:∀s∈ts,∀t∈ts,rD (p::rest) "cross" s t=rD (rest++[p]) "cross" s t:=λs hs t ht=>by
  obtain⟨m1,m2,ne1⟩:=W.in hr hs;obtain⟨m3,m4,ne2⟩:=W.in hr ht
  have hN:(p::rest).length<7:=by have:=hr.len;omega
  have ah:∀{p' q:Int},p'∈p::rest->q∈p::rest->p'≠q->(p::rest).idxOf p'≠(p::rest).idxOf q:=λhp hq h z=>zO hp hq h (by unfold h9;rw[z])
  have ra:=ð ⟨_,hN⟩ ⟨_,hr.lt h6 m1⟩ ⟨_,hr.lt h6 m2⟩ ⟨_,hr.lt h6 m3⟩ ⟨_,hr.lt h6 m4⟩ (λz=>ah m1 m2 ne1 (by simpa using z)) (λz=>ah m3 m4 ne2 (by simpa using z)) (Bl m1) (Bl m2) (Bl m3) (Bl m4);dsimp only at ra;unfold rD;rw[qI,qI,qI,qI,BI,BI,EI (.inl ⟨rfl,rfl⟩),EI (.inl ⟨rfl,rfl⟩),z7 rfl,z7 rfl]
  unfold h9;rw[DS hr.nd m1,DS hr.nd m2,DS hr.nd m3,DS hr.nd m4];exact decide_eq_decide.mpr ra
 constructor
 .exact jN.map (R:=λs t=>s=t) (λs hs=>⟨s,hs,rfl⟩) λs t s' t' hs cv _ _ e1 e2 hc=>by rw[<-e1,<-e2,aA s hs s' cv];exact hc
 .exact jN.map (R:=λs t=>s=t) (λs hs=>⟨s,hs,rfl⟩) λs t s' t' hs cv _ _ e1 e2 hc=>by rw[<-e1,<-e2,<-aA s hs s' cv];exact hc
def sw(a b x:Int):Int:=if x=a then b else if x=b then a else x
def AJ(a b x:Int):sw a b (sw a b x)=x:=by
 unfold sw;by_cases h1:x=a
 .subst h1;by_cases h2:b=x
  .simp[h2]
  .simp[h2]
 .by_cases h2:x=b
  .subst h2;simp
  .simp[h1,h2]
def T5(h:sw a b x=sw a b y):x=y:=by rw[<-AJ a b x,h,AJ]
theorem Tk(a b:Int)(x:Int):∀r:List Int,(r.map (sw a b)).idxOf (sw a b x)=r.idxOf x
 | []=>rfl
 |y::r=>by
  rw[Af,Kd,Kd,Tk a b x r];by_cases h:y=x
  .subst h;simp
  .rw[beq_eq_false_iff_ne.mpr (λz=>h (T5 z)),beq_eq_false_iff_ne.mpr h]
def So(a b:Int)(x:Int)(r:List Int):h9 (r.map (sw a b)) x=h9 r (sw a b x):=by
 unfold h9
 have:=Tk a b (sw a b x) r
 rw[AJ]at this;rw[this]
def kG.sw{a b:Int}(h:kG n r)(ha:a∈r)(hb:b∈r):kG n (r.map (sw a b)):=by
 refine⟨Bd.mpr (h.nd.imp λah z=>ah (T5 z)),by rw[A0];exact h.len,λp=>?_⟩
 rw[<-h.mem,Ak]
 have cl:∀q,q∈r->P.sw a b q∈r:=λq hq=>by
  unfold P.sw;split
  .exact hb
  .split
   .exact ha
   .exact hq
 constructor
 .rintro ⟨q,hq,rfl⟩;exact cl q hq
 .exact λhp=>⟨P.sw a b p,cl p hp,AJ a b p⟩
def nW(ts:List c9)(f:Int->Int):Prop:=∀t∈ts,rp (f t.1) (f t.2)∈ts
def nW.comp(hf:nW ts f)(hg:nW ts g):nW ts λx=>f (g x):=λt ht=>by
 have h:=hf _ (hg t ht);rcases Ki (g t.1) (g t.2) with z|z
 .rw[show rp (g t.1) (g t.2)=(g t.1,g t.2) by unfold rp;rw[E7 z,Ed z]]at h
  exact h
 .rw[show rp (g t.1) (g t.2)=(g t.2,g t.1) by unfold rp;rw[Ev z,Fl z]]at h
  rw[uL];exact h
def nW.sw3(h1:nW ts (sw a f))(h2:nW ts (sw b f)):nW ts (sw a b):=by
 by_cases e1:a=f
 .subst e1
  have:P.sw a b=P.sw b a:=by
   funext x;unfold P.sw
   split<;>split<;>simp_all
  rw[this];exact h2
 .by_cases e2:b=f
  .rw[e2];exact h1
  .by_cases e3:a=b
   .subst e3;intro t ht
    have:∀x,P.sw a a x=x:=λx=>by unfold P.sw;split<;>simp_all
    rw[this,this]
    have:=(h1.comp h1) t ht
    simp only[AJ]at this;exact this
   .have h3:=h1.comp (h2.comp h1)
    have:(λx=>P.sw a f (P.sw b f (P.sw a f x)))=P.sw a b:=by
     funext x;unfold P.sw;by_cases x1:x=a
     .subst x1;simp[Ch e1,Ch e2,Ch e3,e1,e2,e3]
     .by_cases x2:x=f
      .subst x2;simp[Ch e1,Ch e2,e1,e2,e3,Ch e3]
      .by_cases x3:x=b
       .subst x3;simp[x1,x2,e1,e2,e3,Ch e1,Ch e2]
       .simp[x1,x2,x3]
    rw[this]at h3;exact h3
def jN.sw(ha:nW ts (sw a b))(h:jN ts r w K):jN ts (r.map (sw a b)) w K:=by
 have aA:∀t:c9,Q9 (r.map (P.sw a b)) t=Q9 r (rp (P.sw a b t.1) (P.sw a b t.2)):=λt=>by rw[OB,qI,So,So]
 refine jN.map (R:=λs t=>t=rp (P.sw a b s.1) (P.sw a b s.2)) (λs hs=>⟨_,ha s hs,rfl⟩) (λs t s' t' hs cv _ _ e1 e2 hc=>?_) h;unfold rD at hc ⊢;rw[aA,aA]at hc;rw[e1,e2];exact hc
variable{n:Int}{ts:List c9}{r beg:List Int}{k w:Bf}{K:Nat}
theorem zZ(f:Int->Int)(p:Int):∀xs:List Int,kF (u0 xs) (xs.map λq=>D.int (f q)) (Bv p)=if p∈xs then some (.int (f p)) else none
 | []=>rfl
 |x::xs=>by
  show (if (Bv x:d3)=Bv p then some (D.int (f x)) else kF (u0 xs) (xs.map λq=>D.int (f q)) (Bv p))=_;by_cases e:x=p
  .subst e;simp
  .rw[y3 (λz=>e (Fm z)),zZ f p xs];simp[Ch e]
def Ϟ(hn:r.Nodup):Q2 0 r.length=r.map λq=>D.int (h9 r q):=by
 apply Fu;intro i;by_cases h:i<r.length
 .rw[KA h,Am,A4 h];show _=some (D.int (h9 r r[i]));unfold h9;rw[hn.idxOf_getElem i h]
 .rw[Cv (by rw[rS];omega),Cv (by rw[A0];omega)]
def U2(hn:beg.Nodup)(hr:beg.length<=1000):CP [.tup (beg.map D.int)]=some (u0 beg,beg.map λq=>D.int (h9 beg q)):=by
 obtain⟨c3,c4,hl⟩:=IM (rw':=.tup (beg.map D.int)) beg [] none none (by simpa using hn) (by simpa using hr);show HB [sC (.tup (beg.map D.int)),none,none,none]=_;unfold HB AD;show (match kW (rZ (z9 0)) (nZ 2 (lN (u5 2) (lN (u5 3) (nY)))) (mQ 1 (z9 3) (z9 2)) [sC (.tup (beg.map D.int)),some (.od [] []),none,none] with|some (.nx Y')=>FM 1 Y'|_=>none)=_;have e:=(lZ (Y:=[sC (.tup (beg.map D.int)),some (.od [] []),none,none]) (fl:=rZ (z9 0)) (ds:=lL 0 (beg.map D.int)) (g:=mQ 1 (z9 3) (z9 2)) (h:=nZ 2 (lN (u5 2) (lN (u5 3) (nY)))) rfl).trans hl
 rw[e,<-Ϟ hn];rfl
def jL(beg:List Int)(j:Nat):List Int:=beg++(i4 0 j).filter λp=>!decide (p∈beg)
def yF{p:Int}:p∈jL beg j↔p∈beg\/(0<=p/\p<(j:Int)):=by
 unfold jL;rw[Aw,Az]
 have:p∈i4 0 j↔0<=p/\p<(j:Int):=by
  unfold i4;constructor
  .intro h;obtain⟨k,hk,rfl⟩:=Ak.mp h
   have:=Ag.mp hk
   omega
  .intro h;exact Ak.mpr ⟨p.toNat,Ag.mpr (by omega),by omega⟩
 rw[this];by_cases h:p∈beg<;>simp[h]
def RQ(j:Nat):i4 0 (j+1)=i4 0 j++[(j:Int)]:=by unfold i4;rw[Hz,B6];simp
def GB(hn:beg.Nodup)(j:Nat):(jL beg j).Nodup:=by
 unfold jL;refine Bz.mpr ⟨hn,M5.sublist F4 ?_,λa ha b hb z=>?_⟩
 .unfold i4;exact Bd.mpr (Cj.imp λ{a b} h z=>h (by omega))
 .rw[Az]at hb;subst z;simp[ha]at hb
theorem Rv(hn:beg.Nodup)(hl:beg.length<=100){c0 c1 c5:Option Cell}:∀(m j:Nat) (c4:Option Cell),j+m<=100 ->
  ∃bd,W5 (u5 4) (oF 2 (z9 4) (z9 3)) (Q2 (j:Int) m) [c0,c1,some (.od (u0 (jL beg j)) ((jL beg j).map λq=>D.int (h9 beg q))),sC (.int (beg.length:Int)),c4,c5] =
   some (.nx [c0,c1,some (.od (u0 (jL beg (j+m))) ((jL beg (j+m)).map λq=>D.int (h9 beg q))),sC (.int (beg.length:Int)),bd,c5])
 | 0,j,c4,_=>⟨c4,rfl⟩
 |m+1,j,c4,h=>by
  obtain⟨bd,ih⟩:=Rv hn hl m (j+1) (sC (.int (j:Int))) (by omega);refine⟨bd,?_⟩
  have hxl:(jL beg j).length<d9:=by
   unfold jL d9;rw[Ah]
   have:=Cw (λp=>!decide (p∈beg)) (i4 0 j)
   rw[tJ]at this;omega
  have step:oF 2 (z9 4) (z9 3) [c0,c1,some (.od (u0 (jL beg j)) ((jL beg j).map λq=>D.int (h9 beg q))),sC (.int (beg.length:Int)),sC (.int (j:Int)),c5] =
    some (.nx [c0,c1,some (.od (u0 (jL beg (j+1))) ((jL beg (j+1)).map λq=>D.int (h9 beg q))),sC (.int (beg.length:Int)),sC (.int (j:Int)),c5]):=by
   show (if (u0 (jL beg j)).Nodup/\(u0 (jL beg j)).length<d9 then (if (kF (u0 (jL beg j)) ((jL beg j).map λq=>D.int (h9 beg q)) (Bv (j:Int))).isSome=true then some (Out.nx [c0,c1,some (.od (u0 (jL beg j)) ((jL beg j).map λq=>D.int (h9 beg q))),sC (.int (beg.length:Int)),sC (.int (j:Int)),c5]) else some (.nx [c0,c1,some (.od (kP (u0 (jL beg j)) ((jL beg j).map λq=>D.int (h9 beg q)) (Bv (j:Int)) (.int (beg.length:Int))).1 (kP (u0 (jL beg j)) ((jL beg j).map λq=>D.int (h9 beg q)) (Bv (j:Int)) (.int (beg.length:Int))).2),sC (.int (beg.length:Int)),sC (.int (j:Int)),c5])) else none)=_
   rw[z7 ⟨HI (GB hn j),by unfold u0;rw[A0];exact hxl⟩,zZ]
   by_cases hj:(j:Int)∈beg
   .have ex:jL beg (j+1)=jL beg j:=by unfold jL;rw[RQ,List.filter_append];simp[hj]
    rw[z7 (yF.mpr (.inl hj)),ex];rfl
   .have hx:(j:Int)∉jL beg j:=λz=>by
     rcases yF.mp z with y|y
     .exact hj y
     .omega
    have ex:jL beg (j+1)=jL beg j++[(j:Int)]:=by unfold jL;rw[RQ,List.filter_append];simp[hj]
    rw[y3 hx,wM _ _ _ _ (by unfold u0;simp) (λz=>hx (GR.mp z)),ex,GQ,B6]
    have:h9 beg (j:Int)=(beg.length:Int):=by unfold h9;rw[Hc hj]
    simp[this]
  rw[PQ];unfold W5
  show (match oF 2 (z9 4) (z9 3) [c0,c1,some (.od (u0 (jL beg j)) ((jL beg j).map λq=>D.int (h9 beg q))),sC (.int (beg.length:Int)),sC (.int (j:Int)),c5] with
   |some (.nx Y2)=>W5 _ _ (Q2 ((j:Int)+1) m) Y2
   |some (.ct Y2)=>W5 _ _ (Q2 ((j:Int)+1) m) Y2
   |some (.bk Y2)=>some (.nx Y2)
   |some (.rt v)=>some (.rt v)
   |none=>none)=_
  rw[step];dsimp only
  have e1:(j:Int)+1=((j+1:Nat):Int):=by omega
  have e2:j+(m+1)=j+1+m:=by omega
  rw[e1,e2];exact ih
def XQ{xs:List Int}{f:Int->Int}{t:c9}(h1:t.1∈xs)(h2:t.2∈xs):wO [.dct (u0 xs) (xs.map λq=>D.int (f q)),j4 t]=some (j4 (rp (f t.1) (f t.2))):=by
 show kY (zA [sC (.dct (u0 xs) (xs.map λq=>D.int (f q))),sC (j4 t)])=_;have e1:nL (z9 0) (jJ 1 0) [sC (.dct (u0 xs) (xs.map λq=>D.int (f q))),sC (j4 t)]=some (.int (f t.1)):=(zZ f t.1 xs).trans (z7 h1);have e2:nL (z9 0) (jJ 1 1) [sC (.dct (u0 xs) (xs.map λq=>D.int (f q))),sC (j4 t)]=some (.int (f t.2)):=(zZ f t.2 xs).trans (z7 h2)
 have fin:zA [sC (.dct (u0 xs) (xs.map λq=>D.int (f q))),sC (j4 t)]=some (.rt (j4 (rp (f t.1) (f t.2)))):=lJ ((x9 (ds:=[.int (f t.1),.int (f t.2)]) (u7 e1 (u7 e2 rfl))).trans (IB _ _))
 rw[fin];rfl
def xZ(ts:List c9)(beg:List Int):List c9:=(ts.map (Q9 beg)).filter λs=>decide (s.1<(beg.length:Int))
def kn(ts:List c9)(beg:List Int):List c9:=n9 (lS (xZ ts beg))
def LG{s:c9}:s∈kn ts beg↔(∃t∈ts,s=Q9 beg t)/\s.1<(beg.length:Int):=by
 unfold kn xZ;rw[(tK _).mem_iff,rV,Az,Ak];constructor
 .rintro ⟨⟨t,ht,rfl⟩,h⟩;exact⟨⟨t,ht,rfl⟩,lC h⟩
 .rintro ⟨⟨t,ht,rfl⟩,h⟩;exact⟨⟨t,ht,rfl⟩,K9 h⟩
theorem BP{α:Type}[DecidableEq α]:∀xs:List α,(lS xs).length<=xs.length
 | []=>Aj _
 |x::xs=>by
  unfold lS;split
  .exact Nat.le_succ_of_le (BP xs)
  .exact Nat.succ_le_succ (BP xs)
def QS:(xZ ts beg).length<=ts.length:=by unfold xZ;exact Bn (Cw _ _) (by rw[A0];exact Aj _)
def ł:(kn ts beg).length<=ts.length:=by unfold kn;rw[(tK _).length_eq];exact Bn (BP _) QS
def Tp(W:l7 n ts)(hb:∀p∈beg,0<=p/\p<n):l7 ((beg.length:Int)+1) (kn ts beg):=by
 refine⟨JT _ (wX _),λs hs=>?_⟩;obtain⟨⟨t,ht,rfl⟩,h⟩:=LG.mp hs;have o:=W.ok t ht;unfold Q9 at h ⊢;dsimp only at h ⊢;have a1:=FP beg t.1;have a2:=FP beg t.2
 have l:∀p,h9 beg p<=(beg.length:Int):=λp=>by
  unfold h9
  have:beg.idxOf p<=beg.length:=List.idxOf_le_length
  omega
 have l1:=l t.1;have l2:=l t.2
 have ne:h9 beg t.1≠h9 beg t.2:=λz=>by
  have m1:t.1∈beg:=C4 λy=>by
   have:h9 beg t.1=(beg.length:Int):=by unfold h9;rw[Hc y]
   omega
  have m2:t.2∈beg:=C4 λy=>by
   have:h9 beg t.2=(beg.length:Int):=by unfold h9;rw[Hc y]
   omega
  exact zO m1 m2 (by omega) z
 omega
theorem P7:∀ts:List c9,wE (ts.map j4)=some ts
 | []=>rfl
 |t::ts=>by rw[Af];show (wE (ts.map j4)).map _=_;rw[P7 ts];rfl
def ď{s:c9}(h:0<=s.1/\s.1<=6/\0<=s.2/\s.2<=6):s∈lW:=by unfold lW;refine Lv.mpr ⟨s.1.toNat,Ag.mpr (by omega),Ak.mpr ⟨s.2.toNat,Ag.mpr (by omega),?_⟩⟩;rw[El h.1,El h.2.2.1]
variable{n:Int}{ts:List c9}{r beg:List Int}{k w:Bf}{K:Nat}
def Yb{fa:ED}(h:fa Y=some (.int j))(h1 : -(2 ^ 62)<=j)(h2:j<=100000):wB fa Y=some (.tup ((i4 0 j.toNat).map D.int)):=by unfold wB;rw[h];dsimp only;rw[z7 ⟨h1,h2⟩]
def Å{fa:EL}{xs:List c9}(h:fa Y=some (xs.map j4))(h1:∀s∈xs,s∈lW)(h2:xs.length<=17):yZ fa Y=some ((n9 (lS xs)).map j4):=by unfold yZ;rw[h];dsimp only;rw[P7];dsimp only;rw[z7 ⟨h1,h2⟩];show lR ((lS xs).map j4)=_;exact Qe (Ib (BP _) (by omega))
structure rF(n:Int)(beg:List Int):Prop where
 nd:beg.Nodup
 ok:∀p∈beg,0<=p/\p<n
 le:(beg.length:Int)<=n
def U8(W:l7 n ts)(hb:rF n beg)(h5:n<=6)(h12:ts.length<=12)(hn:0<=n):HF [Y4 n ts,.tup (beg.map D.int)]=some (Y4 ((beg.length:Int)+1) (kn ts beg)):=by
 have jc:=hb.le;obtain⟨c4,lp⟩:=Rv (c0:=sC (Y4 n ts)) (c1:=sC (.tup (beg.map D.int))) (c5:=none) hb.nd (by omega) n.toNat 0 none (by omega)
 have hm:∀t∈ts,t.1∈jL beg n.toNat/\t.2∈jL beg n.toNat:=λt ht=>by
  have:=W.ok t ht
  exact⟨yF.mpr (.inr (by omega)),yF.mpr (.inr (by omega))⟩
 refine mX (x:=NS [sC (Y4 n ts),sC (.tup (beg.map D.int)),none,none,none,none]) ?_;refine w8 (Y':=[sC (Y4 n ts),sC (.tup (beg.map D.int)),some (.od (u0 beg) (beg.map λq=>D.int (h9 beg q))),none,none,none]) ?_ ?_
 .show (match CP [.tup (beg.map D.int)] with|some d=>some (Out.nx [sC (Y4 n ts),sC (.tup (beg.map D.int)),some (.od d.1 d.2),none,none,none])|none=>none)=_;rw[U2 hb.nd (by omega)]
 refine w8 (Q0 (oY (ds:=beg.map D.int) rfl)) ?_;rw[A0]
 have e0:jL beg 0=beg:=by unfold jL i4;simp
 rw[e0]at lp;have rg:lB (jJ 0 0) [sC (Y4 n ts),sC (.tup (beg.map D.int)),some (.od (u0 beg) (beg.map λq=>D.int (h9 beg q))),sC (.int (beg.length:Int)),none,none]=some (Q2 ((0:Nat):Int) n.toNat):=zU rfl (by unfold mY;simp;omega)
 refine w8 ((lZ rg).trans lp) ?_;rw[M4];refine w8 (Q0 (d:=.lst (ts.map λt=>j4 (Q9 beg t))) (mU ?_)) ?_
 .refine(mD (ds:=ts.map j4) rfl (by rw[A0];unfold d9;omega)).trans ?_
  refine(qM (λY=>∃c,Y=[c,some (.od (u0 (jL beg n.toNat)) ((jL beg n.toNat).map λq=>D.int (h9 beg q)))]) (λd=>match d with|.tup [.int a,.int b]=>j4 (Q9 beg (a,b))|_=>.non) _ _ ⟨none,rfl⟩ ?_).trans ?_
  .rintro d hd Y ⟨c,rfl⟩;obtain⟨t,bt,rfl⟩:=Ak.mp hd;refine⟨_,rfl,⟨_,rfl⟩,?_⟩;show (match x5 wO (jQ 1 0) [sC (j4 t),sC (.dct (u0 (jL beg n.toNat)) ((jL beg n.toNat).map λq=>D.int (h9 beg q)))] with|some d=>if rH d=true then some d else none|none=>none)=_;rw[(x9 (ds:=[.dct (u0 (jL beg n.toNat)) ((jL beg n.toNat).map λq=>D.int (h9 beg q)),j4 t]) rfl).trans (XQ (hm t bt).1 (hm t bt).2)]
   rfl
  .rw[B1];rfl
 refine lJ (oZ (ds:=[.int ((beg.length:Int)+1),.tup ((kn ts beg).map j4)]) (u7 ?_ (u7 (zW (ds:=(kn ts beg).map j4) ?_) rfl)) (by simp[d9]))
 .exact(kK (x:=.int (beg.length:Int)) (y:=.int 1) rfl rfl).trans rfl
 .have ec:W6 [none,some 3] (b9 (z9 5)) (u5 0) (v5 (d2 mZ (jJ 0 0) (z9 1))) (z9 0) [sC (Y4 n ts),sC (.tup (beg.map D.int)),some (.od (u0 (jL beg n.toNat)) ((jL beg n.toNat).map λq=>D.int (h9 beg q))),sC (.int (beg.length:Int)),c4,sC (.lst (ts.map λt=>j4 (Q9 beg t)))]=some ((xZ ts beg).map j4):=by
   refine(mD (ds:=ts.map λt=>j4 (Q9 beg t)) rfl (by rw[A0];unfold d9;omega)).trans ?_
   refine(Q5 (λY=>∃c,Y=[c,sC (.int (beg.length:Int))]) (λd=>match d with|.tup [.int a,_]=>decide (a<(beg.length:Int))|_=>false) id _ _ ⟨none,rfl⟩ ?_).trans ?_
   .rintro d hd Y ⟨c,rfl⟩;obtain⟨t,bt,rfl⟩:=Ak.mp hd;exact⟨_,rfl,⟨_,rfl⟩,J7 ((kK (x:=.int (Q9 beg t).1) (y:=.int (beg.length:Int)) rfl rfl).trans (lt_int _ _)),λ_=>rfl⟩
   .unfold xZ;rw[Io,I0,I0,B1];rfl
  refine Å ec (λs hs=>?_) (Bn QS (by omega))
  have cv:s∈kn ts beg:=by unfold kn;rw[(tK _).mem_iff,rV];exact hs
  have:=(Tp W hb.ok).ok s cv
  exact ď (by omega)
def X5(hf:p9 cl m K f):tY f=K:=QE λv=>by
 have h1:v∈mV f↔v∈f:=by unfold mV;rw[DR];simp
 rw[<-h1,hf.fst,Ag]
def JL(h:kI n ts r)(hm:ts.length<=11)(hk:KW k w):∃(f:List Nat) (K:Nat),K7 [Y4 n ts,.tup (r.map D.int),.str k]=some (.tup (f.map z8))/\J8 [.tup (f.map z8)]=some (z8 K)/\∀K',jN ts r w K'↔K<=K':=by
 obtain⟨F,eF,hF⟩:=Wa h hk;obtain⟨f,K,ef,hf,_⟩:=U3 h hm hk eF hF;have hpc:=HX (vs:=f) (by rw[hf.len];omega) (.inr rfl)
 rw[X5 hf]at hpc;exact⟨f,K,ef,hpc,λK'=>⟨λ⟨c,hc⟩=>hf.least c K' hc,λjc=>(jN.mono ⟨_,hf.col⟩ jc)⟩⟩
def Ÿ(B:Nat):kG ((B:Int)+1) (i4 0 (B+1)):=by
 refine⟨?_,by rw[tJ];omega,λp=>?_⟩
 .unfold i4;exact Bd.mpr (Cj.imp λ{a b} h z=>h (by omega))
 .unfold i4;constructor
  .intro h;obtain⟨k,hk,rfl⟩:=Ak.mp h
   have:=Ag.mp hk
   omega
  .intro h;exact Ak.mpr ⟨p.toNat,Ag.mpr (by omega),by omega⟩
def ϒ(W:l7 n ts)(hb:rF n beg)(h5:n<=5)(dX:ts.length<=11)(hn:0<=n)(hk:KW k w)(K:Nat):∃b:Bool,zM [Y4 n ts,.str k,z8 K,.tup (beg.map D.int)]=some (.bl b)/\(b=true↔jN (kn ts beg) (i4 0 (beg.length+1)) w K):=by
 have jc:=hb.le;have hsf:=U8 W hb (by omega) (by omega) hn;have hkl:(kn ts beg).length<=11:=Bn ł dX;have Lk:kI ((beg.length:Int)+1) (kn ts beg) (i4 0 (beg.length+1)):=(Tp W hb.ok).lay (Ÿ _) (by omega) (by omega);obtain⟨f,K1,ef,ec,hK⟩:=JL Lk hkl hk;refine⟨decide (K1<=K),?_,by rw[hK];exact decide_eq_true_iff⟩
 refine mX (x:=Om [sC (Y4 n ts),sC (.str k),sC (z8 K),sC (.tup (beg.map D.int)),none]) ?_;refine w8 (Q0 ((x9 (ds:=[Y4 n ts,.tup (beg.map D.int)]) rfl).trans hsf)) ?_
 have et:wB (jJ 4 0) [sC (Y4 n ts),sC (.str k),sC (z8 K),sC (.tup (beg.map D.int)),sC (Y4 ((beg.length:Int)+1) (kn ts beg))]=some (.tup ((i4 0 (beg.length+1)).map D.int)):=by refine(Yb (j:=(beg.length:Int)+1) rfl (by omega) (by omega)).trans ?_;rw[show ((beg.length:Int)+1).toNat=beg.length+1 by omega]
 refine lJ ((kK (x:=z8 K1) (y:=z8 K) ((x9 (ds:=[.tup (f.map z8)]) (u7 ((x9 (ds:=[Y4 ((beg.length:Int)+1) (kn ts beg),.tup ((i4 0 (beg.length+1)).map D.int),.str k]) (u7 rfl (u7 et rfl))).trans ef) rfl)).trans ec) rfl).trans ?_);show some (D.bl (decide ((K1:Int)<=(K:Int))))=_;rw[decide_eq_decide.mpr (show (K1:Int)<=(K:Int)↔K1<=K by omega)]
variable{n:Int}{ts:List c9}{r beg:List Int}{k w:Bf}{K N:Nat}
def OO(hl:ts.length<=1000)(a b:Int):CB [Y4 n ts,.int a,.int b]=some (.bl (decide (rp a b∈ts))):=by
 refine mX (x:=PR [sC (Y4 n ts),sC (.int a),sC (.int b)]) ?_;refine lJ ((vB (neg:=false) (d:=j4 (rp a b)) (ds:=ts.map j4) ((x9 (ds:=[.int a,.int b]) rfl).trans (IB a b)) rfl ?_ ?_).trans ?_)
 .have:=GZ ts;unfold jP;omega
 .rw[JZ];unfold jP;omega
 .rw[IP];rfl
def v0P(a b:Bool):lH (.bl a) (.bl b)=some (.bl (a==b)):=by cases a<;>cases b<;>rfl
theorem II:∀bs:List Bool,nX (bs.map D.bl)=some bs
 | []=>rfl
 |b::bs=>by rw[Af,nX,II bs];rfl
def xP(N a b:Nat):List Nat:=(A9 N).filter λp=>!(decide (p=a)||decide (p=b))
def oB(ts:List c9)(N a b:Nat):Bool:=(xP N a b).all λp=>decide (rp a p∈ts)==decide (rp b p∈ts)
def Zj(hl:ts.length<=1000)(hN:N<=100)(a b:Nat):zJ [Y4 N ts,z8 a,z8 b]=some (.bl (oB ts N a b)):=by
 refine mX (x:=Qq [sC (Y4 N ts),sC (z8 a),sC (z8 b),none]) ?_;refine w8 (Q0 (d:=.lst ((xP N a b).map z8)) (mU ?_)) ?_
 .refine(mD (ds:=(A9 N).map z8) (uJ (j:=N) rfl (by omega)) (by rw[A0,At];unfold d9;omega)).trans ?_
  refine(Q5 (λY=>∃c,Y=[c,sC (z8 a),sC (z8 b)]) (λd=>match d with|.int x=>!(decide (x.toNat=a)||decide (x.toNat=b))|_=>false) (λd=>d) _ _ ⟨none,rfl⟩ ?_).trans ?_
  .rintro d hd Y ⟨c,rfl⟩;obtain⟨j,hj,rfl⟩:=Ak.mp hd;refine⟨_,rfl,⟨_,rfl⟩,J7 ((vB (neg:=true) (d:=z8 j) (ds:=[z8 a,z8 b]) rfl rfl (by simp[lO,depth,z8,jP]) (by simp[depth,z8,jP])).trans ?_),λ_=>rfl⟩;show some (D.bl (!mI (.int (j:Int)) [.int (a:Int),.int (b:Int)]))=some (D.bl (!(decide ((j:Int).toNat=a)||decide ((j:Int).toNat=b))));rw[NB,Ay,decide_eq_decide.mpr (show (j:Int)=a↔j=a by omega),decide_eq_decide.mpr (show (j:Int)=b↔j=b by omega)]
  .rw[Hj,uQ (q:=λp=>!(decide (p=a)||decide (p=b))) _ (λi _=>by
    show (!(decide ((i:Int).toNat=a)||decide ((i:Int).toNat=b)))=_
    rw[Ay])]
   rfl
 .refine lJ ((Td (ds:=((xP N a b).map λ(p:Nat)=>decide (rp a p∈ts)==decide (rp b p∈ts)).map D.bl) ?_ (II _)).trans ?_)
  .have hrl:(xP N a b).length<=100:=by unfold xP;exact Bn (Cw _ _) (by rw[At];exact hN)
   refine(mD (ds:=(xP N a b).map z8) rfl (by rw[A0];unfold d9;omega)).trans ?_
   refine(qM (λY=>∃c,Y=[c,sC (Y4 N ts),sC (z8 a),sC (z8 b)]) (λd=>match d with|.int x=>.bl (decide (rp a x∈ts)==decide (rp b x∈ts))|_=>.non) _ _ ⟨none,rfl⟩ ?_).trans ?_
   .rintro d hd Y ⟨c,rfl⟩;obtain⟨j,hj,rfl⟩:=Ak.mp hd;exact⟨_,rfl,⟨_,rfl⟩,(kK (x:=.bl (decide (rp a j∈ts))) (y:=.bl (decide (rp b j∈ts))) ((x9 (ds:=[Y4 N ts,z8 a,z8 j]) rfl).trans (OO hl _ _)) ((x9 (ds:=[Y4 N ts,z8 b,z8 j]) rfl).trans (OO hl _ _))).trans (v0P _ _)⟩
   .rw[B1,B1];rfl
  .rw[Ng];rfl
def Zu(N a:Nat):oB ts N a a=true:=by unfold oB;rw[Eb];intro p _;exact beq_self_eq_true _
def faC:EL:=W6 [none,some 0,some 1] (lB (jJ 0 0)) (u5 0) (v5 (x5 zJ (lG 1 2 0))) (z9 0)
def v0O(hl:ts.length<=1000)(hN:N<=100)(a:Nat):oC (u5 0) (v5 (x5 zJ (lG 1 2 0))) (z9 0) [none,sC (Y4 N ts),sC (z8 a)] ((A9 N).map z8)=some (((A9 N).filter λq=>oB ts N a q).map z8):=by
 refine(Q5 (λY=>∃c,Y=[c,sC (Y4 N ts),sC (z8 a)]) (λd=>match d with|.int x=>oB ts N a x.toNat|_=>false) (λd=>d) _ _ ⟨none,rfl⟩ ?_).trans ?_
 .rintro d hd Y ⟨c,rfl⟩;obtain⟨j,hj,rfl⟩:=Ak.mp hd;exact⟨_,rfl,⟨_,rfl⟩,J7 ((x9 (ds:=[Y4 N ts,z8 a,z8 j]) rfl).trans (Zj hl hN a j)),λ_=>rfl⟩
 .rw[Hj,uQ (q:=λq=>oB ts N a q) _ (λi _=>by
   show oB ts N a (i:Int).toNat=_
   rw[Ay])]
def Ķ(a:Nat)(hN:N<=100):lB (jJ 0 0) [sC (Y4 N ts),sC (z8 a)]=some ((A9 N).map z8):=uJ (j:=N) rfl (by omega)
def QY(hN:N<=100):((A9 N).map z8).length<=d9:=by rw[A0,At];unfold d9;omega
def ĵ(hl:ts.length<=1000)(hN:N<=100)(a:Nat):faC [sC (Y4 N ts),sC (z8 a)]=some (((A9 N).filter λq=>oB ts N a q).map z8):=(mD (Ķ a hN) (QY hN)).trans (v0O hl hN a)
theorem Í{fl:EL}{L:List Nat}(h:fl Y=some (L.map z8))(ah:L≠[]):∃q∈L,tP fl Y=some (z8 q):=by
 cases L with
 |nil=>exact w9 rfl ah
 |cons x L=>have ho:=BU (L.map λ(i:Nat)=>(i:Int)) (x:Int);rw[<-Af (f:=λ(i:Nat)=>(i:Int))]at ho;obtain⟨q,hq,e⟩:=Ak.mp ho.1;refine⟨q,hq,?_⟩;unfold tP;rw[h];dsimp only;rw[yM,Af];dsimp only;rw[<-e];rfl
def Zk(hl:ts.length<=1000)(hN:N<=100){a:Nat}(ha:a<N):∃q:Nat,W2 [Y4 N ts,z8 a]=some (z8 q)/\oB ts N a q=true/\q<N:=by have hm:a∈(A9 N).filter λq=>oB ts N a q:=Az.mpr ⟨Ag.mpr ha,Zu N a⟩;obtain⟨q,hq,e⟩:=Í (ĵ hl hN a) (List.ne_nil_of_mem hm);refine⟨q,?_,(Az.mp hq).2,Ag.mp (Az.mp hq).1⟩;exact mX (x:=NY [sC (Y4 N ts),sC (z8 a)]) (lJ e)
def OQ(W:l7 N ts){a b:Nat}(ha:a<N)(hb:b<N)(h:oB ts N a b=true):nW ts (sw a b):=by
 by_cases eab:a=b
 .subst eab;intro t ht
  have:∀x:Int,sw a a x=x:=λx=>by unfold sw;split<;>simp_all
  rw[this,this];have o:=W.ok t ht
  have:rp t.1 t.2=t:=by unfold rp;rw[E7 (by omega),Ed (by omega)]
  rw[this];exact ht
 have aA:∀p:Nat,p<N->p≠a->p≠b->(rp a p∈ts↔rp b p∈ts):=λp hp h1 h2=>by
  unfold oB at h;rw[Eb]at h
  have:=h p (Az.mpr ⟨Ag.mpr hp,by simp[h1,h2]⟩)
  exact decide_eq_decide.mp (eq_of_beq this)
 have eQ:∀p:Int,0<=p->p<N->p≠a->p≠b->(rp a p∈ts↔rp b p∈ts):=λp h0 hp h1 h2=>by
  have:=aA p.toNat (by omega) (by omega) (by omega)
  rw[El h0]at this;exact this
 intro t ht;have o:=W.ok t ht
 have ert:rp t.1 t.2=t:=by unfold rp;rw[E7 (by omega),Ed (by omega)]
 have bt:rp t.1 t.2∈ts:=by rw[ert];exact ht
 have cB:(a:Int)≠b:=by omega
 by_cases e1:t.1=a
 .by_cases e2:t.2=b
  .have s1:sw a b t.1=b:=by unfold sw;rw[z7 e1]
   have s2:sw a b t.2=a:=by unfold sw;rw[y3 (by omega),z7 e2]
   rw[s1,s2,uL];rw[e1,e2]at bt;exact bt
  .have s1:sw a b t.1=b:=by unfold sw;rw[z7 e1]
   have s2:sw a b t.2=t.2:=by unfold sw;rw[y3 (by omega),y3 e2]
   rw[s1,s2];rw[e1]at bt;exact(eQ t.2 (by omega) (by omega) (by omega) e2).mp bt
 .by_cases e2:t.1=b
  .by_cases e3:t.2=a
   .have s1:sw a b t.1=a:=by unfold sw;rw[y3 e1,z7 e2]
    have s2:sw a b t.2=b:=by unfold sw;rw[z7 e3]
    rw[s1,s2,uL];rw[e2,e3]at bt;exact bt
   .have s1:sw a b t.1=a:=by unfold sw;rw[y3 e1,z7 e2]
    have s2:sw a b t.2=t.2:=by unfold sw;rw[y3 e3,y3 (by omega)]
    rw[s1,s2];rw[e2]at bt;exact(eQ t.2 (by omega) (by omega) e3 (by omega)).mpr bt
  .have s1:sw a b t.1=t.1:=by unfold sw;rw[y3 e1,y3 e2]
   by_cases e3:t.2=a
   .have s2:sw a b t.2=b:=by unfold sw;rw[z7 e3]
    rw[s1,s2,uL];rw[e3,uL]at bt;exact(eQ t.1 (by omega) (by omega) e1 e2).mp bt
   .by_cases e4:t.2=b
    .have s2:sw a b t.2=a:=by unfold sw;rw[y3 e3,z7 e4]
     rw[s1,s2,uL];rw[e4,uL]at bt;exact(eQ t.1 (by omega) (by omega) e1 e2).mpr bt
    .have s2:sw a b t.2=t.2:=by unfold sw;rw[y3 e3,y3 e4]
     rw[s1,s2];exact bt
variable{ts:List c9}{r beg:List Int}{k w:Bf}{K N:Nat}
structure PT(al:List Nat)(beg:List Int)(j:Nat)(xs:List Int)(f:Int->Int):Prop where
 nd:xs.Nodup
 len:xs.length<=j
 ok:∀q∈xs,∃i:Nat,i<j/\f q=(i:Int)/\(i:Int)∉beg/\∃a:Nat,al[i]?=some a/\q=(a:Int)
 all:∀i:Nat,i<j->(i:Int)∉beg->∀a:Nat,al[i]?=some a->(a:Int)∈xs
def EU:EO:=jZ (v5 (jX true (z9 3) (b9 (z9 1)))) (oF 2 (z9 4) (z9 3)) kO
abbrev rB(c0:Option Cell)(beg xs:List Int)(f:Int->Int)(c3 c4:Option Cell):K6:=[c0,sC (.tup (beg.map D.int)),some (.od (u0 xs) (xs.map λq=>D.int (f q))),c3,c4]
theorem QO(a:Int):∀r:List Int,mI (.int a) (r.map D.int)=decide (a∈r)
 | []=>by simp[mI]
 |x::r=>by
  have ih:=QO a r;unfold mI at ih ⊢;rw[Af,Ex,ih];show ((x==a)||decide (a∈r))=_;by_cases h:x=a
  .subst h;simp
  .simp[h,Ch h]
def Ĺ{fa:ED}{fl:EL}{r:List Int}(ng:Bool)(h1:fa Y=some (.int a))(h2:fl Y=some (r.map D.int)):jX ng fa fl Y=some (.bl (if ng=true then !decide (a∈r) else decide (a∈r))):=by
 refine(vB h1 h2 (by rw[GY];decide) (by simp[depth,jP])).trans ?_
 rw[QO]
def YK{j a:Nat}(h:PT al beg j xs f)(hj:j<=100)(ha:al[j]?=some a):∃cS f',EU (rB c0 beg xs f (sC (z8 j)) (sC (z8 a)))=some (.nx (rB c0 beg cS f' (sC (z8 j)) (sC (z8 a))))/\PT al beg (j+1) cS f':=by
 have et:v5 (jX true (z9 3) (b9 (z9 1))) (rB c0 beg xs f (sC (z8 j)) (sC (z8 a)))=some (!decide ((j:Int)∈beg)):=J7 (Ĺ true rfl rfl);by_cases hb:(j:Int)∈beg
 .refine⟨xs,f,(Y9 (a:=false) (et.trans (by simp[hb]))).trans rfl,h.nd,by have:=h.len;omega,λq hq=>?_,λi hi hn b aI=>?_⟩
  .obtain⟨i,h1,h2⟩:=h.ok q hq;exact⟨i,by omega,h2⟩
  .by_cases e:i=j
   .subst e;exact w9 hb hn
   .exact h.all i (by omega) hn b aI
 .have hl:(u0 xs).Nodup/\(u0 xs).length<d9:=⟨HI h.nd,by unfold u0;rw[A0];have:=h.len;unfold d9;omega⟩
  have go:EU (rB c0 beg xs f (sC (z8 j)) (sC (z8 a)))=oF 2 (z9 4) (z9 3) (rB c0 beg xs f (sC (z8 j)) (sC (z8 a))):=(Y9 (a:=true) (et.trans (by simp[hb]))).trans (z7 rfl);have sd:oF 2 (z9 4) (z9 3) (rB c0 beg xs f (sC (z8 j)) (sC (z8 a)))=(if (u0 xs).Nodup/\(u0 xs).length<d9 then (if (kF (u0 xs) (xs.map λq=>D.int (f q)) (Bv (a:Int))).isSome=true then some (.nx (rB c0 beg xs f (sC (z8 j)) (sC (z8 a)))) else some (.nx [c0,sC (.tup (beg.map D.int)),some (.od (kP (u0 xs) (xs.map λq=>D.int (f q)) (Bv (a:Int)) (z8 j)).1 (kP (u0 xs) (xs.map λq=>D.int (f q)) (Bv (a:Int)) (z8 j)).2),sC (z8 j),sC (z8 a)])) else none):=rfl
  rw[z7 hl,zZ]at sd;by_cases hx:(a:Int)∈xs
  .rw[z7 hx]at sd;refine⟨xs,f,go.trans sd,h.nd,by have:=h.len;omega,λq hq=>?_,λi hi hn b aI=>?_⟩
   .obtain⟨i,h1,h2⟩:=h.ok q hq;exact⟨i,by omega,h2⟩
   .by_cases e:i=j
    .subst e;rw[ha]at aI;cases aI;exact hx
    .exact h.all i (by omega) hn b aI
  .rw[y3 hx,wM _ _ _ _ (by unfold u0;simp) (λz=>hx (GR.mp z))]at sd
   refine⟨xs++[(a:Int)],λq=>if q=(a:Int) then (j:Int) else f q,go.trans (sd.trans ?_),?_,by have:=h.len;rw[Ah];simp;omega,λq hq=>?_,λi hi hn b aI=>?_⟩
   .have e1:((xs++[(a:Int)]).map λq=>D.int (if q=(a:Int) then (j:Int) else f q))=(xs.map λq=>D.int (f q))++[z8 j]:=by
     rw[B6];congr 1
     .exact B4 λq hq=>by rw[y3 λ(z:q=(a:Int))=>hx (z▸hq)]
     .simp[z8]
    show _=some (Out.nx [c0,_,some (.od (u0 (xs++[(a:Int)])) ((xs++[(a:Int)]).map λq=>D.int (if q=(a:Int) then (j:Int) else f q))),_,_]);rw[e1,GQ];rfl
   .exact Bz.mpr ⟨h.nd,by simp,λx aC y hy z=>hx (by rw[Ae.mp hy]at z;exact z▸aC)⟩
   .rcases Aw.mp hq with z|z
    .obtain⟨i,h1,h2,h3⟩:=h.ok q z;exact⟨i,by omega,by rw[y3 λ(y:q=(a:Int))=>hx (y▸z)];exact h2,h3⟩
    .rw[Ae.mp z];exact⟨j,by omega,z7 rfl,hb,a,ha,rfl⟩
   .by_cases e:i=j
    .subst e;rw[ha]at aI;cases aI;simp
    .exact B7 _ (h.all i (by omega) hn b aI)
theorem Rq{al:List Nat}(hl:al.length<=100):∀(rest:List Nat) (j:Nat) (xs:List Int) (f:Int->Int) (c3 c4:Option Cell),al.drop j=rest->j+rest.length=al.length->PT al beg j xs f ->
  ∃cS f' cN bd,W5 (nZ 2 (lN (u5 3) (lN (u5 4) (nY)))) EU (lL j (rest.map z8)) (rB c0 beg xs f c3 c4)=some (.nx (rB c0 beg cS f' cN bd))/\PT al beg al.length cS f'
 | [],j,xs,f,c3,c4,_,e,h=>⟨xs,f,c3,c4,rfl,by rw[<-e];exact h⟩
 |a::rest,j,xs,f,c3,c4,hd,e,h=>by
  have hj:j<al.length:=by rw[As]at e;omega
  have ha:al[j]?=some a:=by
   have:=Kx (xs:=al) (i:=j) (j:=0)
   rw[hd]at this;simpa using this.symm
  obtain⟨xs1,f1,e1,h1⟩:=YK (c0:=c0) h (by omega) ha;obtain⟨cS,f',cN,bd,e2,h2⟩:=Rq hl rest (j+1) xs1 f1 (sC (z8 j)) (sC (z8 a)) (by rw[<-Mj,hd];rfl) (by rw[As]at e;omega) h1
  refine⟨cS,f',cN,bd,?_,h2⟩;rw[Af];show W5 _ _ (.tup [.int (j:Int),z8 a]::lL (j+1) (rest.map z8)) _=_;unfold W5
  show (match EU (rB c0 beg xs f (sC (z8 j)) (sC (z8 a))) with
   |some (.nx Y2)=>W5 _ _ (lL (j+1) (rest.map z8)) Y2
   |some (.ct Y2)=>W5 _ _ (lL (j+1) (rest.map z8)) Y2
   |some (.bk Y2)=>some (.nx Y2)
   |some (.rt v)=>some (.rt v)
   |none=>none)=_
  rw[e1];exact e2
def U6{al:List Nat}(hl:al.length<=100):∃T:List Nat,DE [.lst (al.map z8),.tup (beg.map D.int)]=some (.lst (T.map z8))/\(∀t∈T,t<al.length/\(t:Int)∉beg)/\(∀x:Nat,x<al.length->(x:Int)∉beg->∃t∈T,al[t]?=al[x]?)/\T.length<=al.length:=by
 obtain⟨xs,f,c3,c4,e,h⟩:=Rq (beg:=beg) (c0:=sC (.lst (al.map z8))) hl al 0 [] (λ_=>0) none none rfl (by simp) ⟨E6,Aj _,λq hq=>by simp at hq,λi hi=>w9 hi (Dv _)⟩;refine⟨xs.map λq=>(f q).toNat,?_,λt ht=>?_,λx hx hn=>?_,by rw[A0];exact h.len⟩
 .show kY (IA [sC (.lst (al.map z8)),sC (.tup (beg.map D.int)),none,none,none])=_
  have ev:(xs.map λq=>D.int (f q))=(xs.map λq=>(f q).toNat).map z8:=by rw[B1];refine B4 λq hq=>?_;obtain⟨i,_,h2,_⟩:=h.ok q hq;show D.int (f q)=D.int (((f q).toNat:Nat):Int);rw[h2,Ay]
  have fin:IA [sC (.lst (al.map z8)),sC (.tup (beg.map D.int)),none,none,none]=some (.rt (.lst ((xs.map λq=>(f q).toNat).map z8))):=by refine w8 rfl ?_;refine w8 ((lZ (ds:=lL 0 (al.map z8)) rfl).trans e) ?_;rw[<-ev];rfl
  rw[fin];rfl
 .obtain⟨q,hq,rfl⟩:=Ak.mp ht;obtain⟨i,h1,h2,h3,_⟩:=h.ok q hq;rw[h2,Ay];exact⟨h1,h3⟩
 .have aC:=A4 hx
  have:=h.all x hx hn _ aC
  obtain⟨i,h1,h2,h3,a,h4,h5⟩:=h.ok _ this;refine⟨i,Ak.mpr ⟨_,this,by rw[h2,Ay]⟩,?_⟩;rw[h4,aC];congr 1;omega
theorem ý(W:l7 N ts){al T:List Nat}(da:∀a b:Nat,a<N->b<N->al[a]?=al[b]?->nW ts (sw a b))(hT:∀t∈T,t<N/\(t:Int)∉beg)(hT2:∀x:Nat,x<N->(x:Int)∉beg->∃t∈T,al[t]?=al[x]?){rest:List Int}(hr:kG N (beg++rest))(hl:(beg.length:Int)<N)(hf:jN ts (beg++rest) w K):
  ∃t∈T,∃bR,kG N ((beg++[(t:Int)])++bR)/\jN ts ((beg++[(t:Int)])++bR) w K:=by
 cases rest with
 |nil=>
  have:=hr.len
  rw[Bx]at this;omega
 |cons x rest=>
  have hx:x∈beg++x::rest:=by simp
  have hx0:=(hr.mem x).mp hx
  have hxb:x∉beg:=λz=>by
   have:=(Bz.mp hr.nd).2.2
   exact this x z x A6 rfl
  have ex:((x.toNat:Nat):Int)=x:=El hx0.1;obtain⟨t,ht,ea⟩:=hT2 x.toNat (by omega) (by rw[ex];exact hxb)
  obtain⟨t1,t2⟩:=hT t ht;have A:=da t x.toNat t1 (by omega) ea;rw[ex]at A;have dw:=hr.sw (a:=(t:Int)) (b:=x) ((hr.mem _).mpr (by omega)) hx;have eY:=hf.sw A
  have e1:beg.map (sw (t:Int) x)=beg:=by
   conv=>rhs;rw[<-Io beg]
   refine B4 λq hq=>?_;unfold sw;rw[y3 λ(z:q=(t:Int))=>t2 (z▸hq),y3 λ(z:q=x)=>hxb (z▸hq)];rfl
  have e2:sw (t:Int) x x=(t:Int):=by
   unfold sw;split
   .rename_i z;exact z
   .rw[z7 rfl]
  have e3:(beg++x::rest).map (sw (t:Int) x)=(beg++[(t:Int)])++rest.map (sw (t:Int) x):=by rw[B6,e1,Af,e2];simp
  rw[e3]at dw eY;exact⟨t,ht,_,dw,eY⟩
variable{ts:List c9}{r beg:List Int}{k w:Bf}{K N:Nat}
def FI(N:Nat)(ts:List c9)(w:Bf)(K:Nat)(beg:List Int)(res:D):Prop:=(res = .non/\∀rest,kG N (beg++rest)->¬jN ts (beg++rest) w K)\/∃rest,res = .tup ((beg++rest).map D.int)/\kG N (beg++rest)/\jN ts (beg++rest) w K
def DG(Fr:LD):EO:=
 Q8 (f9 6 (x5 Fr (y9 (z9 0) (y9 (z9 1) (y9 (z9 2) (y9 (z9 3) (y9 (d2 jT (z9 4) (kD (jW 5))) i3)))))))
 (jZ (v5 (d2 sB (z9 6) (dC .non))) (i9 (z9 6)) kO)
def mH(N:Nat)(ts:List c9)(k:Bf)(K:Nat)(al:List Nat)(beg:List Int)(c5 c6:Option Cell):K6:=[sC (Y4 N ts),sC (.str k),sC (z8 K),sC (.lst (al.map z8)),sC (.tup (beg.map D.int)),c5,c6]
def xY(N:Nat)(ts:List c9)(k:Bf)(K:Nat)(al:List Nat)(beg:List Int):List D:=[Y4 N ts,.str k,z8 K,.lst (al.map z8),.tup (beg.map D.int)]
def Uk(xs ys:List D)(h:xs.length+ys.length<=d9):jT (.tup xs) (.tup ys)=some (.tup (xs++ys)):=by show (if xs.length+ys.length<=d9 then some (D.tup (xs++ys)) else none)=_;rw[z7 h]
def Ż(beg:List Int)(t:Nat)(hl:beg.length<=100):jT (.tup (beg.map D.int)) (.tup [z8 t])=some (.tup ((beg++[(t:Int)]).map D.int)):=by
 rw[Uk _ _ (by simp[d9];omega),B6]
 rfl
theorem Ru{Fr:LD}(hb:beg.length<=100)(hF:∀t:Nat,t<N->(t:Int)∉beg->∃res,Fr (xY N ts k K al (beg++[(t:Int)]))=some res/\FI N ts w K (beg++[(t:Int)]) res):
  ∀(T:List Nat) (c5 c6:Option Cell),(∀t∈T,t<N/\(t:Int)∉beg) ->
   (∃rest,W5 (u5 5) (DG Fr) (T.map z8) (mH N ts k K al beg c5 c6)=some (.rt (.tup ((beg++rest).map D.int)))/\kG N (beg++rest)/\jN ts (beg++rest) w K) \/
   (∃dA ck,W5 (u5 5) (DG Fr) (T.map z8) (mH N ts k K al beg c5 c6)=some (.nx (mH N ts k K al beg dA ck))/\∀t∈T,∀rest,kG N ((beg++[(t:Int)])++rest)->¬jN ts ((beg++[(t:Int)])++rest) w K)
 | [],c5,c6,_=>.inr ⟨c5,c6,rfl,λt ht=>by simp at ht⟩
 |t::T,c5,c6,hT=>by
  obtain⟨res,er,ht⟩:=hF t (hT t A6).1 (hT t A6).2
  have es:f9 6 (x5 Fr (y9 (z9 0) (y9 (z9 1) (y9 (z9 2) (y9 (z9 3) (y9 (d2 jT (z9 4) (kD (jW 5))) i3)))))) (mH N ts k K al beg (sC (z8 t)) c6)=some (.nx (mH N ts k K al beg (sC (z8 t)) (sC res))):=(Q0 (d:=res) ((x9 (ds:=xY N ts k K al (beg++[(t:Int)])) (u7 rfl (u7 rfl (u7 rfl (u7 rfl (u7 ((kK (x:=.tup (beg.map D.int)) (y:=.tup [z8 t]) rfl rfl).trans (Ż beg t hb)) rfl)))))).trans er)).trans rfl
  rcases ht with⟨rfl,bG⟩|⟨rest,rfl,h1,h2⟩
  .have st:W5 (u5 5) (DG Fr) ((t::T).map z8) (mH N ts k K al beg c5 c6)=W5 (u5 5) (DG Fr) (T.map z8) (mH N ts k K al beg (sC (z8 t)) (sC .non)):=oG rfl (w8 es ((Y9 (a:=false) (J7 rfl)).trans rfl))
   rw[st];rcases Ru hb hF T (sC (z8 t)) (sC .non) (λx hx=>hT x (A7 _ hx)) with z|⟨a,b,z1,z2⟩
   .exact .inl z
   .refine .inr ⟨a,b,z1,λx hx=>?_⟩;rcases Ad.mp hx with y|y
    .subst y;exact bG
    .exact z2 x y
  .refine .inl ⟨(t:Int)::rest,?_,by simpa using h1,by simpa using h2⟩
   have e:(beg++[(t:Int)])++rest=beg++(t:Int)::rest:=by simp
   rw[e]at es;exact R8 rfl (w8 es ((Y9 (a:=true) (J7 rfl)).trans rfl))
def ϣ(hb:rF N beg)(hl:(beg.length:Int)=N):kG N beg:=by
 refine⟨hb.nd,hl,λp=>⟨hb.ok p,λhp=>?_⟩⟩;apply C4;intro hn
 have:=DZ (xs:=p::beg) (ys:=i4 0 N) (Bq.mpr ⟨hn,hb.nd⟩) λx hx=>by
  have aC:0<=x/\x<(N:Int):=by
   rcases Ad.mp hx with z|z
   .rw[z];exact hp
   .exact hb.ok x z
  unfold i4;exact Ak.mpr ⟨x.toNat,Ag.mpr (by omega),by omega⟩
 rw[tJ,As]at this;omega
def rF.more(hb:rF N beg){t:Nat}(ht:t<N)(hn:(t:Int)∉beg)(hl:beg.length<N):rF N (beg++[(t:Int)]):=by
 refine⟨Bz.mpr ⟨hb.nd,by simp,λx hx y hy z=>hn (by rw[Ae.mp hy]at z;exact z▸hx)⟩,λp hp=>?_,by rw[Ah];simp;omega⟩
 rcases Aw.mp hp with z|z
 .exact hb.ok p z
 .rw[Ae.mp z];omega
theorem HY(W:l7 N ts)(h5:N<=5)(dX:ts.length<=11)(hk:KW k w){al:List Nat}(hl:al.length=N)(da:∀a b:Nat,a<N->b<N->al[a]?=al[b]?->nW ts (sw a b)):
  ∀(q:Nat) (beg:List Int),rF N beg->N<q+beg.length->∃res,Q6 q (xY N ts k K al beg)=some res/\FI N ts w K beg res
 | 0,beg,hb,h=>by have:=hb.le;omega
 |q+1,beg,hb,h=>by
  have jc:=hb.le;obtain⟨b,ec,hc⟩:=ϒ W hb (by omega) dX (by omega) hk K;have e1:v5 (x5 zM (ND 0 1 2 4)) (mH N ts k K al beg none none)=some b:=J7 ((x9 (ds:=[Y4 N ts,.str k,z8 K,.tup (beg.map D.int)]) rfl).trans ec);show ∃res,kY (wY (Q6 q) (mH N ts k K al beg none none))=some res/\_
  cases b with
  |false=>
   refine⟨.non,?_,.inl ⟨rfl,λrest hr hf=>?_⟩⟩
   .have fin:wY (Q6 q) (mH N ts k K al beg none none)=some (.rt .non):=rK ((Y9 (a:=true) (IL e1)).trans rfl);rw[fin];rfl
   .have:=hc.mpr (jN.known W hr (by omega) hk (λs hs=>by
     obtain⟨⟨t,h1,h2⟩,h3⟩:=LG.mp hs
     exact⟨t,h1,h2,h3⟩) hf)
    cases this
  |true=>
   have f1:jZ (pM (v5 (x5 zM (ND 0 1 2 4)))) (i9 (dC .non)) kO (mH N ts k K al beg none none)=some (.nx (mH N ts k K al beg none none)):=(Y9 (a:=false) (IL e1)).trans rfl;have e2:v5 (d2 lH (jU (b9 (z9 4))) (jJ 0 0)) (mH N ts k K al beg none none)=some (decide (beg.length=N)):=J7 ((kK (x:=z8 beg.length) (y:=z8 N) ((oY (ds:=beg.map D.int) rfl).trans (by rw[A0];rfl)) rfl).trans (Tc _ _))
   by_cases hN:beg.length=N
   .rw[K9 hN]at e2;have hr:=ϣ hb (by omega);refine⟨.tup (beg.map D.int),?_,.inr ⟨[],by rw[Bx],by rw[Bx];exact hr,?_⟩⟩
    .have fin:wY (Q6 q) (mH N ts k K al beg none none)=some (.rt (.tup (beg.map D.int))):=w8 f1 (rK ((Y9 e2).trans rfl));rw[fin];rfl
    .rw[Bx];refine jN.whole W hr (λt ht=>LG.mpr ⟨⟨t,ht,rfl⟩,?_⟩) (hc.mp rfl);obtain⟨m1,m2,_⟩:=W.in hr ht
     have:=ME m1
     unfold Q9;dsimp only;omega
   .rw[Y1 hN]at e2;have f2:jZ (v5 (d2 lH (jU (b9 (z9 4))) (jJ 0 0))) (i9 (z9 4)) kO (mH N ts k K al beg none none)=some (.nx (mH N ts k K al beg none none)):=(Y9 e2).trans rfl;obtain⟨T,eT,t1,t2,t3⟩:=U6 (beg:=beg) (al:=al) (by omega);rw[hl]at t1 t2;have hF:∀t:Nat,t<N->(t:Int)∉beg->∃res,Q6 q (xY N ts k K al (beg++[(t:Int)]))=some res/\FI N ts w K (beg++[(t:Int)]) res:=λt ht hn=>HY W h5 dX hk hl da q _ (hb.more ht hn (by omega)) (by rw[Ah];simp;omega)
    have ed:b9 (x5 DE (jQ 3 4)) (mH N ts k K al beg none none)=some (T.map z8):=m9 ((x9 (ds:=[.lst (al.map z8),.tup (beg.map D.int)]) rfl).trans eT);rcases Ru (by omega) hF T none none t1 with⟨rest,e3,h1,h2⟩|⟨c5,c6,e3,bG⟩
    .refine⟨_,?_,.inr ⟨rest,rfl,h1,h2⟩⟩;have fin:wY (Q6 q) (mH N ts k K al beg none none)=some (.rt (.tup ((beg++rest).map D.int))):=w8 f1 (w8 f2 (rK ((lZ ed).trans e3)));rw[fin];rfl
    .refine⟨.non,?_,.inl ⟨rfl,λrest hr hf=>?_⟩⟩
     .have fin:wY (Q6 q) (mH N ts k K al beg none none)=some (.rt .non):=w8 f1 (w8 f2 (w8 ((lZ ed).trans e3) rfl));rw[fin];rfl
     .obtain⟨t,ht,bR,h1,h2⟩:=ý W da t1 t2 hr (by omega) hf;exact bG t ht bR h1 h2
variable{ts:List c9}{r beg:List Int}{k w:Bf}{K N:Nat}
def lI(k:Bf):List Int:=if k = "pile" then [0] else []
def bwA:ED:=x5 (Q6 8) (NC 0 1 4 3 2)
def KM:EB:=v5 (d2 vR (z9 5) (dC .non))
def S9:EO:=Q8 (tN 4 (dI 1)) (f9 5 bwA)
def vT(N:Nat)(ts:List c9)(k:Bf)(al:List Nat)(K:Nat)(c5:Option Cell):K6:=[sC (Y4 N ts),sC (.str k),sC (.tup ((lI k).map D.int)),sC (.lst (al.map z8)),sC (z8 K),c5]
def Ĵ(hb:rF N beg):kG N (jL beg N):=by
 have hm:∀p,p∈jL beg N↔0<=p/\p<(N:Int):=λp=>by rw[yF];exact⟨λh=>h.elim (hb.ok p) id,.inr⟩
 refine⟨GB hb.nd N,?_,hm⟩
 have p:(jL beg N).Perm (i4 0 N):=yQ (GB hb.nd N) (by unfold i4;exact Bd.mpr (Cj.imp λ{a b} h z=>h (by omega))) λa=>by
  rw[hm];unfold i4;constructor
  .intro h;exact Ak.mpr ⟨a.toNat,Ag.mpr (by omega),by omega⟩
  .intro h;obtain⟨k,hk,rfl⟩:=Ak.mp h
   have:=Ag.mp hk
   omega
 rw[p.length_eq,tJ]
theorem QC(W:l7 N ts)(h5:N<=5)(dX:ts.length<=11)(hk:KW k w){al:List Nat}(hl:al.length=N)(da:∀a b:Nat,a<N->b<N->al[a]?=al[b]?->nW ts (sw a b))(hb:rF N (lI k)):
  ∀(f K:Nat) (res:D),FI N ts w K (lI k) res->(∀K',K'<K->∀rest,kG N (lI k++rest)->¬jN ts (lI k++rest) w K')->K<=ts.length->ts.length+1<f+K ->
   ∃K' rest,m8 f KM S9 (vT N ts k al K (sC res))=some (.nx (vT N ts k al K' (sC (.tup ((lI k++rest).map D.int)))))/\kG N (lI k++rest)/\jN ts (lI k++rest) w K'/\∀K'',K''<K'->∀rest,kG N (lI k++rest)->¬jN ts (lI k++rest) w K''
 | 0,K,res,_,_,hK,hf=>by omega
 |f+1,K,res,hT,cm,hK,hf=>by
  unfold m8;rcases hT with⟨rfl,bG⟩|⟨rest,rfl,h1,h2⟩
  .have e0:KM (vT N ts k al K (sC .non))=some true:=rfl;rw[e0];dsimp only
   have hKm:K<ts.length:=by
    by_cases z:K<ts.length
    .exact z
    .exact w9 ((jN.all hk).mono (by omega)) (bG _ (Ĵ hb))
   obtain⟨dZ,er,hT'⟩:=HY (K:=K+1) W h5 dX hk hl da 8 (lI k) hb (by omega)
   have eb:S9 (vT N ts k al K (sC .non))=some (.nx (vT N ts k al (K+1) (sC dZ))):=w8 (Y':=vT N ts k al (K+1) (sC .non)) rfl ((Q0 ((x9 (ds:=xY N ts k (K+1) al (lI k)) rfl).trans er)).trans rfl)
   rw[eb];refine QC W h5 dX hk hl da hb f (K+1) dZ hT' (λK' hK'=>?_) (by omega) (by omega);by_cases z:K'<K
   .exact cm K' z
   .have:K'=K:=by omega
    subst this;exact bG
  .have e0:KM (vT N ts k al K (sC (.tup ((lI k++rest).map D.int))))=some false:=rfl;rw[e0];exact⟨K,rest,rfl,h1,h2,cm⟩
theorem TZ(W:l7 N ts)(h6:N<=6){p:Int}:∀(pre post:List Int),kG N (pre++p::post)->∃rest,kG N (p::rest)/\∀K,jN ts (pre++p::post) "cross" K->jN ts (p::rest) "cross" K
 | [],post,h=>⟨post,h,λ_ z=>z⟩
 |x::pre,post,h=>by
  have h':kG N ((pre++p::post)++[x]):=kG.rot h
  have e:(pre++p::post)++[x]=pre++p::(post++[x]):=by simp
  rw[e]at h';obtain⟨rest,h1,h2⟩:=TZ W h6 pre (post++[x]) h';refine⟨rest,h1,λK hf=>h2 K ?_⟩;rw[<-e];exact(jN.rot W h (by omega)).mp hf
def Υ(W:l7 N ts)(hN:N<=100)(hl:ts.length<=1000):∃al:List Nat,al.length=N/\(∀a:Nat,a<N->∃q,al[a]?=some q/\W2 [Y4 N ts,z8 a]=some (z8 q))/\∀a b:Nat,a<N->b<N->al[a]?=al[b]?->nW ts (sw a b):=by
 have g:∀a:Nat,∃q:Nat,a<N->W2 [Y4 N ts,z8 a]=some (z8 q)/\oB ts N a q=true/\q<N:=λa=>by
  by_cases h:a<N
  .obtain⟨q,hq⟩:=Zk hl hN h;exact⟨q,λ_=>hq⟩
  .exact⟨0,λz=>w9 z h⟩
 have at_:∀a:Nat,a<N->((A9 N).map λa=>Jp (g a))[a]?=some (Jp (g a)):=λa ha=>by rw[Am,Dl ha];rfl
 refine⟨(A9 N).map λa=>Jp (g a),by rw[A0,At],λa ha=>⟨_,at_ a ha,(Eo (g a) ha).1⟩,λa b ha hb e=>?_⟩;rw[at_ a ha,at_ b hb]at e;obtain⟨_,a2,a3⟩:=Eo (g a) ha;obtain⟨_,b2,b3⟩:=Eo (g b) hb;have h1:=OQ W ha a3 a2;have h2:=OQ W hb b3 b2;rw[<-Ba e]at h2;exact h1.sw3 h2
def alC:EL:=W6 [none,some 0] (lB (jJ 0 0)) (u5 0) lV (x5 W2 (jQ 1 0))
def Į(hN:N<=100){c1 c2 c3 c4 c5:Option Cell}:lB (jJ 0 0) [sC (Y4 N ts),c1,c2,c3,c4,c5]=some ((A9 N).map z8):=uJ (j:=N) rfl (by omega)
def Τ{al:List Nat}(hl:al.length=N)(h:∀a:Nat,a<N->∃q,al[a]?=some q/\W2 [Y4 N ts,z8 a]=some (z8 q)):oC (u5 0) lV (x5 W2 (jQ 1 0)) [none,sC (Y4 N ts)] ((A9 N).map z8)=some (al.map z8):=by
 refine(qM (λY=>∃c,Y=[c,sC (Y4 N ts)]) (λd=>match d with|.int x=>z8 (al.getD x.toNat 0)|_=>.non) _ _ ⟨none,rfl⟩ ?_).trans ?_
 .rintro d hd Y ⟨c,rfl⟩;obtain⟨j,hj,rfl⟩:=Ak.mp hd;obtain⟨q,e1,e2⟩:=h j (Ag.mp hj);refine⟨_,rfl,⟨_,rfl⟩,(x9 (ds:=[Y4 N ts,z8 j]) rfl).trans (e2.trans ?_)⟩;show some (z8 q)=some (z8 (al.getD (j:Int).toNat 0));rw[Ay,J5 e1]
 .rw[B1];congr 1;apply Fu;intro i;rw[Am,Am];by_cases hi:i<N
  .obtain⟨q,e1,_⟩:=h i hi;rw[Dl hi,e1];show some (z8 (al.getD (i:Int).toNat 0))=some (z8 q);rw[Ay,J5 e1]
  .rw[Cv (by rw[At];omega),Cv (by omega)]
   rfl
def ĭ(hN:N<=100){al:List Nat}(hl:al.length=N)(h:∀a:Nat,a<N->∃q,al[a]?=some q/\W2 [Y4 N ts,z8 a]=some (z8 q)){c1 c2 c3 c4 c5:Option Cell}:alC [sC (Y4 N ts),c1,c2,c3,c4,c5]=some (al.map z8):=(mD (Į hN) (QY hN)).trans (Τ hl h)
def İ(hk:KW k w)(h1:1<=N):rF N (lI k):=by
 rcases hk with⟨rfl,rfl⟩|⟨rfl,rfl⟩
 .unfold lI;rw[z7 rfl];exact⟨by simp,λp hp=>by rw[Ae.mp hp];omega,by simp;omega⟩
 .unfold lI;rw[y3 (by decide +kernel)];exact⟨by simp,λp hp=>by simp at hp,by simp⟩
def XM(W:l7 N ts)(h1:1<=N)(h5:N<=5)(dX:ts.length<=11)(hk:KW k w):∃(r:List Int) (K:Nat) (f:List Nat),wV [Y4 N ts,.str k]=some (.tup (r.map D.int))/\CZ [Y4 N ts,.str k]=some (z8 K)/\kG N r/\K7 [Y4 N ts,.tup (r.map D.int),.str k]=some (.tup (f.map z8))/\J8 [.tup (f.map z8)]=some (z8 K)/\jN ts r w K/\∀r' K',kG N r'->jN ts r' w K'->K<=K':=by
 have hb:=İ hk h1;obtain⟨al,hl,hal1,da⟩:=Υ W (by omega) (by omega);obtain⟨res,er,hT⟩:=HY (K:=0) W h5 dX hk hl da 8 (lI k) hb (by omega);obtain⟨K0,rest,ew,hr,hf,cm⟩:=QC W h5 dX hk hl da hb 200 0 res hT (λK' h=>w9 h (Dv _)) (Bg _) (by omega)
 have bv:∀r' K',kG N r'->jN ts r' w K'->K0<=K':=λr' K' dw eY=>by
  apply C4;intro am;have hm:=cm K' (by omega);rcases hk with⟨rfl,rfl⟩|⟨rfl,rfl⟩
  .have h0:(0:Int)∈r':=(dw.mem 0).mpr (by omega);obtain⟨pre,post,rfl⟩:=List.append_of_mem h0;obtain⟨bR,g1,g2⟩:=TZ W (by omega) pre post dw;unfold lI at hm;rw[z7 rfl]at hm;exact hm bR g1 (g2 K' eY)
  .unfold lI at hm;rw[y3 (by decide +kernel)]at hm;exact hm r' dw eY
 obtain⟨f,K1,ef,ec,hK⟩:=JL (W.lay hr (by omega) (by omega)) dX hk;have e1:K1=K0:=Nat.le_antisymm ((hK K0).mp hf) (bv _ _ hr ((hK K1).mpr (Aj _)));subst e1
 have eb:wV [Y4 N ts,.str k]=some (.tup ((lI k++rest).map D.int)):=by
  show kY (GH [sC (Y4 N ts),sC (.str k),none,none,none,none])=_
  have eg:vS (v5 (d2 lH (z9 1) (dC (.str "pile")))) (kD (y9 (dI 0) i3)) (kD i3) [sC (Y4 N ts),sC (.str k),none,none,none,none]=some (.tup ((lI k).map D.int)):=by
   have t0:v5 (d2 lH (z9 1) (dC (.str "pile"))) [sC (Y4 N ts),sC (.str k),none,none,none,none]=some (k=="pile"):=J7 rfl;refine(Sl t0).trans ?_;rcases hk with⟨rfl,rfl⟩|⟨rfl,rfl⟩
   .rw[show lI "pile" = [0] from z7 rfl,show (("pile":Bf)=="pile")=true by decide +kernel,z7 rfl];exact oZ (ds:=[.int 0]) rfl (by decide)
   .rw[show lI "queue" = [] from y3 (by decide +kernel),show (("queue":Bf)=="pile")=false by decide +kernel,y3 (by decide)];exact oZ (ds:=[]) rfl (by decide)
  have fin:GH [sC (Y4 N ts),sC (.str k),none,none,none,none]=some (.rt (.tup ((lI k++rest).map D.int))):=by refine w8 (Q0 eg) ?_;refine w8 (Q0 (mU (ĭ (by omega) hl hal1))) ?_;refine w8 (Q0 (d:=z8 0) rfl) ?_;refine w8 (Q0 (d:=res) ((x9 (ds:=xY N ts k 0 al (lI k)) rfl).trans er)) ?_;exact w8 ew rfl
  rw[fin];rfl
 refine⟨lI k++rest,K1,f,eb,?_,hr,ef,ec,hf,bv⟩
 exact mX (x:=Oe [sC (Y4 N ts),sC (.str k)]) (
  lJ ((x9 (ds:=[.tup (f.map z8)]) (u7 ((x9 (ds:=[Y4 N ts,.tup ((lI k++rest).map D.int),.str k]) (u7 rfl (u7 ((x9 (ds:=[Y4 N ts,.str k]) rfl).trans eb) rfl))).trans ef) rfl)).trans ec))
variable{ts:List c9}{r beg:List Int}{k w:Bf}{K N:Nat}
def ϝ{α:Type}(ds:List α)(j:Nat):uD ds none (some (j:Int))=ds.take j:=by
 have e0:HT.sIx ds.length 0 none=0:=rfl
 have e1:HT.sIx ds.length ds.length (some (j:Int))=Jq j ds.length:=by exact HT.sIx_nat _ _ _
 unfold uD;rw[e0,e1,List.drop_zero,Nat.sub_zero];rcases Nat.le_total j ds.length with z|z
 .rw[Mb z]
 .rw[Nat.min_eq_right z,Lu,Jc z]
def Ϝ{α:Type}(ds:List α)(j:Nat):uD ds (some (j:Int)) none=ds.drop j:=by
 have e0:HT.sIx ds.length ds.length none=ds.length:=rfl
 have e1:HT.sIx ds.length 0 (some (j:Int))=Jq j ds.length:=by exact HT.sIx_nat _ _ _
 unfold uD;rw[e0,e1];rcases Nat.le_total j ds.length with z|z
 .rw[Mb z,Jc (by rw[G8];omega)]
 .rw[Nat.min_eq_right z,Nn,Jb,List.drop_of_length_le z]
def kZ(r:List Int):D:=.tup (r.map D.int)
def fb:Nat->Nat
 | 0=>1
 |n+1=>(n+1)*fb n
def NA(Fr:LD):ED:=x5 Fr (y9 (kE (AC (oD (sG (z9 0) (vM) (tR (z9 2)))) (oD (sG (z9 0) (tR (d2 jT (z9 2) (dI 1))) (vM))))) i3)
def Tv(Fr:LD):EO:=qV 1 (W6 [none,some 3] (b9 (NA Fr)) (u5 0) lV (d2 jT (kD (jW 1)) (z9 0)))
abbrev uC(l:List Int)(acc:List (List Int))(c2 c3:Option Cell):K6:=[sC (.lst (l.map D.int)),some (.ow (acc.map kZ)),c2,c3]
def ņ{l:List Int}(hl:l.length<=6){c3:Option Cell}:NA Fr (uC l acc (sC (z8 j)) c3)=Fr [.lst ((l.eraseIdx j).map D.int)]:=by
 refine x9 (u7 (mU ?_) rfl)
 have e1:oD (sG (z9 0) (vM) (tR (z9 2))) (uC l acc (sC (z8 j)) c3)=some ((l.map D.int).take j):=by rw[<-ϝ];rfl
 have e2:oD (sG (z9 0) (tR (d2 jT (z9 2) (dI 1))) (vM)) (uC l acc (sC (z8 j)) c3)=some ((l.map D.int).drop (j+1)):=by rw[<-Ϝ];rfl
 have h:((l.map D.int).take j).length+((l.map D.int).drop (j+1)).length<=d9:=by rw[E9,G8,A0];unfold d9;omega
 unfold AC;rw[e1,e2];dsimp only;rw[z7 h,<-List.eraseIdx_eq_take_drop_succ,Pn]
def Yt{Fr:LD}{l:List Int}(hl:l.length<=6){acc rs:List (List Int)}{c3:Option Cell}(hF:Fr [.lst ((l.eraseIdx j).map D.int)]=some (.lst (rs.map kZ)))(hr:∀r∈rs,r.length<=100)(ha:acc.length+rs.length<=10000):
  Tv Fr (uC l acc (sC (z8 j)) (sC (.int p)))=some (.nx (uC l (acc++rs.map (p::·)) (sC (z8 j)) (sC (.int p)))):=by
 have ec:W6 [none,some 3] (b9 (NA Fr)) (u5 0) lV (d2 jT (kD (jW 1)) (z9 0)) (uC l acc (sC (z8 j)) (sC (.int p)))=some ((rs.map (p::·)).map kZ):=by
  refine(mD (ds:=rs.map kZ) (m9 ((ņ hl).trans hF)) (by rw[A0];unfold d9;omega)).trans ?_
  refine(qM (λY=>∃c,Y=[c,sC (.int p)]) (λd=>match d with|.tup ds=>.tup (.int p::ds)|_=>.non) _ _ ⟨none,rfl⟩ ?_).trans ?_
  .rintro d hd Y ⟨c,rfl⟩;obtain⟨x,hx,rfl⟩:=Ak.mp hd;refine⟨_,rfl,⟨_,rfl⟩,(kK (x:=.tup [.int p]) (y:=kZ x) (oZ (ds:=[.int p]) rfl (show 1<=d9 by decide)) rfl).trans ?_⟩
   have:=hr x hx
   exact Uk _ _ (by simp[d9];omega)
  .rw[B1,B1];rfl
 refine(KU (ds:=acc.map kZ) rfl ec (by rw[A0,A0,A0];unfold d9;omega)).trans ?_
 rw[<-B6];rfl
theorem Rb{Fr:LD}{l:List Int}(hl:l.length<=6){B:Nat}(hB:l.length*B<=10000)(hF:∀j:Nat,j<l.length->∃rs:List (List Int),Fr [.lst ((l.eraseIdx j).map D.int)]=some (.lst (rs.map kZ))/\(∀r∈rs,r.Perm (l.eraseIdx j))/\rs.length<=B):
  ∀(rest:List Int) (j:Nat) (acc:List (List Int)) (c2 c3:Option Cell),l.drop j=rest->j+rest.length=l.length->(∀r∈acc,r.Perm l)->acc.length<=j*B ->
   ∃aJ fq cN,W5 (nZ 2 (lN (u5 2) (lN (u5 3) (nY)))) (Tv Fr) (lL j (rest.map D.int)) (uC l acc c2 c3)=some (.nx (uC l aJ fq cN))/\(∀r∈aJ,r.Perm l)/\aJ.length<=l.length*B
 | [],j,acc,c2,c3,_,e,h,hb=>⟨acc,c2,c3,rfl,h,by rw[<-e];simpa using hb⟩
 |p::rest,j,acc,c2,c3,hd,e,h,hb=>by
  have hj:j<l.length:=by rw[As]at e;omega
  have ha:l[j]?=some p:=by
   have:=Kx (xs:=l) (i:=j) (j:=0)
   rw[hd]at this;simpa using this.symm
  obtain⟨rs,f1,f2,f3⟩:=hF j hj;have hjB:(j+1)*B<=l.length*B:=Nat.mul_le_mul_right B (by omega);rw[Nat.add_mul,Nat.one_mul]at hjB;have st:=Yt (p:=p) (acc:=acc) (c3:=c3) hl f1 (λr hr=>by rw[(f2 r hr).length_eq,List.length_eraseIdx];split<;>omega) (by omega)
  have hp:∀r∈acc++rs.map (p::·),r.Perm l:=λr hr=>by
   rcases Aw.mp hr with z|z
   .exact h r z
   .obtain⟨x,hx,rfl⟩:=Ak.mp z
    have hpj:l[j]=p:=by rw[A4 hj]at ha;exact Ba ha
    have:=erase_perm l j hj
    rw[hpj]at this;exact((f2 x hx).cons p).trans this
  obtain⟨aJ,fq,cN,e2,h2,h3⟩:=Rb hl hB hF rest (j+1) _ (sC (z8 j)) (sC (.int p)) (by rw[<-Mj,hd];rfl) (by rw[As]at e;omega) hp (by rw[Ah,A0,Nat.add_mul,Nat.one_mul];omega)
  refine⟨aJ,fq,cN,?_,h2,h3⟩;rw[Af];exact(oG (ds:=lL (j+1) (rest.map D.int)) (d:=.tup [.int (j:Int),.int p]) rfl st).trans e2
theorem v0N{n:Nat}(h:n<=6):fb n<=720:=by
 match n,h with
 | 0,_=>decide
 | 1,_=>decide
 | 2,_=>decide
 | 3,_=>decide
 | 4,_=>decide
 | 5,_=>decide
 | 6,_=>decide
theorem ON:∀(q:Nat) (l:List Int),l.length<q->l.length<=6->∃rs:List (List Int),rW q [.lst (l.map D.int)]=some (.lst (rs.map kZ))/\(∀r∈rs,r.Perm l)/\rs.length<=fb l.length
 | 0,l,h,_=>w9 h (Dv _)
 |q+1,l,h,h6=>by
  show ∃rs:List (List Int),kY (CI (rW q) [sC (.lst (l.map D.int)),none,none,none])=_/\_
  cases hl:l with
  |nil=>refine⟨[[]],?_,λr hr=>by rw[Ae.mp hr],Aj _⟩;have fin:CI (rW q) [sC (.lst (([]:List Int).map D.int)),none,none,none]=some (.rt (.lst ([[]].map kZ))):=rK ((Y9 (a:=true) rfl).trans rfl);rw[fin];rfl
  |cons p0 l0=>
   rw[<-hl]
   have ab:l.length=l0.length+1:=by rw[hl];rfl
   have am:∀j:Nat,j<l.length->(l.eraseIdx j).length=l0.length:=λj hj=>by rw[List.length_eraseIdx,z7 hj];omega
   obtain⟨acc,c2,c3,e,h1,h2⟩:=Rb (Fr:=rW q) (B:=fb l0.length) h6 (by
     have:=v0N (n:=l0.length) (by omega)
     have:=Nat.mul_le_mul h6 this
     omega) (λj hj=>by
     obtain⟨rs,f1,f2,f3⟩:=ON q (l.eraseIdx j) (by rw[am j hj];omega) (by rw[am j hj];omega)
     rw[am j hj]at f3
     exact⟨rs,f1,f2,f3⟩) l 0 [] none none rfl (by simp) (λr hr=>by simp at hr) (Bg _)
   refine⟨acc,?_,h1,by rw[ab];rw[ab]at h2;exact h2⟩
   have t0:jZ (pM (FN (oD (z9 0)))) (i9 (kE (pB (y9 (kD i3) i3)))) kO [sC (.lst (l.map D.int)),none,none,none]=some (.nx [sC (.lst (l.map D.int)),none,none,none]):=by rw[hl];rfl
   have fin:CI (rW q) [sC (.lst (l.map D.int)),none,none,none]=some (.rt (.lst (acc.map kZ))):=by refine w8 t0 ?_;refine w8 rfl ?_;exact w8 ((lZ (ds:=lL 0 (l.map D.int)) rfl).trans e) rfl
   rw[fin];rfl
def Rc(h:depth d<=jP):oS d d=some (.bl false):=by unfold oS;rw[z7 ⟨h,h⟩,yL];rfl
def ϧ(hr:kG N r):r.Perm (i4 0 N):=yQ hr.nd (by unfold i4;exact Bd.mpr (Cj.imp λ{a b} h z=>h (by omega))) λa=>by
 rw[hr.mem];unfold i4;constructor
 .intro h;exact Ak.mpr ⟨a.toNat,Ag.mpr (by omega),by omega⟩
 .intro h;obtain⟨k,hk,rfl⟩:=Ak.mp h
  have:=Ag.mp hk
  omega
def Xt{l:List Int}(h:l.Perm (i4 0 N)):kG N l:=by
 refine⟨h.nodup_iff.mpr (by unfold i4;exact Bd.mpr (Cj.imp λ{a b} h z=>h (by omega))),by rw[h.length_eq,tJ],λp=>?_⟩
 rw[h.mem_iff];unfold i4;constructor
 .intro h;obtain⟨k,hk,rfl⟩:=Ak.mp h
  have:=Ag.mp hk
  omega
 .intro h;exact Ak.mpr ⟨p.toNat,Ag.mpr (by omega),by omega⟩
def Pb(r:List Int):depth (.lst (r.map D.int))<=jP:=by rw[depth,GY];decide
def U5(hr:kG N r)(h6:N<=6):BE [Y4 N ts,kZ r]=some (.bl true):=by
 have hl:r.length=N:=by have:=hr.len;omega
 show kY (JN [sC (Y4 N ts),sC (kZ r)])=_;have t1:v5 (d2 oS (jU (b9 (z9 1))) (jJ 0 0)) [sC (Y4 N ts),sC (kZ r)]=some false:=J7 ((kK (x:=z8 N) (y:=z8 N) ((oY (ds:=r.map D.int) rfl).trans (by rw[A0,hl];rfl)) rfl).trans (Rc (by simp[z8,depth,jP])))
 have a1:vJ (W6 [none] (b9 (z9 1)) (u5 0) lV (x5 GD (jW 0))) [sC (Y4 N ts),sC (kZ r)]=some (.bl true):=by
  refine(Td (ds:=(r.map λ_=>true).map D.bl) ?_ (II _)).trans ?_
  .refine(mD (ds:=r.map D.int) rfl (by rw[A0];unfold d9;omega)).trans ?_
   refine(qM (λY=>∃c,Y=[c]) (λ_=>.bl true) _ _ ⟨none,rfl⟩ ?_).trans ?_
   .rintro d hd Y ⟨c,rfl⟩;obtain⟨x,hx,rfl⟩:=Ak.mp hd;exact⟨_,rfl,⟨_,rfl⟩,rfl⟩
   .rw[B1,B1];rfl
  .rw[Ng];simp
 have a2:d2 lH (kE (pY lR (b9 (z9 1)))) (kE (Z7 (jJ 0 0))) [sC (Y4 N ts),sC (kZ r)]=some (.bl true):=by
  have e1:pY lR (b9 (z9 1)) [sC (Y4 N ts),sC (kZ r)]=some ((i4 0 N).map D.int):=by
   refine(LW (ds:=r.map D.int) rfl).trans ?_;unfold lR;rw[z7 (by rw[A0];omega),PZ]
   dsimp only;rw[Đ (ϧ hr)]
  have e2:Z7 (jJ 0 0) [sC (Y4 N ts),sC (kZ r)]=some ((i4 0 N).map D.int):=(CF (j:=(N:Int)) rfl (by omega) (by omega)).trans (by rw[Ay]);refine(kK (mU e1) (mU e2)).trans ?_;unfold lH;rw[z7 ⟨Pb _,Pb _⟩,yL]
 have fin:JN [sC (Y4 N ts),sC (kZ r)]=some (.rt (.bl true)):=by refine w8 ((Y9 (a:=false) (KY (a:=false) (b:=false) rfl λ_=>t1)).trans rfl) ?_;exact lJ (ĳ (a:=true) (b:=true) a1 λ_=>a2)
 rw[fin];rfl
def TJ:EO:=jZ (v5 (d2 mZ (x5 J8 (y9 (x5 K7 (lG 3 7 4)) i3)) (z9 6))) vQ kO
def To:EO:=
 Q8 (f9 5 (x5 wV (jQ 3 4)))
 (Q8 (f9 6 (x5 CZ (jQ 3 4)))
 (Q8 (jZ (sF (v5 (d2 sB (x5 BE (jQ 3 5)) (dC (.bl true)))) (pM (v5 (x5 GV (jW 6)))))
 vQ
 kO)
 (Q8 (jZ (v5 (d2 oS (x5 J8 (y9 (x5 K7 (lG 3 5 4)) i3)) (z9 6)))
 vQ
 kO)
 (kW (b9 (x5 (rW 8) (y9 (kE (Z7 (jJ 3 0))) i3))) (u5 7) TJ))))
abbrev lE(c0 c1 c2:Option Cell)(N:Nat)(ts:List c9)(k:Bf)(c5 c6 c7:Option Cell):K6:=[c0,c1,c2,sC (Y4 N ts),sC (.str k),c5,c6,c7]
def Pk(W:l7 N ts)(h1:1<=N)(h5:N<=5)(h8:ts.length<=8)(hk:KW k w):∃dA ck cy,To (lE c0 c1 c2 N ts k c5 c6 c7)=some (.nx (lE c0 c1 c2 N ts k dA ck cy)):=by
 obtain⟨r,K,f,b1,b2,hr,b3,b4,_,cm⟩:=XM W h1 h5 (by omega) hk;obtain⟨rs,er,hp,hrl⟩:=ON 8 (i4 0 N) (by rw[tJ];omega) (by rw[tJ];omega)
 have hi:=U5 (ts:=ts) hr (by omega)
 obtain⟨Y',e,cy,rfl⟩:=ϭ (h:=u5 7) (g:=TJ) (λY=>∃c7,Y=lE c0 c1 c2 N ts k (sC (kZ r)) (sC (z8 K)) c7) (ds:=rs.map kZ) (Y:=lE c0 c1 c2 N ts k (sC (kZ r)) (sC (z8 K)) c7) ⟨c7,rfl⟩ (λd hd Y hI=>by
  obtain⟨c7,rfl⟩:=hI;obtain⟨r',dw,rfl⟩:=Ak.mp hd;have hR:=Xt (hp r' dw);obtain⟨f',K',g1,g2,g3⟩:=JL (W.lay hR (by omega) (by omega)) (by omega) hk;have jc:=cm r' K' hR ((g3 K').mpr (Aj _));refine⟨_,lE c0 c1 c2 N ts k (sC (kZ r)) (sC (z8 K)) (sC (kZ r')),rfl,.inl ?_,⟨_,rfl⟩⟩;refine(Y9 (a:=false) (J7 ((kK (x:=z8 K') (y:=z8 K) ((x9 (ds:=[.tup (f'.map z8)]) (u7 ((x9 (ds:=[Y4 N ts,kZ r',.str k]) rfl).trans g1) rfl)).trans g2) rfl).trans ((lt_int _ _).trans ?_)))).trans rfl
  rw[Y1 (by omega)])
 refine⟨sC (kZ r),sC (z8 K),cy,?_⟩;refine w8 (Q0 ((x9 (ds:=[Y4 N ts,.str k]) rfl).trans b1)) ?_;refine w8 (Q0 ((x9 (ds:=[Y4 N ts,.str k]) rfl).trans b2)) ?_;refine w8 ((Y9 (a:=false) (KY (a:=false) (b:=false) (J7 ((kK (x:=.bl true) (y:=.bl true) ((x9 (ds:=[Y4 N ts,kZ r]) rfl).trans hi) rfl).trans rfl)) λ_=>IL (a:=true) (J7 ((x9 (ds:=[z8 K]) rfl).trans rfl)))).trans rfl) ?_;refine w8 ((Y9 (a:=false) (J7 ((kK (x:=z8 K) (y:=z8 K) ((x9 (ds:=[.tup (f.map z8)]) (u7 ((x9 (ds:=[Y4 N ts,kZ r,.str k]) rfl).trans b3) rfl)).trans b4) rfl).trans (Rc (by simp[z8,depth,jP]))))).trans rfl) ?_
 have el:Z7 (jJ 3 0) (lE c0 c1 c2 N ts k (sC (kZ r)) (sC (z8 K)) c7)=some ((i4 0 N).map D.int):=(CF (j:=(N:Int)) rfl (by omega) (by omega)).trans (by rw[Ay]);exact(lZ (ds:=rs.map kZ) (m9 ((x9 (ds:=[.lst ((i4 0 N).map D.int)]) (u7 (mU el) rfl)).trans er))).trans e
def XN(ns:List Int)(j:Nat):∃c:Int,CC [.lst (ns.map D.int),z8 j]=some (.int c):=by
 show ∃c:Int,kY (CG [sC (.lst (ns.map D.int)),sC (z8 j)])=_;have t0:v5 (d2 mZ (z9 1) (jU (b9 (z9 0)))) [sC (.lst (ns.map D.int)),sC (z8 j)]=some (decide (j<ns.length)):=J7 ((kK (x:=z8 j) (y:=z8 ns.length) rfl ((oY (ds:=ns.map D.int) rfl).trans (by rw[A0];rfl))).trans ((lt_int _ _).trans (by rw[decide_eq_decide.mpr (show (j:Int)<(ns.length:Int)↔j<ns.length by omega)])))
 by_cases h:j<ns.length
 .refine⟨ns[j],?_⟩;rw[K9 h]at t0
  have e1:jI (b9 (z9 0)) (z9 1) [sC (.lst (ns.map D.int)),sC (z8 j)]=some (.int ns[j]):=(nD (ds:=ns.map D.int) (j:=(j:Int)) rfl rfl).trans (by
   unfold l6;rw[DT (by rw[A0];exact h)]
   show (ns.map D.int)[j]?=_;rw[Am,A4 h]
   rfl)
  have fin:CG [sC (.lst (ns.map D.int)),sC (z8 j)]=some (.rt (.int ns[j])):=rK ((Y9 t0).trans (lJ e1));rw[fin];rfl
 .refine⟨0,?_⟩;rw[Y1 h]at t0;have fin:CG [sC (.lst (ns.map D.int)),sC (z8 j)]=some (.rt (.int 0)):=w8 ((Y9 t0).trans rfl) rfl;rw[fin];rfl
def À:EO:=
 Q8 (f9 2 (x5 CC (jQ 0 1)))
 (Q8 (f9 3 (x5 BQ (y9 (z9 2) (y9 (d2 jT (dI 4) (x5 t7 (y9 (d2 lH (d2 n5 (z9 2) (dI 4)) (dI 0)) i3))) (y9 (dI 8) i3)))))
 (kW (b9 (kD (y9 (dC (.str "pile")) (y9 (dC (.str "queue")) i3)))) (u5 4) To))
theorem Î(c:Int)(h:z9 2 Y=some (.int c)):∃m:Int,(m=4\/m=5)/\d2 jT (dI 4) (x5 t7 (y9 (d2 lH (d2 n5 (z9 2) (dI 4)) (dI 0)) i3)) Y=some (.int m):=by
 have e1:d2 lH (d2 n5 (z9 2) (dI 4)) (dI 0) Y=some (.bl (c % 4==0)):=(kK (x:=.int (c % 4)) (y:=.int 0) ((kK (x:=.int c) (y:=.int 4) h rfl).trans (ES c (by decide))) rfl).trans rfl;have e2:x5 t7 (y9 (d2 lH (d2 n5 (z9 2) (dI 4)) (dI 0)) i3) Y=t7 [.bl (c % 4==0)]:=x9 (u7 e1 rfl)
 cases hb:(c % 4==0) with
 |true=>rw[hb]at e2;exact⟨5,.inr rfl,(kK (x:=.int 4) (y:=.int 1) rfl (e2.trans rfl)).trans rfl⟩
 |false=>rw[hb]at e2;exact⟨4,.inl rfl,(kK (x:=.int 4) (y:=.int 0) rfl (e2.trans rfl)).trans rfl⟩
def PN{ns:List Int}{c2 c3 c4 c5 c6 c7:Option Cell}:∃fq cN bd dA ck cy,À [sC (.lst (ns.map D.int)),sC (z8 j),c2,c3,c4,c5,c6,c7]=some (.nx [sC (.lst (ns.map D.int)),sC (z8 j),fq,cN,bd,dA,ck,cy]):=by
 obtain⟨c,ec⟩:=XN ns j;obtain⟨m,hm,em⟩:=Î c (Y:=[sC (.lst (ns.map D.int)),sC (z8 j),sC (.int c),c3,c4,c5,c6,c7]) rfl;obtain⟨n',ts,w1,w2,w3,w4⟩:=VE c (most:=m) (ties:=8) (by omega) (by omega) (by decide) (by decide);have hlo:=w2.lo;obtain⟨N,rfl⟩:=Int.eq_ofNat_of_zero_le (show 0<=n' by omega);have W:l7 N ts:=⟨w2.up,w2.ok⟩;obtain⟨a5,a6,a7,ea⟩:=Pk W (by omega) (by omega) (by omega) (.inl ⟨rfl,rfl⟩) (c0:=sC (.lst (ns.map D.int))) (c1:=sC (z8 j)) (c2:=sC (.int c)) (c5:=c5) (c6:=c6) (c7:=c7)
 obtain⟨b5,b6,b7,eb⟩:=Pk W (by omega) (by omega) (by omega) (.inr ⟨rfl,rfl⟩) (c0:=sC (.lst (ns.map D.int))) (c1:=sC (z8 j)) (c2:=sC (.int c)) (c5:=a5) (c6:=a6) (c7:=a7);refine⟨sC (.int c),sC (Y4 N ts),sC (.str "queue"),b5,b6,b7,?_⟩;refine w8 (Q0 ((x9 (ds:=[.lst (ns.map D.int),z8 j]) rfl).trans ec)) ?_;refine w8 (Q0 ((x9 (ds:=[.int c,.int m,.int 8]) (u7 rfl (u7 em rfl))).trans w1)) ?_;refine(lZ (ds:=[.str "pile",.str "queue"]) (vF (oZ (ds:=[.str "pile",.str "queue"]) rfl (show 2<=d9 by decide)))).trans ?_
 exact(oG rfl ea).trans ((oG rfl eb).trans rfl)
def law_true:∀ns:List Int,ns.length<=63->xH [.lst (ns.map D.int)]=some (.bl true):=by intro ns _;obtain⟨a2,a3,a4,a5,a6,a7,ea⟩:=PN (ns:=ns) (j:=0) (c2:=none) (c3:=none) (c4:=none) (c5:=none) (c6:=none) (c7:=none);obtain⟨b2,b3,b4,b5,b6,b7,eb⟩:=PN (ns:=ns) (j:=1) (c2:=a2) (c3:=a3) (c4:=a4) (c5:=a5) (c6:=a6) (c7:=a7);refine mX (x:=Sn [sC (.lst (ns.map D.int)),none,none,none,none,none,none,none]) ?_;refine w8 ((lZ (ds:=(A9 2).map z8) (uJ (j:=2) rfl (by decide))).trans ((oG (ds:=[z8 1]) (d:=z8 0) rfl ea).trans ((oG (ds:=[]) rfl eb).trans rfl))) rfl
end P
open PySem PySem.W PyProof.Rows

def PySem.W.Fast.te3907804298045137730:True:=trivial
def PySem.W.Fast.tw5241655116424619075:True:=trivial
def PySem.W.Fast.tw16311359208402228868:True:=trivial
def PySem.W.Fast.tw3419961562825263591:True:=trivial
def PySem.W.Fast.tw12182029975646433995:True:=trivial
def PySem.W.Fast.tw12400577389773615222:True:=trivial
def PySem.W.Fast.tw8212751636086917675:True:=trivial
def PySem.W.Fast.tw9542760174817239902:True:=trivial
def PySem.W.Fast.tw6296001591370249518:True:=trivial
def PySem.W.Fast.tw11366338223104740188:True:=trivial
def PySem.W.Fast.tw10434712546685271920:True:=trivial
def PySem.W.Fast.tw5115386444788417326:True:=trivial
def PySem.W.Fast.tw13425172425907025741:True:=trivial
def PySem.W.Fast.tw13050989815160580427:True:=trivial
def PySem.W.Fast.tw10658849268625359575:True:=trivial
def PySem.W.Fast.tw7933741392066667119:True:=trivial
def PySem.W.Fast.tw1962779926442841093:True:=trivial
set_option maxRecDepth 100000 in
set_option maxHeartbeats 0 in
theorem PySem.Challenge.cw_pageties_k07_whole_rows_holds : PySem.Challenge.rw_pageties_k07_whole_rows.Holds := by
 w_on;o_law;k_head;(case hw=>w_witness2)
 k_fill
 refine P.walk (l:=PySem.Challenge.rw_pageties_k07_whole_rows) rfl rfl (λw h ya=>PySem.W.km_in_of ya) (λw h ya P q e=>PySem.W.km_tabs_of ya P (C3 (f:=Bp) (L3.mem_look e))) (λw=>by kernel_rfl) P.law_true ?F
 case F=>
  intro w mg fa h KX G iO;apply P.all_mk iO;constructor
  all_goals first
   |exact⟨trivial⟩
   |exact PySem.W.mg_none_of KX G (by k_is)
   | (refine' P.st_mk KX G ?a ?b ?c ?d;(case a=>k_is);(case b=>k_is);(case c=>k_is);(case d=>k_is))
   | (refine' P.stL_mk KX G ?a ?b ?c ?d ?e;(case a=>k_is);(case b=>k_is);(case c=>k_is);(case d=>k_is);(case e=>kernel_rfl))
   | (refine' P.tb_CLASHING KX G ?a ?b ?c ?v0 ?v1;(case a=>k_is);(case b=>k_is);(case c=>k_keys);(case v0=>k_is);(case v1=>k_is))
