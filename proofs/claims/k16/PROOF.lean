import PyProof.Rows.All
import Wide.All
import OpenK.AllK
import PySem.Challenge.RW_edgemoss_k16_opened_and_closed
open PySem renaming Value->aa,Addr->ab,Shared->ae,wpAny_bind->af,Expr->ag,wpAny->ah,model->ar,wpAny_pure->ax,World->az,Program->aE,Around->aS,eval->a_,starEach->ba,Stmt->bj,cLine->bu,Spec->bz,SetTable->bS,mainGlobals->b0,FuncData->ck,intKind->cq,Builtin->cv,rawInt->cE,IsTupleKey->dc,backTo->di,holding->d3,assignEach->d4,wpAny_mono->d6,pyNext->d7,sizeLine_eq->d8,NameKind->d9,wpAny_holding->ez,swapsWith->eL,wpAny_newObj_type->eM,compareOp->fv,argBest->fy,foldedSetIterable->f6,codeAny->f7,wpAny_call_entry->gc,sysModules->gp,mem_of_lookup->gz,plainId_quiet->gN,wpAny_rule->gT,bootBuiltins->hG,binaryOp->hV,codeAny_builtin->ik,wpAny_updateSeq->il,behindInMarks->iL,IsPart->iN,wpAny_of_eq->i4,isSubtype_type->i5,argsOk->i6,CmpOp->jb,wpAny_typeOf->jn,backToKw->jI,keywordEach->jS,SetTable->j4,pyIter->j8,bindL->j9,bindC->j_,wpAny_field->kd,wpAny_callSpecial?_slot->ke,wpAny_setState_of->kv,wpAny_attempt->ky,updateSeq->kA,standAt->kG,swapsWithSole->kH,swappedStores->kK,PassesOwn->kL,Keyword->kM,DictEntry->kP,wpAny_tryCatch->k_,codeAmong->lj,GenState->lr,wpAny_truthy_bool->ls,BindsTo->lI,Arguments->lS,attributeBase->l9,callerA->md,codeAny_mono->me,wpAny_seqItems->mP,wpAny_specialOf->mS,typeLookup_type->m8,builtinLookup_eq_fast->m9,firstArgMember->m_,wpAny_isInstance->nc,Fin->nv,tupleKind->nK,wpAny_passesOwn->nL,wpAny_Call_Name_kw->nX,seqIndex?->n5,wpAny_askSetting->oq,entryFor->oz,wpAny_setField->oB,wpAny_letGo->o6,letOwnedTupleGo->o9,wpAny_pyIter_list->o_,compPost->p7,wpAny_call->p9,carriedByValue->qq,ofAClassStatement->qr,setSearchFrom->qv,hashByValue->qA,wpAny_runValue->qB,wpAny_pyIter_slot->qS,wpAny_fieldsOf->qV,tupleKind_room_in1->sf,wpAny_typeNameOfWhole_keyiter->sg,wpAny_typeNameOf_keyiter->si,wpAny_execs_nil->sD,wpAny_standAt->sF,recursionLimit->sL,seqIndex_of->sQ,wpAny_Call_method_late->sR,wpAny_forIn_list->uv,pickOrder->u4,entryFor_alias->u6,wpAny_setEntries_of->u_,wpAny_handled->vc,wpAny_throw->ve,isSubtype_stop->vi,codeAny_extend_loopS->vk,Builtin->vt,wpAny_setField_rec->v5,wpAny_dictEntries->v8,wpAny_dictEpoch->v_
open PySem.W renaming Frag->ai,nsIn->cx,fnOf->dk,codeIn->dm,keepIn->dq,mg_of->dt,fnOf->eW,mg_none_of->gi,keepIn->gx,codeHdIn->iE,hideAll->j6,codeIn->lT,OpenLaw->l_,kia_one->mv,findIn->nN,methodObj->o8,nsIn->pM,hideAll_get->sC
open PyProof.Rows renaming Keyed->aw,arrOf->ay,wpS_bind->aI,SortSt->be,wpS_pure->bg,pendingOf->bX,elem'->df,wpS_mono->eC,seqObj->eD,wpS_forRange->eS,SortKind->fm,failedOf->fq,wpS_get->g7,mirror->ip,wpS_modify->i7,envOfC->kb,seqObj->kC,IsTup->kD,AllBare->kF,wpS_lift->kX,slot_tuple_getitem->l6,envOfC->mw,setPending->nz,IntsAre->n4,reverseSlice'->oI,minRun'->o4,callWith_type1->pd,AllBare->p8,boot_sorted->se,listUpdate_at->vz,get?_update_seq->vE,seqEpoch_at->vF,IsTup->vT
open Nat renaming le_refl->bo,ne_of_lt->b_,le_trans->cz,lt_of_lt_of_le->et,zero_le->eB,le_of_lt->fR,lt_irrefl->gu,zero_add->iq,mod_eq_of_lt->iX,add_mul->i9,one_mul->i_,lt_of_le_of_lt->j0,lt_succ_of_lt->ki,ne_of_gt->lz,pow_succ->mx,mod_lt->my,add_zero->mB,lt_or_ge->ny,mul_le_mul->nE,le_succ->n6,add_assoc->oS,mul_le_mul_right->o7,mul_assoc->qa,add_mul_mod_self_left->qc,mod_eq_sub_mod->qf,min_self->tj,add_mod->tw,pos_of_ne_zero->tx,mul_mod->tz,lt_trans->tN,add_comm->ui,le_add_right->uB,succ_ne_self->u5
open PySem.Heap renaming lt_size->bq,get?_push_of_some->cb,get?_push_size->cS,SameBut->eK,get?_update_self->fE,get?_update_other->fF,get?_update_ne->k7,size_push->n9,ExtBut->q9,size_update->r_
open Bool renaming false_eq_true->br,not_true->eR,and_eq_true->jv,and_false->n8,not_false->oj,and_true->pT,or_eq_true->p_,or_self->qs,false_ne_true->tq
open List renaming range->bE,mem_cons->bP,length_map->cf,map_cons->cn,getElem?_map->cw,length_cons->cy,size_toArray->cK,mem_map->c8,getElem?_set_ne->de,mem_append->du,length_append->dy,mem_cons_self->dA,getElem?_eq_some_iff->dC,getElem?_set_self->dE,mem_singleton->dP,mem_cons_of_mem->dS,getElem?_eq_getElem->d_,mem_append_right->eA,mem_range->eJ,getElem_mem->eQ,length->eT,getD_eq_getElem?_getD->e_,map_map->fg,length_nil->fw,find?_cons->fx,pairwise_cons->fI,mem_filter->fN,getElem?_append_left->f9,replicate->gy,getElem?_append_right->gE,pairwise_append->gL,not_mem_nil->gS,Nodup->g_,append_nil->hW,length_take->hZ,append_assoc->h_,Perm->ij,length_range->ir,set_cons_zero->iA,length_singleton->iO,drop_eq_getElem_cons->iP,all_eq_true->iS,set_cons_succ->i8,mem_filterMap->ja,lookup_cons->j3,mem_append_left->j7,nodup_cons->ka,getElem?_replicate->kc,pairwise_iff_getElem->ko,perm_append_comm->ku,toArray->kB,mem_of_getElem?->kN,foldl_cons->kQ,ext_getElem->kT,mem_iff_getElem?->k6,mem_map_of_mem->k8,filterMap_cons->ll,getElem?_take_of_lt->lL,length_drop->l5,map_nil->l8,Pairwise->mf,range_succ_eq_map->mh,drop_eq_nil_of_le->ml,lookup_cons_self->mo,mem_iff_getElem->mE,take_append_drop->mI,mem_of_mem_take->mM,map_append->mN,filter_cons->nB,take_sublist->nS,length_replicate->nV,filterMap_cons_some->oa,map_congr_left->oo,getD->ot,length_eq_zero_iff->ox,getElem?_drop->oQ,mem_reverse->o3,drop_length->pV,eraseIdx_cons_succ->qE,ext_getElem?->rL,getElem?_take_eq_none->rX,length_filter_le->sj,nil_append->sk,getElem?_cons_succ->sm,of_mem_zip->sM,filterMap_map->sP,all_cons->td,all_map->tf,lookup->tm,take_of_length_le->tP,map_take->t9,map_drop->t_,drop_sublist->ue,map_filterMap->uj,filterMap_cons_none->uk,nodup_nil->uS,isEmpty_nil->u7,cons_append->vx,reverse_cons->v7,length_pos_iff->wb
open Option.some renaming inj->c9
open PySem.Obj renaming mapSeq->c_,mapFields->oC,data_mapFields->q8,isFreed_of_fields->va
open Ne renaming symm->dQ
open PySem.PassesOwn renaming never->ef
open Int renaming le_trans->eI,le_of_lt->gf,le_refl->g8,emod_nonneg->km,toNat_natCast->kR,emod_lt_of_pos->kS,not_lt->oP,add_assoc->sq,add_sub_cancel->sx
open False renaming elim->f_
open Array renaming getElem?_toList->gd,size_push->g9,getD->ic,getElem?_eq_some_iff->ie,length_toList->iF,toList_append->i0,getD_eq_getD_getElem?->kq,getElem?_eq_getElem->kU,size_append->k0,toList_inj->qh,toList_push->qi,replicate->qo,getElem?_eq_none->q_,perm_iff_toList_perm->rS,size_extract->rV
open PySem.Around renaming under_plainId->i3
open List.Pairwise renaming sublist->j5
open PySem.Str renaming ofString->kg
open PySem.F renaming called_set->kx,plain_max_loop->k9,slot_dict_keyiterator_next->o5,plain_list_iadd->rh,plain_extend_loop->rn,slot_dict_get->vS,entry_max_loop->wa
open PySem.Builtin.List renaming listExtendWith->kz,listSameRef->nh,listTooLong->pk,listLengthHint->rf
open PySem.Value renaming isInt_shape->lh
open PySem.Heap.SameBut renaming update->mT
open PySem.Builtin.Frozenset renaming updateFrom->m6
open PySem.SeqAt renaming EqAt->nI
open PySem.Walks renaming list->n_
open Option renaming map_some->og,getD_some->om,map_eq_some_iff->qk
open List.Perm renaming append_left->oy,of_eq->oD,append_right->vw
open PySem.Builtin.Slice renaming slicePlaces->pf,sliceAdjust->sN
open PySem.Builtin.Tuple renaming tupleExact->pj
open Function renaming comp_def->pS
open PyProof.Rows.SortSt renaming mk'->r8
open PySem.Calls renaming callWith_builtin->sT,evalArgs_plain->s_
open Prod.mk renaming injEq->tJ
open PyProof.Rows.F renaming plain_set_update_loop->uA
open PySem.Shared renaming TypeIs->uC
open PySem.pickOrder renaming go->u0
open PySem.ItemsOf renaming nil->vn
open Classical renaming choose->vy
set_option Elab.async false
set_option linter.all false
set_option maxRecDepth 100000
set_option maxHeartbeats 0
namespace L2
open PySem PySem.Spec PyProof.Rows
abbrev RJ:=Sum Int Str
def ajF:RJ->aa->Bool
 | .inl k,v=>aa.isInt k v
 | .inr x,v=>aa.isStrOf x v
def aqe(w:az):RJ->Int
 | .inl k=>hashInt k
 | .inr x=>hashStr w x
theorem dX:∀{k:RJ}{v:aa},ajF k v=true->(∃i t,k=Sum.inl i/\v=aa.int i t)∨(∃x t,k=Sum.inr x/\v=aa.str x t)
 | .inl i,v,h=>by obtain⟨t,e⟩:=lh (k:=i) (v:=v) h;exact .inl ⟨i,t,rfl,e⟩
 | .inr x,v,h=>by obtain⟨t,e⟩:=aa.isStrOf_shape (x:=x) (v:=v) h;exact .inr ⟨x,t,rfl,e⟩
theorem akq(a b:Int):decide ((Sum.inl a:RJ)=Sum.inl b)=(a == b):=by
 by_cases e:a=b
 ·subst e;simp
 ·have h:¬(Sum.inl a:RJ)=Sum.inl b:=fun q=>e (Sum.inl.inj q);rw[decide_eq_false h];exact(beq_eq_false_iff_ne.mpr e).symm
theorem akr(a b:Str):decide ((Sum.inr a:RJ)=Sum.inr b)=decide (a=b):=by
 by_cases e:a=b
 ·subst e;simp
 ·have h:¬(Sum.inr a:RJ)=Sum.inr b:=fun q=>e (Sum.inr.inj q);rw[decide_eq_false h,decide_eq_false e]
theorem aks(a:Int)(b:Str):decide ((Sum.inl a:RJ)=Sum.inr b)=false:=decide_eq_false (fun q=>nomatch q)
theorem akt(a:Str)(b:Int):decide ((Sum.inr a:RJ)=Sum.inl b)=false:=decide_eq_false (fun q=>nomatch q)
def ZW(prog:aE)(w:az):PySem.KeyKind prog w RJ where
  is:=ajF
  hash:=aqe w
  inj:=fun v a b ha hb=>by
    rcases dX ha with ⟨i,t,rfl,rfl⟩|⟨x,t,rfl,rfl⟩
    . rcases dX hb with ⟨j,u,rfl,e⟩|⟨y,u,rfl,e⟩
      . injection e with e1 _;rw[e1]
      . exact nomatch e
    . rcases dX hb with ⟨j,u,rfl,e⟩|⟨y,u,rfl,e⟩
      . exact nomatch e
      . injection e with e1 _;rw[e1]
  byValue := fun k v h => by rcases dX h with ⟨i,t,rfl,rfl⟩|⟨x,t,rfl,rfl⟩ <;> rfl
  pyHash:=fun hv h=>by
    rcases dX hv with ⟨i,t,rfl,rfl⟩|⟨x,t,rfl,rfl⟩
    . exact wpAny_pyHash_int h
    . exact wpAny_pyHash_str h
  eqBool:=fun hu hv h=>by
    rcases dX hu with ⟨i,t,rfl,rfl⟩|⟨x,t,rfl,rfl⟩
    . rcases dX hv with ⟨j,u,rfl,rfl⟩|⟨y,u,rfl,rfl⟩
      . rw[akq]at h;exact wpAny_eqBool_int h
      . rw[aks]at h;exact nI.int_str i t y u _ _ _ _ h
    . rcases dX hv with ⟨j,u,rfl,rfl⟩|⟨y,u,rfl,rfl⟩
      . rw[akt]at h;exact nI.str_int x t j u _ _ _ _ h
      . rw[akr]at h;exact wpAny_eqBool_str h
  «strs»:=fun k x t v h=>by
    rcases dX h with ⟨i,u,rfl,e⟩|⟨y,u,rfl,e⟩
    . exact nomatch e
    . injection e with e1 _
      subst e1;cases v <;> rfl
inductive V where
 |non|bl (b:Bool)|int (i:Int)|str (x:Str)|byt (b:Array UInt8)|flt (b:UInt64)|ref (a:ab)|ty (n:String)
 deriving DecidableEq
def RelV:V->aa->Prop
 | .non,u=>u=aa.none
 | .bl b,u=>u=aa.bool b
 | .int i,u=>∃t,u=aa.int i t
 | .str x,u=>∃t,u=aa.str x t
 | .byt b,u=>∃t,u=aa.bytes b t
 | .flt b,u=>∃t,u=aa.float b t
 | .ref a,u=>u=aa.ref a
 | .ty n,u=>u=aa.type n
abbrev Vals:List V->List aa->Prop:=Paired RelV
theorem Vals.length{xs:List V}{us:List aa}(r:Vals xs us):xs.length=us.length:=Paired.length r
theorem Vals.get:∀{xs:List V}{us:List aa}{i:Nat}{x:V},Vals xs us->xs[i]?=some x->∃u,us[i]?=some u/\RelV x u
 |_,_,_,_,.nil,e=>by simp at e
 |_,_,0,_,.cons r _,e=>by simp at e;subst e;exact⟨_,rfl,r⟩
 |_,_,i + 1,x,.cons _ t,e=>by obtain⟨u,h1,h2⟩:=Vals.get (i:=i) (x:=x) t (by simpa using e);exact⟨u,by simpa using h1,h2⟩
theorem Vals.set{x:V}{u:aa}(r:RelV x u):∀{xs:List V}{us:List aa}(i:Nat),Vals xs us->Vals (xs.set i x) (us.set i u)
 |_,_,_,.nil=>.nil
 |_,_,0,.cons _ t=>.cons r t
 |_,_,i + 1,.cons q t=>.cons q (Vals.set r i t)
theorem Vals.append:∀{xs ys:List V}{us ws:List aa},Vals xs us->Vals ys ws->Vals (xs++ys) (us++ws)
 |_,_,_,_,.nil,s=>s
 |_,_,_,_,.cons r t,s=>.cons r (Vals.append t s)
theorem Vals.take:∀{xs:List V}{us:List aa}(n:Nat),Vals xs us->Vals (xs.take n) (us.take n)
 |_,_,0,_=>.nil
 |_,_,_ + 1,.nil=>.nil
 |_,_,n + 1,.cons r t=>.cons r (Vals.take n t)
theorem Vals.drop:∀{xs:List V}{us:List aa}(n:Nat),Vals xs us->Vals (xs.drop n) (us.drop n)
 |_,_,0,r=>r
 |_,_,_ + 1,.nil=>.nil
 |_,_,n + 1,.cons _ t=>Vals.drop n t
theorem Vals.none_of:∀{xs:List V}{us:List aa}{i:Nat},Vals xs us->xs[i]?=none->us[i]?=none:=fun {xs us i} r e=>by have h1:=r.length;have h2:xs.length<=i:=List.getElem?_eq_none_iff.mp e;exact List.getElem?_eq_none_iff.mpr (by lia)
def anl:Option V->Option aa->Prop
 |some v,some u=>RelV v u
 |none,none=>True
 |_,_=>False
def KV{κ:Type}:List (κ×V)->List (κ×aa)->Prop:=Paired fun(p:κ×V) (q:κ×aa)=>p.1=q.1/\RelV p.2 q.2
def kV:RJ->V
 | .inl i=>.int i
 | .inr x=>.str x
inductive HO where
 /-- a list -/
 |lst (xs:List V)
 /-- a tuple (never changes) -/
 |tup (xs:List V)
 /-- a dict whose keys are ints and texts;one whose keys are tuples of ints and texts (the empty one is both) -/
 |dK (kvs:List (RJ×V))|dT (kvs:List (List RJ×V))
 /-- a set of ints: its members,its size -/
 |set (S:Int->Bool) (n:Nat)
 /-- an instance of the class at C,its dict at dx,its attributes -/
 |ins (C dx:ab) (fs:List (Str×V))
 /-- the dict of the instance at x -/
 |own (x:ab)
 /-- the dict of an exception -/
 |xd (fs:List (Str×V))
 /-- a bound method,f of x -/
 |met (f x:ab)
 /-- a range object lo,lo + 1,.. below hi -/
 |rng (lo hi:Int)
 /-- a thing that is known to the object (the script;a dict while a loop walks it): read,never written while it is so -/
 |Ik (o:Obj) (u:HO)
 /-- a code object's table -/
 |tbl (ps:Array aa)
 |tab (q:Str)|RK (q:Str)
 /-- any other thing,by what is true of its one object (a def of one's own: abr a S n:=HO.ext fun h=>..) -/
 |ext (φ:Heap->Prop)
abbrev Hp:=ab->Option HO
def upd(H:Hp)(a:ab)(o:HO):Hp:=fun b=>if b=a then some o else H b
theorem bH{H:Hp}{a:ab}{o:HO}:upd H a o a=some o:=by unfold upd;rw[if_pos rfl]
theorem bh{H:Hp}{a b:ab}{o:HO}(h:b≠a):upd H a o b=H b:=by unfold upd;rw[if_neg h]
theorem bf{H:Hp}{a b:ab}{o:HO}(h:H a=some o)(h':H b=none):a≠b:=by intro e;subst e;rw[h]at h';cases h'
section
variable(P:aE)(w:az)
def fY(H:Hp)(h:Heap)(a:ab):HO->Prop
 | .lst xs=>xs.length<=sizeLine/\∃(its:List aa) (n:Nat),Vals xs its/\h.get? a=some { cls:=.type "list",data:=.seq its.toArray n }
 | .tup xs=>xs.length<=sizeLine/\∃its:List aa,Vals xs its/\kD h a its.toArray
 | .dK kvs=>kvs.length<=sizeLine/\(a == gp)=false/\∃vs,KV kvs vs/\h.DictOf (ZW P w) a vs
 | .dT kvs=>kvs.length<=sizeLine/\(a == gp)=false/\∃xs:List (List RJ×ab×aa),
   Paired (fun(p:List RJ×V) (q:List RJ×ab×aa)=>p.1=q.1/\H q.2.1=some (.tup (p.1.map kV))/\RelV p.2 q.2.2) kvs xs /\
   ∃o es ep,h.get? a=some o/\o.ExactDict/\o.data=.dict es ep/\es.toList=xs.map (entryOfKey (nK (ZW P w)))/\(xs.map (·.1)).Nodup
 | .set S n=>h.SetOf (cq P w) a S n
 | .ins C dx fs=>H dx=some (.own a)/\fs.length<=1000/\dx≠a/\h.get? a=some (PySem.W.instObj C dx) /\
   ∃mA,h.Ns1 dx mA/\(∀f,anl (fs.lookup f) (mA f))/\PySem.Within mA (fs.map (·.1))
 | .own _=>∃o,h.get? a=some o
 | .xd fs=>∃mA,h.Ns1 a mA/\∀f,anl (fs.lookup f) (mA f)
 | .rng lo hi=>∃t u v,h.get? a=some { cls:=.type "range",data:=.fields #[.int lo t,.int hi u,.int 1 v] }
 | .Ik o u=>h.get? a=some o/\fY H h a u
 | .tbl ps=>h.get? a=some { cls:=.none,data:=.fields ps }
 | .tab q=>∃ps:Array aa,h.get? a=some { cls:=.none,data:=.fields ps }/\TriplesOk ps.toList/\∀pos v,lj pos ps.toList=some v->∃c,v=.ref c/\H c=some (.RK q)
 | .RK q=>∃o vs t,h.get? a=some o/\o.data=.fields vs/\vs[1]?=some (.str q t)
 | .met f x=>h.get? a=some (o8 (.ref f) (.ref x))
 | .ext φ=>φ h/\(∃o,h.get? a=some o)/\∀h1 h2:Heap,φ h1->(∀o,h1.get? a=some o->h2.get? a=some o)->φ h2
def zK(H:Hp)(h:Heap):Prop:=∀a o,H a=some o->fY P w H h a o
end
section
variable{P:aE}{w:az}{H H':Hp}{h h':Heap}{a:ab}{o:HO}
theorem fY.lt(x:fY P w H h a o):a < h.objs.size:=by
 cases o with
 |lst xs=>obtain⟨_,_,_,_,e⟩:=x;exact bq e
 |tup xs=>obtain⟨_,_,_,p⟩:=x;exact p.lt
 |dK kvs=>obtain⟨_,_,_,_,o,_,_,e,_⟩:=x;exact bq e
 |dT kvs=>obtain⟨_,_,_,_,o,_,_,e,_⟩:=x;exact bq e
 |set S n=>obtain⟨o,_,_,_,e,_⟩:=x;exact bq e
 |ins C dx fs=>obtain⟨_,_,_,e,_⟩:=x;exact bq e
 |own y=>obtain⟨_,e⟩:=x;exact bq e
 |xd fs=>obtain⟨_,⟨_,_,_,e,_⟩,_⟩:=x;exact bq e
 |rng lo hi=>obtain⟨_,_,_,e⟩:=x;exact bq e
 |Ik ob u=>obtain⟨e,_⟩:=x;exact bq e
 |tbl ps=>exact bq (show h.get? a=some _ from x)
 |tab q=>obtain⟨_,e,_⟩:=x;exact bq e
 |RK q=>obtain⟨_,_,_,e,_⟩:=x;exact bq e
 |met f y=>exact bq (show h.get? a=some _ from x)
 |ext φ=>obtain⟨_,⟨_,e⟩,_⟩:=x;exact bq e
theorem Paired.aku{α β:Type}{F G:α->β->Prop}:∀{l₁:List α}{l₂:List β},Paired F l₁ l₂->(∀a b,F a b->G a b)->Paired G l₁ l₂
 |_,_,.nil,_=>.nil
 |_,_,.cons r t,f=>.cons (f _ _ r) (Paired.aku t f)
theorem fY.stay(x:fY P w H h a o)(k:∀b u,(b=a∨H b=some (.own a))->h.get? b=some u->h'.get? b=some u)
  (ho:∀b,H b=some (.own a)->H' b=some (.own a)) (ht:∀b xs,H b=some (.tup xs)->H' b=some (.tup xs)) (akv:∀b q,H b=some (.RK q)->H' b=some (.RK q)):fY P w H' h' a o:=by
 induction o with
 |lst xs=>obtain⟨z,its,n,r,e⟩:=x;exact⟨z,its,n,r,k _ _ (.inl rfl) e⟩
 |tup xs=>obtain⟨z,its,r,ob,e,c⟩:=x;exact⟨z,its,r,ob,k _ _ (.inl rfl) e,c⟩
 |dK kvs=>obtain⟨z,y,vs,r,ob,es,ep,e,c⟩:=x;exact⟨z,y,vs,r,ob,es,ep,k _ _ (.inl rfl) e,c⟩
 |dT kvs =>
  obtain⟨z,y,xs,r,ob,es,ep,e,c⟩:=x;exact⟨z,y,xs,Paired.aku r fun p q z=>⟨z.1,ht _ _ z.2.1,z.2.2⟩,ob,es,ep,k _ _ (.inl rfl) e,c⟩
 |set S n=>obtain⟨ob,es,ep,t,e,c⟩:=x;exact⟨ob,es,ep,t,k _ _ (.inl rfl) e,c⟩
 |ins C dx fs =>
  obtain⟨d,z,ne,e,mA,⟨od,es,ep,e2,c⟩,r⟩:=x;exact⟨ho _ d,z,ne,k _ _ (.inl rfl) e,mA,⟨od,es,ep,k _ _ (.inr d) e2,c⟩,r⟩
 |own y=>obtain⟨ob,e⟩:=x;exact⟨ob,k _ _ (.inl rfl) e⟩
 |xd fs=>obtain⟨mA,⟨od,es,ep,e,c⟩,r⟩:=x;exact⟨mA,⟨od,es,ep,k _ _ (.inl rfl) e,c⟩,r⟩
 |rng lo hi=>obtain⟨t,u,v,e⟩:=x;exact⟨t,u,v,k _ _ (.inl rfl) e⟩
 |Ik ob u ih=>obtain⟨e,q⟩:=x;exact⟨k _ _ (.inl rfl) e,ih q⟩
 |tbl ps =>
  have e:h.get? a=some { cls:=.none,data:=.fields ps }:=x;show h'.get? a=some { cls:=.none,data:=.fields ps };exact k a _ (.inl rfl) e
 |tab q =>
  obtain⟨ps,e,t,c⟩:=x;exact⟨ps,k _ _ (.inl rfl) e,t,fun pos v z=>let ⟨c',e1,e2⟩:=c pos v z;⟨c',e1,akv _ _ e2⟩⟩
 |RK q=>obtain⟨o,vs,t,e,r⟩:=x;exact⟨o,vs,t,k _ _ (.inl rfl) e,r⟩
 |met f y =>
  have e:h.get? a=some (o8 (.ref f) (.ref y)):=x;show h'.get? a=some (o8 (.ref f) (.ref y));exact k a _ (.inl rfl) e
 |ext φ=>obtain⟨p,⟨o,e⟩,st⟩:=x;exact⟨st _ _ p fun o q=>k _ _ (.inl rfl) q,⟨o,k _ _ (.inl rfl) e⟩,st⟩
theorem zK.lt(x:zK P w H h)(e:H a=some o):a < h.objs.size:=(x a o e).lt
theorem zK.fresh(x:zK P w H h)(e:h.objs.size<=a):H a=none:=by
 cases q:H a with
 |none=>rfl
 |some u=>exact absurd (et (x.lt q) e) (gu _)
theorem zK.kept(x:zK P w H h)(k:∀b u,h.get? b=some u->h'.get? b=some u):zK P w H h':=fun a o e =>
 (x a o e).stay (fun b u _ q=>k b u q) (fun _ q=>q) (fun _ _ q=>q) fun _ _ q=>q
theorem zK.laid(x:zK P w H h)(k:∀b u,h.get? b=some u->h'.get? b=some u)(hp:h.objs.size<=a)(new:fY P w (upd H a o) h' a o):zK P w (upd H a o) h':=fun b u e=>by
 have hn:=x.fresh hp;by_cases hb:b=a
 ·subst hb;rw[bH]at e;cases e;exact new
 ·rw[bh hb]at e;exact(x b u e).stay (fun c v _ q=>k c v q) (fun c q=>by rw[bh (bf q hn)];exact q) (fun c xs q=>by rw[bh (bf q hn)];exact q) fun c xs q=>by rw[bh (bf q hn)];exact q
end
def Rd(H:Hp)(a:ab)(u:HO):Prop:=H a=some u∨∃o,H a=some (.Ik o u)
theorem Rd.ok{P:aE}{w:az}{H:Hp}{h:Heap}{a:ab}{u:HO}(r:Rd H a u)(x:zK P w H h):fY P w H h a u:=by
 rcases r with r|⟨o,r⟩
 ·exact x a u r
 ·obtain⟨_,q⟩:=x a _ r;exact q
def Mut:Option HO->Prop
 |some (.lst _)=>True
 |some (.dK _)=>True
 |some (.dT _)=>True
 |some (.set _ _)=>True
 |some (.ins _ _ _)=>True
 |some (.ext _)=>True
 |some (.tab _)=>True
 |_=>False
section
variable{P:aE}{w:az}{H:Hp}{h h':Heap}{x e:ab}{o':HO}
theorem zK.write(ok:zK P w H h)(mu:Mut (H x))(he:e=x∨H e=some (.own x))(k:∀b u,b≠e->h.get? b=some u->h'.get? b=some u)(heo:∃u,h'.get? e=some u)
  (new:fY P w (upd H x o') h' x o'):zK P w (upd H x o') h':=fun b u q=>by
 have anm:∀c y,H c=some (.own y)->c≠x:=fun c y r z=>by subst z;rw[r]at mu;exact mu
 have aqg:∀c xs,H c=some (.tup xs)->c≠x:=fun c xs r z=>by subst z;rw[r]at mu;exact mu
 have aqh:∀c q,H c=some (.RK q)->c≠x:=fun c q r z=>by subst z;rw[r]at mu;exact mu
 by_cases hb:b=x
 ·subst hb;rw[bH]at q;cases q;exact new
 ·rw[bh hb]at q;by_cases hbe:b=e
  ·have q':H b=some (.own x):=by
    rcases he with z|z
    ·exact absurd (hbe.trans z) hb
    ·rw[hbe];exact z
   rw[q]at q';cases q';obtain⟨v,hv⟩:=heo;exact⟨v,by rw[hbe];exact hv⟩
  ·refine(ok b u q).stay (fun c v hc r=>k c v ?_ r) (fun c r=>by rw[bh (anm c b r)];exact r) (fun c xs r=>by rw[bh (aqg c xs r)];exact r) fun c q r=>by rw[bh (aqh c q r)];exact r
   rcases hc with rfl|hc
   ·exact hbe
   ·rintro rfl;rcases he with z|z
    ·exact anm c b hc z
    ·rw[hc]at z;cases z;exact hb rfl
end
structure Un (fs ex:List ab)(H H':Hp)(h h':Heap):Prop where
 keep:∀b o,h.get? b=some o->H b=none->b∉fs->b∉ex->h'.get? b=some o
 slot:∀b o,h.get? b=some o->H b=none->b∈fs->b∉ex->∃sl,h'.get? b=some { o with slots:=sl }
 free:∀b o,h.get? b=some o->H b=none->b∉ex->H' b=none
 there:∀b o,h.get? b=some o->b∉ex->∃o',h'.get? b=some o'
 tups:∀b xs,H b=some (.tup xs)->H' b=some (.tup xs)
 Ef:∀b o u,H b=some (.Ik o u)->H' b=some (.Ik o u)
 Il:∀b ps,H b=some (.tbl ps)->∃more,H' b=some (.tbl (ps++more))
section
variable{fs fs' ex ex':List ab}{H H1 H2:Hp}{h h1 h2 h':Heap}{a x e:ab}{o:HO}
theorem Un.any(u:Un fs ex H H1 h h1){b:ab}{ob:Obj}(q:h.get? b=some ob)(n:H b=none)(hx:b∉ex):∃sl,h1.get? b=some { ob with slots:=sl }:=by
 by_cases hb:b∈fs
 ·exact u.slot b ob q n hb hx
 ·exact⟨ob.slots,u.keep b ob q n hb hx⟩
theorem Un.kept(k:∀b u,h.get? b=some u->h'.get? b=some u):Un fs ex H H h h' :=
 ⟨fun b ob q _ _ _=>k b ob q,fun b ob q _ _ _=>⟨ob.slots,k b ob q⟩,fun _ _ _ n _=>n,fun b ob q _=>⟨ob,k b ob q⟩,fun _ _ q=>q,fun _ _ _ q=>q,fun _ ps q=>⟨#[],by rw[q];simp⟩⟩
theorem Un.refl:Un fs ex H H h h:=Un.kept fun _ _ q=>q
theorem Un.laid(k:∀b u,h.get? b=some u->h'.get? b=some u)(hp:h.objs.size<=a)(hn:H a=none):Un fs ex H (upd H a o) h h' where
 keep:=fun b u q _ _ _=>k b u q
 slot:=fun b u q _ _ _=>⟨u.slots,k b u q⟩
 free:=fun b u q n _=>by rw[bh (b_ (et (bq q) hp))];exact n
 there:=fun b u q _=>⟨u,k b u q⟩
 tups:=fun b xs q=>by rw[bh (bf q hn)];exact q
 Ef:=fun b u xs q=>by rw[bh (bf q hn)];exact q
 Il:=fun b ps q=>⟨#[],by rw[bh (bf q hn),q];simp⟩
theorem Un.write(mu:Mut (H x))(he:e=x∨H e=some (.own x))(k:∀b u,b≠e->h.get? b=some u->h'.get? b=some u)(heo:∃u,h'.get? e=some u):Un fs ex H (upd H x o) h h':=by
 have hx:∀b,H b=none->b≠x:=fun b n z=>by subst z;rw[n]at mu;exact mu
 have hb:∀b,H b=none->b≠e:=fun b n z=>by
  subst z;rcases he with r|r
  ·exact hx b n r
  ·rw[n]at r;cases r
 have hm:∀b u,H b=some u->¬Mut (some u)->b≠x:=fun b u q nm z=>by subst z;rw[q]at mu;exact nm mu
 refine⟨fun b u q n _ _=>k b u (hb b n) q,fun b u q n _ _=>⟨u.slots,k b u (hb b n) q⟩,fun b u q n _=>by rw[bh (hx b n)];exact n,fun b u q _=>?_,
  fun b xs q=>by rw[bh (hm b _ q fun z=>z)];exact q,fun b u xs q=>by rw[bh (hm b _ q fun z=>z)];exact q,fun b ps q=>⟨#[],by rw[bh (hm b _ q fun z=>z),q];simp⟩⟩
 by_cases hbe:b=e
 ·subst hbe;exact heo
 ·exact⟨u,k b u hbe q⟩
end
def trk(h:Heap)(H:Hp):List ab:=(bE h.objs.size).filter fun a=>(H a).isSome
def Mt(h:Heap)(H:Hp):Heap:=j6 h (trk h H)
theorem abt(h:Heap)(H:Hp):(Mt h H).objs.size=h.objs.size:=PySem.W.hideAll_size _ _
theorem adx{h:Heap}{H:Hp}{b:ab}{o:Obj}(e:h.get? b=some o)(n:H b=none):(Mt h H).get? b=some o :=
 sC _ e fun hm=>by have q:(H b).isSome=true:=(fN.mp hm).2;rw[n]at q;simp at q
theorem ahn{h:Heap}{H:Hp}{b:ab}{o:Obj}(e:(Mt h H).get? b=some o):h.get? b=some o/\H b=none:=by
 have e':h.get? b=some o:=PySem.W.of_hideAll (trk h H) e;refine⟨e',?_⟩;cases q:H b with
 |none=>rfl
 |some x =>
  have hm:b∈trk h H:=fN.mpr ⟨eJ.mpr (bq e'),by simp[q]⟩;have z:(Mt h H).get? b=none:=PySem.W.hideAll_none (trk h H) hm;rw[z]at e;cases e
def ZX(g h:Heap)(L:ab):List (ab×Obj):=(bE h.objs.size).filterMap fun a=>if a=L∨(g.get? a).isSome=true then none else (h.get? a).map fun o=>(a,o)
theorem RQ{g h:Heap}{L a:ab}{o:Obj}(h1:a≠L)(h2:g.get? a=none)(h3:h.get? a=some o):(a,o)∈ZX g h L :=
 ja.mpr ⟨a,eJ.mpr (bq h3),by simp[h1,h2,h3]⟩
def rest(g h:Heap)(L d:ab):List (ab×Obj):=(ZX g h L).filter fun p=>decide (p.1≠d)
theorem Eh{g h:Heap}{L d a:ab}{o:Obj}(h1:a≠L)(h2:g.get? a=none)(h3:h.get? a=some o)(h4:a≠d):(a,o)∈rest g h L d :=
 fN.mpr ⟨RQ h1 h2 h3,decide_eq_true h4⟩
structure Mod (K:ai)(mg:Str->Option aa)(base:Heap):Prop where
 kin:K.In base
 glob:base.Ns b0 mg
 blt:∃mb,base.Ns builtinsNs mb/\∀x:Str,x≠"__name__"->mb x=hG x
 nolimit:base.NoLimit
 bm:∃bm ob,mg "__builtins__"=some (.ref bm)/\bm≠builtinsNs/\base.get? bm=some ob/\ob.cls=.type "module"/\ob.dict=some builtinsNs/\ob.data=.plain
structure Cx where
 prog:aE
 w:az
 K:ai
 mg:Str->Option aa
 base:Heap
 A:aS
 N:List Str
 s₀:ae
 H₀:Hp
 env:Env
 outer:List Env
 stack:List Env
 ex:List ab
 fn:Str->Bool
 calm:Bool
 pn:List (ab×Obj)
 xe:aa->ae->Prop
def qp(l:List Env):List ab:=l.filterMap (·.frame)
abbrev Cx.fs(X:Cx):List ab:=qp X.outer
def RL(sc:Scope)(x:Str):Prop:=sc.names.lookup x=some .local∨sc.names.lookup x=some .cell∨sc.names.lookup x=some .free
def Mu(sc:Scope)(x:Str):Prop:=sc.names.lookup x=some .local∨sc.names.lookup x=some .cell
def aqi(env:Env)(h:Heap)(m:Str->Option aa)(x:Str)(u:aa):Prop :=
 (env.kindOf x=some .local/\m x=some u)∨((env.kindOf x=some .cell∨env.kindOf x=some .free)/\∃c,env.cells.lookup x=some c/\h.IsCell c (some u))
structure Cx.Ok (X:Cx):Prop where
 mod:Mod X.K X.mg X.base
 kind:X.env.scope.kind=.function
 glob:X.env.globals=b0
 blt:X.env.builtins=builtinsNs
 above:X.s₀.heap.objs.size<=X.env.locals
 inj:∀x y c,X.env.cells.lookup x=some c->X.env.cells.lookup y=some c->x=y
 has:∀x,(X.env.kindOf x=some .cell∨X.env.kindOf x=some .free)->∃c,X.env.cells.lookup x=some c
 cab:∀x c,X.fn x=true->X.env.cells.lookup x=some c->X.s₀.heap.objs.size<=c
 hd:X.calm=true->X.A.handled=none
 frames:X.A.frames=some X.stack
 stk:X.stack=X.outer∨(X.stack=X.env::X.outer/\X.env.frame=some X.env.locals)
 exf:∀b∈X.ex,b≠X.env.locals/\∀x c,X.env.cells.lookup x=some c->c≠b
 bs:∀b o,X.base.get? b=some o->X.s₀.heap.get? b=some o/\X.H₀ b=none
 bsz:X.base.objs.size<=X.s₀.heap.objs.size
 abu:∀b o,X.base.get? b=some o->b∉X.ex
 ahp:∀b∈X.ex,b∉X.fs
 Ei:X.s₀.heap.FunFrames X.base X.outer
 frf:∀b∈X.fs,X.H₀ b=none
structure Inv (X:Cx)(pins:List (ab×Obj))(σ:List (Option V))(H:Hp)(s:ae):Prop where
 ok:X.Ok
 os:s.os=X.s₀.os
 bare:kF s.gens
 base:Un X.fs X.ex X.H₀ H X.s₀.heap s.heap
 loc:∃m,s.heap.Ns X.env.locals m/\∀(i:Nat) (x:Str) (v:V),X.N[i]?=some x->σ[i]?=some (some v)->RL X.env.scope x->∃u,RelV v u/\aqi X.env s.heap m x u
 cell:∀x c,X.env.cells.lookup x=some c->∃v,s.heap.IsCell c v
 free:H X.env.locals=none
 sW:∀x c,X.env.cells.lookup x=some c->H c=none
 pin:∀p∈X.pn++pins,s.heap.get? p.1=some p.2/\H p.1=none/\p.1≠X.env.locals/\p.1∉X.fs/\∀v,p.2.data≠.cell v
 hok:zK X.prog X.w H s.heap
 len:σ.length=X.N.length
section
variable{X:Cx}{pins:List (ab×Obj)}{σ:List (Option V)}{H H':Hp}{s:ae}{h':Heap}
theorem Cx.Ok.aqj(ok:X.Ok){b:ab}{o:Obj}(e:X.base.get? b=some o):b∉X.fs:=fun hb=>by have:=(ok.Ei.mem hb).1;rw[e]at this;cases this
theorem Inv.bs(I:Inv X pins σ H s):∀b o,X.base.get? b=some o->s.heap.get? b=some o/\H b=none:=fun b o e =>
 ⟨I.base.keep b o (I.ok.bs b o e).1 (I.ok.bs b o e).2 (I.ok.aqj e) (I.ok.abu b o e),I.base.free b o (I.ok.bs b o e).1 (I.ok.bs b o e).2 (I.ok.abu b o e)⟩
theorem Inv.bk(I:Inv X pins σ H s):∀b o,X.base.get? b=some o->s.heap.get? b=some o:=fun b o e=>(I.bs b o e).1
theorem Inv.mod(I:Inv X pins σ H s):Mod X.K X.mg X.base:=I.ok.mod
theorem Inv.Xq(I:Inv X pins σ H s):X.K.In s.heap:=I.ok.mod.kin.keeps I.bk
theorem Inv.lt(I:Inv X pins σ H s):X.env.locals < s.heap.objs.size:=let ⟨_,hn,_⟩:=I.loc;hn.lt
theorem Inv.sz(I:Inv X pins σ H s):X.s₀.heap.objs.size<=s.heap.objs.size:=cz I.ok.above (fR I.lt)
theorem Inv.ady(I:Inv X pins σ H s){a:ab}(h:s.heap.objs.size<=a):a∉X.fs:=fun hb=>by obtain⟨_,o,ho,_⟩:=I.ok.Ei.mem hb;exact absurd (et (bq ho) (cz I.sz h)) (gu _)
theorem Inv.cne(I:Inv X pins σ H s):∀x c,X.env.cells.lookup x=some c->c≠X.env.locals:=fun x c e z=>by obtain⟨v,o,ho,hd⟩:=I.cell x c e;obtain⟨m,⟨o',es,ep,ho',hd',_⟩,_⟩:=I.loc;rw[z,ho']at ho;cases ho;rw[hd']at hd;cases hd
theorem Inv.Ei(I:Inv X pins σ H s):s.heap.FunFrames X.base X.outer:=by
 have all:∀(l:List Env),(∀b∈qp l,b∈X.fs)->X.s₀.heap.FunFrames X.base l->s.heap.FunFrames X.base l:=by
  intro l
  induction l with
  |nil=>intro _ _;trivial
  |cons env r ih =>
   intro hs hl;obtain⟨hk,⟨L,o,hf,hn,ho,hd⟩,hr⟩:=hl;have hL:L∈X.fs:=hs L (by unfold qp;rw[ll,hf];exact dA);obtain⟨sl,e⟩:=I.base.slot L o ho (I.ok.frf L hL) hL fun z=>I.ok.ahp L z hL;exact⟨hk,⟨L,_,hf,hn,e,hd⟩,ih (fun b hb=>hs b (by unfold qp;rw[ll,hf];exact dS _ hb)) hr⟩
 exact all X.outer (fun _ hb=>hb) I.ok.Ei
theorem Inv.stack(I:Inv X pins σ H s):s.heap.FunFrames X.base X.stack:=by
 rcases I.ok.stk with e|⟨e,hf⟩
 ·rw[e];exact I.Ei
 ·rw[e];obtain⟨m,hn,_⟩:=I.loc;refine .cons (by rw[I.ok.kind];decide) hf hn ?_ I.Ei;exact Heap.get?_none_of_le (cz I.ok.bsz I.ok.above)
theorem Inv.wJ(I:Inv X pins σ H s):∀b∈qp X.stack,b∈X.env.locals::X.fs:=fun b hb=>by
 rcases I.ok.stk with e|⟨e,hf⟩
 ·rw[e]at hb;exact dS _ hb
 ·rw[e]at hb;unfold qp at hb;rw[ll,hf]at hb;exact hb
theorem Inv.Ds(I:Inv X pins σ H s):∀b∈qp X.stack,H b=none:=fun b hb=>by
 rcases bP.mp (I.wJ b hb) with e|hb
 ·rw[e];exact I.free
 ·obtain⟨_,o,ho,_⟩:=I.ok.Ei.mem hb;exact I.base.free b o ho (I.ok.frf b hb) fun z=>I.ok.ahp b z hb
theorem Inv.step{g':Array lr}{t':Nat}{d':Drawn}{ch:List ab}(I:Inv X pins σ H s)
  (hch:∀b∈ch,(b∈X.ex∨X.s₀.heap.objs.size<=b)/\b≠X.env.locals/\(∀x c,X.env.cells.lookup x=some c->c≠b)/\∀p∈X.pn++pins,p.1≠b)
  (keep:∀b o,b≠X.env.locals->b∉X.fs->b∉ch->s.heap.get? b=some o->H b=none->h'.get? b=some o)
  (slot:∀b o,b≠X.env.locals->b∈X.fs->b∉ch->s.heap.get? b=some o->H b=none->∃sl,h'.get? b=some { o with slots:=sl }) (free:∀b o,b∉ch->s.heap.get? b=some o->H b=none->H' b=none)
  (there:∀b o,b∉ch->s.heap.get? b=some o->∃o',h'.get? b=some o')
  (tups:∀b xs,H b=some (.tup xs)->H' b=some (.tup xs)) (Ef:∀b o u,H b=some (.Ik o u)->H' b=some (.Ik o u)) (Il:∀b ps,H b=some (.tbl ps)->∃more,H' b=some (.tbl (ps++more)))
  (ns:∀m,s.heap.Ns X.env.locals m->h'.Ns X.env.locals m) (hok:zK X.prog X.w H' h') (hg:kF g') :
  Inv X pins σ H' { s with heap:=h',gens:=g',drawn:=d',toks:=t' }:=by
 have neL:∀b o,X.s₀.heap.get? b=some o->b≠X.env.locals:=fun b o e=>b_ (et (bq e) I.ok.above);have neC:∀b o,X.s₀.heap.get? b=some o->b∉X.ex->b∉ch:=fun b o e hx hb=>by
  rcases(hch b hb).1 with z|z
  ·exact hx z
  ·exact absurd (et (bq e) z) (gu _)
 have cellK:∀x c,X.env.cells.lookup x=some c->∀v,s.heap.IsCell c v->h'.IsCell c v:=fun x c e v ⟨o,ho,hd⟩=>by
  have nch:c∉ch:=fun z=>(hch c z).2.2.1 x c e rfl;by_cases hc:c∈X.fs
  ·obtain⟨sl,q⟩:=slot c o (I.cne x c e) hc nch ho (I.sW x c e);exact⟨_,q,hd⟩
  ·exact⟨o,keep c o (I.cne x c e) hc nch ho (I.sW x c e),hd⟩
 refine⟨I.ok,I.os,hg,⟨fun b o e n hb hx=>?_,fun b o e n hb hx=>?_,fun b o e n hx=>?_,fun b o e hx=>?_,fun b xs e=>tups b xs (I.base.tups b xs e),fun b o xs e=>Ef b o xs (I.base.Ef b o xs e),fun b ps e=>?_⟩,?_,fun x c e=>?_,?_,fun x c e=>?_,fun p hp=>?_,hok,I.len⟩
 ·exact keep b o (neL b o e) hb (neC b o e hx) (I.base.keep b o e n hb hx) (I.base.free b o e n hx)
 ·obtain⟨sl,e1⟩:=I.base.slot b o e n hb hx;obtain⟨sl',e2⟩:=slot b _ (neL b o e) hb (neC b o e hx) e1 (I.base.free b o e n hx);exact⟨sl',e2⟩
 ·obtain⟨o',e1⟩:=I.base.there b o e hx;exact free b o' (neC b o e hx) e1 (I.base.free b o e n hx)
 ·obtain⟨o',e1⟩:=I.base.there b o e hx;exact there b o' (neC b o e hx) e1
 ·obtain⟨m1,e1⟩:=I.base.Il b ps e;obtain⟨m2,e2⟩:=Il b _ e1;exact⟨m1++m2,by rw[e2,Array.append_assoc]⟩
 ·obtain⟨m,hn,hl⟩:=I.loc;refine⟨m,ns m hn,fun i x v e1 e2 e3=>?_⟩;obtain⟨u,r,l⟩:=hl i x v e1 e2 e3;refine⟨u,r,?_⟩;rcases l with l|⟨k,c,e,z⟩
  ·exact .inl l
  ·exact .inr ⟨k,c,e,cellK x c e _ z⟩
 ·obtain⟨v,z⟩:=I.cell x c e;exact⟨v,cellK x c e v z⟩
 ·obtain⟨m,⟨o,_,_,ho,_⟩,_⟩:=I.loc;exact free _ o (fun z=>(hch _ z).2.1 rfl) ho I.free
 ·obtain⟨v,o,ho,hd⟩:=I.cell x c e;exact free c o (fun z=>(hch c z).2.2.1 x c e rfl) ho (I.sW x c e)
 ·obtain⟨e,n,ne,nf,d⟩:=I.pin p hp;have nch:p.1∉ch:=fun z=>(hch p.1 z).2.2.2 p hp rfl;exact⟨keep p.1 p.2 ne nf nch e n,free p.1 p.2 nch e n,ne,nf,d⟩
theorem Inv.un{t':Nat}(I:Inv X pins σ H s)(u:Un X.fs [] H H' s.heap h')(hok:zK X.prog X.w H' h'):Inv X pins σ H' { s with heap:=h',toks:=t' }:=by
 obtain⟨m,⟨o,es,ep,ho,r⟩,_⟩:=id I.loc;obtain⟨sl,hL⟩:=u.any ho I.free (by simp);exact I.step (g':=s.gens) (d':=s.drawn) (ch:=[]) (fun _ z=>nomatch z) (fun b o _ hb _ e n=>u.keep b o e n hb (by simp)) (fun b o _ hb _ e n=>u.slot b o e n hb (by simp)) (fun b o _ e n=>u.free b o e n (by simp)) (fun b o _ e=>u.there b o e (by simp)) u.tups u.Ef u.Il (fun m' hm=>by
  obtain⟨o',es',ep',ho',r'⟩:=hm;rw[ho]at ho';cases ho';exact⟨_,es',ep',hL,r'⟩) hok I.bare
theorem Inv.call{g':Array lr}{t':Nat}{d':Drawn}{ch:List ab}(I:Inv X pins σ H s)(u:Un (qp X.stack) ch H H' s.heap h')(hok:zK X.prog X.w H' h')(hg:kF g')
  (hch:∀b∈ch,(b∈X.ex∨X.s₀.heap.objs.size<=b)/\b≠X.env.locals/\(∀x c,X.env.cells.lookup x=some c->c≠b)/\∀p∈X.pn++pins,p.1≠b) :
  Inv X pins σ H' { s with heap:=h',gens:=g',drawn:=d',toks:=t' }:=by
 obtain⟨m,⟨o,es,ep,ho,r⟩,_⟩:=id I.loc;obtain⟨sl,hL⟩:=u.any ho I.free fun z=>(hch _ z).2.1 rfl;exact I.step (ch:=ch) hch (fun b o hL hb hc e n=>u.keep b o e n (fun z=>(bP.mp (I.wJ b z)).elim hL hb) hc) (fun b o _ _ hc e n=>u.any e n hc) (fun b o hc e n=>u.free b o e n hc) (fun b o hc e=>u.there b o e hc) u.tups u.Ef u.Il (fun m' hm=>by
  obtain⟨o',es',ep',ho',r'⟩:=hm;rw[ho]at ho';cases ho';exact⟨_,es',ep',hL,r'⟩) hok hg
theorem Inv.turned{t':Nat}{it:ab}(I:Inv X pins σ H s)(k:∀b o,b≠it->s.heap.get? b=some o->h'.get? b=some o)(hn:H it=none)(hL:it≠X.env.locals)
  (h1:it∈X.ex∨X.s₀.heap.objs.size<=it) (h2:∀x c,X.env.cells.lookup x=some c->c≠it) (h3:∀p∈X.pn++pins,p.1≠it):Inv X pins σ H { s with heap:=h',toks:=t' }:=by
 have nit:∀b u,H b=some u->b≠it:=fun b u e z=>by rw[z,hn]at e;cases e
 refine I.step (g':=s.gens) (d':=s.drawn) (ch:=[it]) (fun b hb=>?_) (fun b o _ _ hc e _=>k b o (fun z=>hc (by simp[z])) e) (fun b o _ _ hc e _=>⟨o.slots,k b o (fun z=>hc (by simp[z])) e⟩) (fun _ _ _ _ n=>n)
  (fun b o hc e=>⟨o,k b o (fun z=>hc (by simp[z])) e⟩) (fun _ _ e=>e) (fun _ _ _ e=>e) (fun b ps e=>⟨#[],by rw[e];simp⟩) (fun m hm=>?_) (fun b u e=>?_) I.bare
 ·have e:b=it:=by simpa using hb
  subst e;exact⟨h1,hL,h2,h3⟩
 ·obtain⟨o,es,ep,ho,r⟩:=hm;exact⟨o,es,ep,k _ o (dQ hL) ho,r⟩
 ·refine(I.hok b u e).stay (fun c v hc q=>k c v ?_ q) (fun _ q=>q) (fun _ _ q=>q) fun _ _ q=>q;rcases hc with z|z
  ·rw[z];exact nit b u e
  ·exact nit c _ z
theorem Inv.tok(I:Inv X pins σ H s)(t:Nat):Inv X pins σ H { s with toks:=t }:=I.un (h':=s.heap) (t':=t) Un.refl I.hok
theorem Inv.kept{t':Nat}(I:Inv X pins σ H s)(k:∀b u,s.heap.get? b=some u->h'.get? b=some u):Inv X pins σ H { s with heap:=h',toks:=t' }:=I.un (Un.kept k) (I.hok.kept k)
theorem Inv.laid{a:ab}{o:HO}{t':Nat}(I:Inv X pins σ H s)(k:∀b u,s.heap.get? b=some u->h'.get? b=some u)(hp:s.heap.objs.size<=a)(new:fY X.prog X.w (upd H a o) h' a o) :
  Inv X pins σ (upd H a o) { s with heap:=h',toks:=t' }:=I.un (Un.laid k hp (I.hok.fresh hp)) (I.hok.laid k hp new)
theorem Inv.write{x e:ab}{o:HO}{t':Nat}(I:Inv X pins σ H s)(mu:Mut (H x))(he:e=x∨H e=some (.own x))(k:∀b u,b≠e->s.heap.get? b=some u->h'.get? b=some u)(heo:∃u,h'.get? e=some u)
  (new:fY X.prog X.w (upd H x o) h' x o):Inv X pins σ (upd H x o) { s with heap:=h',toks:=t' }:=I.un (Un.write mu he k heo) (I.hok.write mu he k heo new)
theorem Inv.Dt{ajH:List (ab×Obj)}(I:Inv X pins σ H s)(h:∀p∈ajH,s.heap.get? p.1=some p.2/\H p.1=none/\p.1≠X.env.locals/\p.1∉X.fs/\∀v,p.2.data≠.cell v):Inv X ajH σ H s :=
 ⟨I.ok,I.os,I.bare,I.base,I.loc,I.cell,I.free,I.sW,fun p hp=>(du.mp hp).elim (fun z=>I.pin p (j7 _ z)) (h p),I.hok,I.len⟩
theorem RT{N:List Str}(hN:N.Nodup){i j:Nat}{x:Str}(a:N[i]?=some x)(b:N[j]?=some x):i=j:=by obtain⟨h1,e1⟩:=dC.mp a;obtain⟨h2,e2⟩:=dC.mp b;exact(List.getElem_inj hN).mp (e1.trans e2.symm)
theorem Kl{M:Model}{A:aS}{E:aa->ae->Prop}{i:Nat}{x:Str}{v:V}{u:aa}{Q:Unit->ae->Prop}(I:Inv X pins σ H s)(hN:X.N.Nodup)(hi:X.N[i]?=some x)(hx:Mu X.env.scope x)(r:RelV v u)
  (h:∀s',Inv X pins (σ.set i (some v)) H s'->(∃a,eK a s.heap s'.heap/\(a=X.env.locals∨X.env.cells.lookup x=some a))->Q () s') (hf:X.fn x=true∨X.env.scope.names.lookup x=some .local:=by first|exact .inl rfl|exact .inr rfl|assumption):ah M A (storeName X.env x u) Q E s:=by
 obtain⟨m,hn,hl⟩:=id I.loc;have hcls:(X.env.scope.kind == .class || (X.env.scope.kind == .module && X.env.locals != X.env.globals))=false:=by rw[I.ok.kind];rfl
 have hiσ:i < σ.length:=by rw[I.len];exact(dC.mp hi).1
 have cne:=I.cne;have tracked:∀{a:ab}{h':Heap},(∃o,s.heap.get? a=some o/\H a=none)->eK a s.heap h'->zK X.prog X.w H h':=fun {a h'} ha hs b ob e=>by
  obtain⟨_,_,hfree⟩:=ha;refine(I.hok b ob e).stay (fun c w' hc q=>(hs.2 c ?_).trans q) (fun _ q=>q) (fun _ _ q=>q) fun _ _ q=>q;rintro rfl;rcases hc with rfl|hc
  ·rw[hfree]at e;cases e
  ·rw[hfree]at hc;cases hc
 rcases hx with hk|hk
 ·refine wpAny_storeName_local hk hn (fun h' hn' hs=>?_) hcls;obtain⟨oL,_,_,hoL,_⟩:=id hn;refine h _ ⟨I.ok,I.os,I.bare,⟨fun b o e n hb hx=>?_,fun b o e n hb hx=>?_,I.base.free,fun b o e hx=>?_,I.base.tups,I.base.Ef,I.base.Il⟩,⟨_,hn',fun j y v' e1 e2 e3=>?_⟩,fun y c e=>?_,I.free,I.sW,fun p hp=>?_,tracked ⟨oL,hoL,I.free⟩ hs,by simpa using I.len⟩ ⟨_,hs,.inl rfl⟩
  ·exact(hs.2 b (b_ (et (bq e) I.ok.above))).trans (I.base.keep b o e n hb hx)
  ·obtain⟨sl,e1⟩:=I.base.slot b o e n hb hx;exact⟨sl,(hs.2 b (b_ (et (bq e) I.ok.above))).trans e1⟩
  ·obtain⟨o',e1⟩:=I.base.there b o e hx;exact⟨o',(hs.2 b (b_ (et (bq e) I.ok.above))).trans e1⟩
  ·by_cases hj:j=i
   ·subst hj;rw[hi]at e1;cases e1;rw[dE hiσ]at e2;cases e2;exact⟨u,r,.inl ⟨hk,by simp⟩⟩
   ·rw[de (dQ hj)]at e2;obtain⟨u',r',q⟩:=hl j y v' e1 e2 e3;refine⟨u',r',?_⟩;rcases q with ⟨k,e⟩|⟨k,c,e,z⟩
    ·refine .inl ⟨k,?_⟩;have:y≠x:=fun e=>hj (RT hN e1 (e▸hi));simp[this,e]
    ·exact .inr ⟨k,c,e,z.sameBut hs (cne y c e)⟩
  ·obtain⟨w',z⟩:=I.cell y c e;exact⟨w',z.sameBut hs (cne y c e)⟩
  ·obtain⟨e,n,ne,nf,d⟩:=I.pin p hp;exact⟨(hs.2 p.1 ne).trans e,n,ne,nf,d⟩
 ·have hfn:X.fn x=true:=by
   rcases hf with z|z
   ·exact z
   ·rw[z]at hk;cases hk
  obtain⟨c,hc⟩:=I.ok.has x (.inl hk);obtain⟨w',z⟩:=I.cell x c hc;refine wpAny_storeName_cell I.ok.kind hk hc z (fun h' hc' hs=>?_);obtain⟨oc,hoc,aqk⟩:=id z;refine h { s with heap:=h' } ⟨I.ok,I.os,I.bare,⟨fun b o e n hb hx=>?_,fun b o e n hb hx=>?_,I.base.free,fun b o e hx=>?_,I.base.tups,I.base.Ef,I.base.Il⟩,⟨m,hn.sameBut hs (dQ (cne x c hc)),fun j y v' e1 e2 e3=>?_⟩,fun y c' e=>?_,I.free,I.sW,fun p hp=>?_,tracked ⟨oc,hoc,I.sW x c hc⟩ hs,by simpa using I.len⟩ ⟨c,hs,.inr hc⟩
  ·exact(hs.2 b (b_ (et (bq e) (I.ok.cab x c hfn hc)))).trans (I.base.keep b o e n hb hx)
  ·obtain⟨sl,e1⟩:=I.base.slot b o e n hb hx;exact⟨sl,(hs.2 b (b_ (et (bq e) (I.ok.cab x c hfn hc)))).trans e1⟩
  ·obtain⟨o',e1⟩:=I.base.there b o e hx;exact⟨o',(hs.2 b (b_ (et (bq e) (I.ok.cab x c hfn hc)))).trans e1⟩
  ·by_cases hj:j=i
   ·subst hj;rw[hi]at e1;cases e1;rw[dE hiσ]at e2;cases e2;exact⟨u,r,.inr ⟨.inl hk,c,hc,hc'⟩⟩
   ·rw[de (dQ hj)]at e2;obtain⟨u',r',q⟩:=hl j y v' e1 e2 e3;refine⟨u',r',?_⟩;rcases q with q|⟨k,c',e,z'⟩
    ·exact .inl q
    ·refine .inr ⟨k,c',e,z'.sameBut hs ?_⟩;rintro rfl;exact hj (RT hN e1 (I.ok.inj _ _ _ e hc▸hi))
  ·by_cases hcc:c'=c
   ·subst hcc;exact⟨_,hc'⟩
   ·obtain⟨w2,z2⟩:=I.cell y c' e;exact⟨w2,z2.sameBut hs hcc⟩
  ·obtain⟨e,n,ne,nf,d⟩:=I.pin p hp;refine⟨(hs.2 p.1 ?_).trans e,n,ne,nf,d⟩;intro q;rw[q,hoc]at e;have q':oc=p.2:=c9 e;exact d w' (by rw[<- q'];exact aqk)
theorem RV{M:Model}{A:aS}{E:aa->ae->Prop}{i:Nat}{x:Str}{v:V}{u:aa}{Q:Unit->ae->Prop}(I:Inv X pins σ H s)(hN:X.N.Nodup)(hi:X.N[i]?=some x)(hx:Mu X.env.scope x)(r:RelV v u)
  (h:∀s',Inv X pins (σ.set i (some v)) H s'->Q () s') (hf:X.fn x=true∨X.env.scope.names.lookup x=some .local:=by first|exact .inl rfl|exact .inr rfl|assumption):ah M A (storeName X.env x u) Q E s :=
 Kl I hN hi hx r (fun s' I' _=>h s' I') hf
theorem Inv.call'{s':ae}{ch:List ab}(I:Inv X pins σ H s)(ho:s'.os=s.os)(u:Un (qp X.stack) ch H H' s.heap s'.heap)(hok:zK X.prog X.w H' s'.heap)(hg:kF s'.gens)
  (hch:∀b∈ch,(b∈X.ex∨X.s₀.heap.objs.size<=b)/\b≠X.env.locals/\(∀x c,X.env.cells.lookup x=some c->c≠b)/\∀p∈X.pn++pins,p.1≠b):Inv X pins σ H' s':=by
 obtain⟨h',g',d',t',o'⟩:=s';have e:o'=s.os:=ho;subst e;exact I.call (g':=g') (t':=t') (d':=d') u hok hg hch
end
abbrev XK:=aa->Option ab->Hp->Prop
abbrev St:=List (Option V)
abbrev VK:=V->Hp->Prop
abbrev TE:=St->Hp->VK->Prop
abbrev TT:=St->Hp->(Bool->Hp->Prop)->Prop
abbrev TA:=St->Hp->(List V->Hp->Prop)->Prop
structure Ends where
 nx:St->Hp->Prop
 rt:VK
 bk:St->Hp->Prop:=fun _ _=>False
 ct:St->Hp->Prop:=fun _ _=>False
abbrev TS:=Ends->St->Hp->Prop
def EP(X:Cx)(pins:List (ab×Obj))(σ:St)(Q:VK)(u:aa)(s':ae):Prop:=∃v H',Inv X pins σ H' s'/\RelV v u/\Q v H'
def TP(X:Cx)(pins:List (ab×Obj))(σ:St)(Q:Bool->Hp->Prop)(b:Bool)(s':ae):Prop:=∃H',Inv X pins σ H' s'/\Q b H'
def AP(X:Cx)(pins:List (ab×Obj))(σ:St)(Q:List V->Hp->Prop)(us:List aa)(s':ae):Prop:=∃vs H',Inv X pins σ H' s'/\Vals vs us/\Q vs H'
def SP(X:Cx)(pins:List (ab×Obj))(D:Ends)(f:Flow)(s':ae):Prop :=
 match f with
 | .next=>∃σ' H',Inv X pins σ' H' s'/\D.nx σ' H'
 | .brk=>∃σ' H',Inv X pins σ' H' s'/\D.bk σ' H'
 | .cont=>∃σ' H',Inv X pins σ' H' s'/\D.ct σ' H'
 | .ret u=>∃v σ' H',Inv X pins σ' H' s'/\RelV v u/\D.rt v H'
def PE(X:Cx)(e:ag)(t:TE):Prop :=
 ∀(pins:List (ab×Obj)) (s:ae) (σ:St) (H:Hp) (Q:VK),Inv X pins σ H s->t σ H Q->ah (ar X.prog X.w) X.A (a_ e X.env) (EP X pins σ Q) X.xe s
def PT(X:Cx)(e:ag)(t:TT):Prop :=
 ∀(pins:List (ab×Obj)) (s:ae) (σ:St) (H:Hp) (Q:Bool->Hp->Prop),Inv X pins σ H s->t σ H Q->ah (ar X.prog X.w) X.A (isTrue e X.env (a_ e X.env)) (TP X pins σ Q) X.xe s
def PW(X:Cx)(e:ag)(t:TT):Prop :=
 ∀(whole:Sem aa) (pins:List (ab×Obj)) (s:ae) (σ:St) (H:Hp) (Q:Bool->Hp->Prop),Inv X pins σ H s->t σ H Q->ah (ar X.prog X.w) X.A (isTrue e X.env whole) (TP X pins σ Q) X.xe s
theorem PW.pt{X:Cx}{e:ag}{t:TT}(h:PW X e t):PT X e t:=h _
def PA(X:Cx)(es:List ag)(t:TA):Prop :=
 ∀(pos:Pos) (pins:List (ab×Obj)) (s:ae) (σ:St) (H:Hp) (Q:List V->Hp->Prop),Inv X pins σ H s->t σ H Q->ah (ar X.prog X.w) X.A (spliced (di pos (ba es X.env))) (AP X pins σ Q) X.xe s
def PS(X:Cx)(st:bj)(t:TS):Prop :=
 ∀(pins:List (ab×Obj)) (s:ae) (σ:St) (H:Hp) (D:Ends),Inv X pins σ H s->t D σ H->ah (ar X.prog X.w) X.A (exec st X.env) (SP X pins D) X.xe s
def Xw(X:Cx)(st:List bj)(t:TS):Prop :=
 ∀(pins:List (ab×Obj)) (s:ae) (σ:St) (H:Hp) (D:Ends),Inv X pins σ H s->t D σ H->ah (ar X.prog X.w) X.A (execs st X.env) (SP X pins D) X.xe s
theorem jc{α:Type}{t:Sem α}{Q Q':α->ae->Prop}{M:Model}{A:aS}{E:aa->ae->Prop}{s:ae}(h:ah M A t Q E s)(hQ:∀a s,Q a s->Q' a s):ah M A t Q' E s:=d6 h hQ fun _ _ x=>x
section
variable{X:Cx}
def RW(i:Nat):TE:=fun σ H Q=>∃v,σ[i]?=some (some v)/\Q v H
def tC(v:V):TE:=fun _ H Q=>Q v H
theorem jq{i:Nat}{x:Str}{pos:Pos}(hN:X.N[i]?=some x) (hv:RL X.env.scope x) (hd:(x == ("__debug__":Str))=false:=by decide) (hcd:(x == ("__classdict__":Str))=false:=by decide):PE X (.Name x pos) (RW i):=by
 intro pins s σ H Q I h;obtain⟨v,e,h⟩:=h;obtain⟨m,hn,hl⟩:=I.loc;obtain⟨u,r,l⟩:=hl i x v hN e hv;have gB:EP X pins σ Q u s:=⟨v,H,I,r,h⟩
 rcases l with ⟨hk,hm⟩|⟨hk,c,hc,hcell⟩
 ·exact wpAny_Name (wpAny_loadName_local I.ok.kind hk hn hm gB) hd
 ·rcases hk with hk|hk
  ·exact wpAny_Name (wpAny_loadName_cell I.ok.kind hk hc hcell gB) hd
  ·exact wpAny_Name (wpAny_loadName_free I.ok.kind hk hc hcell gB hcd) hd
theorem aky{i j pos}:PE X (.Constant (.int i) j pos) (tC (.int i)):=fun _ _ _ H _ I h=>wpAny_Constant_int ⟨.int i,H,I.tok _,⟨_,rfl⟩,h⟩
theorem ano{b j pos}:PE X (.Constant (.bool b) j pos) (tC (.bl b)):=fun _ _ _ H _ I h=>Constant_bool ⟨.bl b,H,I,rfl,h⟩
def Gl(X:Cx)(x:Str):Prop:=X.env.kindOf x=some .globalImplicit
theorem aac{E:aa->ae->Prop}{pins:List (ab×Obj)}{s:ae}{σ:St}{H:Hp}{x:Str}{u:aa}{pos:Pos}{Q:aa->ae->Prop}(I:Inv X pins σ H s)(hg:Gl X x)(hm:X.mg x=some u)(h:Q u s)
  (hd:(x == ("__debug__":Str))=false:=by decide):ah (ar X.prog X.w) X.A (a_ (.Name x pos) X.env) Q E s :=
 Calls.Name_function_global I.ok.kind hg (Calls.loadGlobal_global (by rw[I.ok.glob];exact I.mod.glob.keeps I.bk) hm h) hd
theorem wK{E:aa->ae->Prop}{pins:List (ab×Obj)}{s:ae}{σ:St}{H:Hp}{x:Str}{u:aa}{pos:Pos}{Q:aa->ae->Prop}(I:Inv X pins σ H s)(hg:Gl X x)(hm:X.mg x=none)(hv:hG x=some u)(h:Q u s)
  (hn:x≠"__name__":=by decide) (hd:(x == ("__debug__":Str))=false:=by decide):ah (ar X.prog X.w) X.A (a_ (.Name x pos) X.env) Q E s:=by
 obtain⟨mb,h1,h2⟩:=I.mod.blt;exact Calls.Name_function_global I.ok.kind hg (Calls.loadGlobal_builtin (by rw[I.ok.glob];exact I.mod.glob.keeps I.bk) hm (by rw[I.ok.blt];exact h1.keeps I.bk) ((h2 x hn).trans hv) h) hd
theorem ahq{x:Str}{v:V}{u:aa}{pos:Pos}(hg:Gl X x) (hm:X.mg x=none) (hv:hG x=some u) (r:RelV v u) (hn:x≠"__name__":=by decide) (hd:(x == ("__debug__":Str))=false:=by decide):PE X (.Name x pos) (tC v) :=
 fun _ _ _ H _ I h=>wK I hg hm hv ⟨v,H,I,r,h⟩ hn hd
variable{a b:ag}{ta tb:TE}{pos:Pos}
def tB(t:TE):TT:=fun σ H Q=>t σ H fun x H1=>∃c,x=.bl c/\Q c H1
theorem akz{e:ag}{t:TE}(h:PE X e t)(he:∀whole,isTrue e X.env whole=(do let v <- whole;kG e.pos;d3 [v] (truthy v)):=by intro _;rfl):PT X e (tB t):=by intro pins s σ H Q I hw;refine isTrue_plain (jc (h pins s σ H _ I hw) fun v s1 ⟨x,H1,I1,r1,q1⟩=>?_) (he _);obtain⟨d,rfl,q⟩:=q1;cases r1;exact ls ⟨H1,I1,q⟩
variable{tA tB':TT}{rest:List ag}
def aql(t u:TT):TT:=fun σ H Q=>t σ H fun c H1=>if c=true then u σ H1 Q else Q false H1
def tOr(t u:TT):TT:=fun σ H Q=>t σ H fun c H1=>if c=true then Q true H1 else u σ H1 Q
def aqm(t:TT):TT:=fun σ H Q=>t σ H fun c H1=>Q (!c) H1
theorem ahr(ha:PT X a tA):PW X (.BoolOp .And [a] pos) tA:=by
 intro wh pins s σ H Q I h;refine isTrue_and (jc (ha pins s σ H Q I h) fun c s1 e=>?_);cases c with
 |true=>exact isTrue_and_nil e
 |false=>exact e
theorem akA(ha:PT X a tA):PW X (.BoolOp .Or [a] pos) tA:=by
 intro wh pins s σ H Q I h;refine isTrue_or (jc (ha pins s σ H Q I h) fun c s1 e=>?_);cases c with
 |false=>exact isTrue_or_nil e
 |true=>exact e
theorem akB(ha:PT X a tA)(hb:PW X (.BoolOp .And (b::rest) pos) tB'):PW X (.BoolOp .And (a::b::rest) pos) (aql tA tB'):=by
 intro wh pins s σ H Q I h;refine isTrue_and (jc (ha pins s σ H _ I h) fun c s1 fZ=>?_);obtain⟨H1,I1,q1⟩:=fZ;cases c with
 |true=>exact hb wh pins s1 σ H1 Q I1 q1
 |false=>exact⟨H1,I1,q1⟩
theorem anp(ha:PT X a tA)(hb:PW X (.BoolOp .Or (b::rest) pos) tB'):PW X (.BoolOp .Or (a::b::rest) pos) (tOr tA tB'):=by
 intro wh pins s σ H Q I h;refine isTrue_or (jc (ha pins s σ H _ I h) fun c s1 fZ=>?_);obtain⟨H1,I1,q1⟩:=fZ;cases c with
 |true=>exact⟨H1,I1,q1⟩
 |false=>exact hb wh pins s1 σ H1 Q I1 q1
theorem akC(ha:PT X a tA):PT X (.UnaryOp .Not a pos) (aqm tA):=by intro pins s σ H Q I h;exact isTrue_not (ha pins s σ H (fun c H1=>Q (!c) H1) I h)
def anq(ta tb:TE):TE:=fun σ H Q=>ta σ H fun x H1=>∃c,x=.bl c/\if c=true then tb σ H1 Q else Q (.bl false) H1
def anr(ta:TE):TE:=fun σ H Q=>ta σ H fun x H1=>∃c,x=.bl c/\Q (.bl (!c)) H1
theorem akD{op}{t:TE}(h:PE X a t):PE X (.BoolOp op [a] pos) t:=fun pins s σ H Q I hw=>BoolOp_one (h pins s σ H Q I hw)
theorem akE(ha:PE X a ta)(hb:PE X (.BoolOp .And (b::rest) pos) tb):PE X (.BoolOp .And (a::b::rest) pos) (anq ta tb):=by
 intro pins s σ H Q I h;refine BoolOp_and (jc (ha pins s σ H _ I h) fun v s1 fZ=>?_);obtain⟨x,H1,I1,r1,q1⟩:=fZ;obtain⟨c,rfl,q1⟩:=q1;cases r1;refine ls ?_;cases c with
 |true=>exact hb pins s1 σ H1 Q I1 q1
 |false=>exact⟨.bl false,H1,I1,rfl,q1⟩
theorem akF(ha:PE X a ta):PE X (.UnaryOp .Not a pos) (anr ta):=by intro pins s σ H Q I h;refine UnaryOp_ (jc (ha pins s σ H _ I h) fun v s1 fZ=>?_);obtain⟨x,H1,I1,r1,q1⟩:=fZ;obtain⟨c,rfl,q1⟩:=q1;cases r1;exact not_of (ls ⟨.bl (!c),H1,I1,rfl,q1⟩)
end
def tL(K:ai)(H:Hp)(a:ab)(xs:List V):Prop :=
 Rd H a (.lst xs) ∨
  ∃(o:Obj) (its:Array aa) (n:Nat),K.lookup a=some o/\o.cls=.type "list"/\o.dict=none/\o.data=.seq its n/\its.size<=sizeLine/\Vals xs its.toList
def pR(K:ai)(H:Hp)(a:ab)(xs:List V):Prop :=
 Rd H a (.tup xs) ∨
  ∃(o:Obj) (its:Array aa) (n:Nat),K.lookup a=some o/\o.cls=.type "tuple"/\o.data=.seq its n/\its.size<=sizeLine/\Vals xs its.toList
def aqn:aa->Option V
 | .none=>some .non
 | .bool b=>some (.bl b)
 | .int i _=>some (.int i)
 | .str x _=>some (.str x)
 | .bytes b _=>some (.byt b)
 | .float b _=>some (.flt b)
 | .ref a=>some (.ref a)
 | .type n=>some (.ty n)
 |_=>none
theorem RelV.abs{x:V}{u:aa}(r:RelV x u):aqn u=some x:=by
 cases x with
 |non=>cases r;rfl
 |bl _=>cases r;rfl
 |int _=>obtain⟨t,rfl⟩:=r;rfl
 |str _=>obtain⟨t,rfl⟩:=r;rfl
 |byt _=>obtain⟨t,rfl⟩:=r;rfl
 |flt _=>obtain⟨t,rfl⟩:=r;rfl
 |ref _=>cases r;rfl
 |ty _=>cases r;rfl
theorem RelV.inj{x y:V}{u:aa}(r:RelV x u)(q:RelV y u):x=y:=c9 (r.abs.symm.trans q.abs)
theorem Vals.inj:∀{xs ys:List V}{us:List aa},Vals xs us->Vals ys us->xs=ys
 |_,_,_,.nil,.nil=>rfl
 |_,_,_,.cons r t,.cons r' t'=>by rw[r.inj r',Vals.inj t t']
section
variable{X:Cx}{pins:List (ab×Obj)}{σ:St}{H:Hp}{s:ae}{a:ab}{xs ys:List V}
theorem tL.of{K:ai}(h:H a=some (.lst xs)):tL K H a xs:=.inl (.inl h)
theorem pR.of{K:ai}(h:H a=some (.tup xs)):pR K H a xs:=.inl (.inl h)
theorem Inv.list(I:Inv X pins σ H s)(h:tL X.K H a xs):∃its:List aa,Vals xs its/\PlainL s.heap a its.toArray/\xs.length<=sizeLine:=by
 rcases h with h|⟨o,its,n,hk,hc,hd,hs,hz,r⟩
 ·obtain⟨z,its,n,r,e⟩:=h.ok I.hok;exact⟨its,r,⟨_,n,e,rfl,rfl,rfl⟩,z⟩
 ·refine⟨its.toList,r,⟨o,n,I.Xq a o hk,hc,hd,by simpa using hs⟩,?_⟩;have e:=r.length;simp only[iF]at e;lia
theorem Inv.tuple(I:Inv X pins σ H s)(h:pR X.K H a xs):∃its:List aa,Vals xs its/\kD s.heap a its.toArray/\xs.length<=sizeLine:=by
 rcases h with h|⟨o,its,n,hk,hc,hs,hz,r⟩
 ·obtain⟨z,its,r,p⟩:=h.ok I.hok;exact⟨its,r,p,z⟩
 ·refine⟨its.toList,r,⟨o,I.Xq a o hk,hc,n,by simpa using hs⟩,?_⟩;have e:=r.length;simp only[iF]at e;lia
theorem Inv.RZ(I:Inv X pins σ H s)(h:tL X.K H a xs)(h':tL X.K H a ys):xs=ys:=by
 obtain⟨its,r,⟨o,n,e,_,_,d⟩,_⟩:=I.list h;obtain⟨its',r',⟨o',n',e',_,_,d'⟩,_⟩:=I.list h';rw[e]at e';cases e';rw[d]at d';injection d' with d1 _;have:its=its':=by simpa using congrArg Array.toList d1
 subst this;exact r.inj r'
theorem Inv.zL(I:Inv X pins σ H s)(h:pR X.K H a xs)(h':pR X.K H a ys):xs=ys:=by
 obtain⟨its,r,⟨o,e,_,n,d⟩,_⟩:=I.tuple h;obtain⟨its',r',⟨o',e',_,n',d'⟩,_⟩:=I.tuple h';rw[e]at e';cases e';rw[d]at d';injection d' with d1 _;have:its=its':=by simpa using congrArg Array.toList d1
 subst this;exact r.inj r'
end
abbrev Cx.wish(X:Cx)(E:aa->ae->Prop):Cx:={ X with xe:=E }
abbrev Cx.nox(X:Cx):Cx:=X.wish fun _ _=>False
theorem Cx.Ok.wish{X:Cx}(ok:X.Ok)(E:aa->ae->Prop):(X.wish E).Ok :=
 ⟨ok.mod,ok.kind,ok.glob,ok.blt,ok.above,ok.inj,ok.has,ok.cab,ok.hd,ok.frames,ok.stk,ok.exf,ok.bs,ok.bsz,ok.abu,ok.ahp,ok.Ei,ok.frf⟩
theorem Cx.Ok.tR{X:Cx}{E:aa->ae->Prop}(ok:(X.wish E).Ok):X.Ok :=
 ⟨ok.mod,ok.kind,ok.glob,ok.blt,ok.above,ok.inj,ok.has,ok.cab,ok.hd,ok.frames,ok.stk,ok.exf,ok.bs,ok.bsz,ok.abu,ok.ahp,ok.Ei,ok.frf⟩
section
variable{X:Cx}{pins:List (ab×Obj)}{σ:St}{H:Hp}{s:ae}{E:aa->ae->Prop}
theorem Inv.wish(I:Inv X pins σ H s)(E:aa->ae->Prop):Inv (X.wish E) pins σ H s:=⟨I.ok.wish E,I.os,I.bare,I.base,I.loc,I.cell,I.free,I.sW,I.pin,I.hok,I.len⟩
theorem Inv.tR(I:Inv (X.wish E) pins σ H s):Inv X pins σ H s:=⟨I.ok.tR,I.os,I.bare,I.base,I.loc,I.cell,I.free,I.sW,I.pin,I.hok,I.len⟩
theorem SP.tR{D:Ends}{f:Flow}{s':ae}(h:SP (X.wish E) pins D f s'):SP X pins D f s':=by
 cases f with
 |next=>obtain⟨σ',H',I,q⟩:=h;exact⟨σ',H',I.tR,q⟩
 |brk=>obtain⟨σ',H',I,q⟩:=h;exact⟨σ',H',I.tR,q⟩
 |cont=>obtain⟨σ',H',I,q⟩:=h;exact⟨σ',H',I.tR,q⟩
 |ret u=>obtain⟨v,σ',H',I,r,q⟩:=h;exact⟨v,σ',H',I.tR,r,q⟩
end
section
variable{X:Cx}{st:bj}{rest:List bj}{t u:TS}{e:ag}{te:TE}{pos:Pos}
def anu:TS:=fun D σ H=>D.nx σ H
def aqo(t u:TS):TS:=fun D σ H=>t { D with nx:=u D } σ H
theorem ahs:Xw X [] anu:=fun _ _ σ H _ I h=>sD ⟨σ,H,I,h⟩
theorem adA(h1:PS X st t)(h2:Xw X rest u):Xw X (st::rest) (aqo t u):=by
 intro pins s σ H D I h;refine wpAny_execs_cons (jc (h1 pins s σ H { D with nx:=u D } I h) fun f s1 q=>?_);cases f with
 |next =>
  obtain⟨σ',H',I',q⟩:=q;exact h2 pins s1 σ' H' D I' q
 |ret v=>exact q
 |brk=>exact q
 |cont=>exact q
theorem aht(h1:PS X st t):Xw X [st] t:=by
 intro pins s σ H D I h;refine wpAny_execs_cons (jc (h1 pins s σ H D I h) fun f s1 q=>?_);cases f with
 |next=>exact sD q
 |ret v=>exact q
 |brk=>exact q
 |cont=>exact q
theorem Inv.quiet{pins:List (ab×Obj)}{σ:St}{H:Hp}{s:ae}(I:Inv X pins σ H s):interactive X.env=false:=by simp[interactive,I.ok.kind]
def anv(te:TE):TS:=fun D σ H=>te σ H fun _ H1=>D.nx σ H1
theorem aad(he:PE X e te)(hs:eL e none pos.line X.env=pure false:=by rfl):PS X (.Expr e pos) (anv te):=by intro pins s σ H D I h;exact wpAny_Expr_any (jc (he pins s σ H _ I h) fun v s1 ⟨x,H1,I1,r1,q1⟩=>⟨σ,H1,I1,q1⟩) I.quiet hs
def aqp(te:TE):TS:=fun D σ H=>te σ H D.rt
theorem Xx(he:PE X e te):PS X (.Return (some e) pos) (aqp te):=by intro pins s σ H D I h;exact wpAny_Return_some (jc (he pins s σ H _ I h) fun v s1 ⟨x,H1,I1,r1,q1⟩=>⟨x,σ,H1,I1,r1,q1⟩)
def aqq(c:TT)(t u:TS):TS:=fun D σ H=>c σ H fun b H1=>if b=true then t D σ H1 else u D σ H1
theorem ajI{c:ag}{a b:List bj}{tc:TT}(hc:PT X c tc)(ha:Xw X a t)(hb:Xw X b u):PS X (.If c a b pos) (aqq tc t u):=by
 intro pins s σ H D I h;refine wpAny_If (jc (hc pins s σ H _ I h) fun d s1 fZ=>?_);obtain⟨H1,I1,q1⟩:=fZ;cases d with
 |true=>exact ha pins s1 σ H1 D I1 q1
 |false=>exact hb pins s1 σ H1 D I1 q1
end
abbrev TG:=V->St->Hp->(St->Hp->Prop)->Prop
abbrev TGs:=List V->St->Hp->(St->Hp->Prop)->Prop
def PG(X:Cx)(target:ag)(t:TG):Prop :=
 ∀(pins:List (ab×Obj)) (s:ae) (σ:St) (H:Hp) (v:V) (u:aa) (Q:St->Hp->Prop),Inv X pins σ H s->RelV v u->t v σ H Q ->
  ah (ar X.prog X.w) X.A (assign target X.env u) (fun _ s'=>∃σ' H',Inv X pins σ' H' s'/\Q σ' H') X.xe s
def PGs(X:Cx)(ts:List ag)(t:TGs):Prop :=
 ∀(pins:List (ab×Obj)) (s:ae) (σ:St) (H:Hp) (vs:List V) (us:List aa) (Q:St->Hp->Prop),Inv X pins σ H s->Vals vs us->t vs σ H Q ->
  ah (ar X.prog X.w) X.A (assignInOrder ((d4 ts X.env).map (·.2)) us) (fun _ s'=>∃σ' H',Inv X pins σ' H' s'/\Q σ' H') X.xe s
abbrev ahv:=V->V->V->Hp->(Hp->Prop)->Prop
def akG(X:Cx)(t:ahv):Prop :=
 ∀(pins:List (ab×Obj)) (s:ae) (σ:St) (H:Hp) (o i v:V) (ov iv u:aa) (Q:Hp->Prop),Inv X pins σ H s->RelV o ov->RelV i iv->RelV v u->t o i v H Q ->
  ah (ar X.prog X.w) X.A (setItem ov iv u) (fun _ s'=>∃H',Inv X pins σ H' s'/\Q H') X.xe s
section
variable{X:Cx}{pos:Pos}
def ajJ(i:Nat):TG:=fun v σ H Q=>Q (σ.set i (some v)) H
theorem aae{i:Nat}{x:Str}(hN:X.N.Nodup)(hi:X.N[i]?=some x)(hx:Mu X.env.scope x)(hf:X.fn x=true∨X.env.scope.names.lookup x=some .local:=by first|exact .inl rfl|exact .inr rfl|assumption):PG X (.Name x pos) (ajJ i):=by intro pins s σ H v u Q I r h;exact wpAny_assign_Name (RV I hN hi hx r (fun s' I'=>⟨_,H,I',h⟩) hf)
def aqr:TGs:=fun vs σ H Q=>vs=[]/\Q σ H
def anw(t:TG)(u:TGs):TGs:=fun vs σ H Q=>∃v r,vs=v::r/\t v σ H fun σ' H'=>u r σ' H' Q
theorem aaf:PGs X [] aqr:=by intro pins s σ H vs us Q I r h;obtain⟨e,h⟩:=h;subst e;cases r;exact assignInOrder_nil ⟨σ,H,I,h⟩
theorem Ej{e:ag}{es:List ag}{t:TG}{u:TGs}(h1:PG X e t)(h2:PGs X es u)
  (hs:(d4 (e::es) X.env).map (·.2)=assign e X.env::(d4 es X.env).map (·.2):=by rfl):PGs X (e::es) (anw t u):=by
 intro pins s σ H vs us Q I r h;obtain⟨v,vr,e1,h⟩:=h;subst e1;cases r with
 |cons r rr =>
  rw[hs];refine assignInOrder_cons (jc (h1 pins s σ H _ _ _ I r h) fun _ s1 fZ=>?_);obtain⟨σ1,H1,I1,q1⟩:=fZ;exact h2 pins s1 σ1 H1 _ _ Q I1 rr q1
def dJ(K:ai)(n:Nat)(t:TGs):TG:=fun v σ H Q=>∃a xs,v=.ref a/\pR K H a xs/\xs.length=n/\t xs σ H Q
theorem adB{es:List ag}{k:Nat}{t:TGs}{n:Nat}(hc:X.calm=true)(h:PGs X es t)
  (hn:(d4 es X.env).length=n:=by rfl) (hst:(d4 es X.env).findIdx? (·.1)=none:=by rfl):PG X (.Tuple es k pos) (dJ X.K n t):=by
 intro pins s σ H v u Q I r hw;obtain⟨a,xs,e1,hq,hl,hw⟩:=hw;subst e1;cases r;obtain⟨its,rv,ht,hz⟩:=I.tuple hq;refine assign_Tuple_tuple (I.ok.hd hc) ht (by simp[hn,<- hl,rv.length]) hst fun h' hx=>?_;have I1:Inv X pins σ H { s with heap:=h' }:=I.kept (t':=s.toks) fun b o e=>hx b o (b_ (bq e)) e;exact h pins _ σ H xs _ Q I1 (by simpa using rv) hw
def iT(to ti:TE)(t:ahv):TG:=fun v σ H Q=>to σ H fun o H1=>ti σ H1 fun i H2=>t o i v H2 fun H3=>Q σ H3
theorem Xy{o i:ag}{to ti:TE}{t:ahv}(ho:PE X o to)(hi:PE X i ti)(hs:akG X t)
  (ha:∀v,assign (.Subscript o i pos) X.env v=(do
   let ov <- d3 [v] (a_ o X.env)
   let iv <- d3 [v,ov] (a_ i X.env)
   kG pos
   d3 [v,ov,iv] (setItem ov iv v)
   release [v,ov,iv] []):=by intro _;rfl):PG X (.Subscript o i pos) (iT to ti t):=by
 intro pins s σ H v u Q I r h;rw[ha];refine af (ez (jc (ho pins s σ H _ I h) fun ov s1 fZ=>?_));obtain⟨x,H1,I1,r1,q1⟩:=fZ;refine af (ez (jc (hi pins s1 σ H1 _ I1 q1) fun iv s2 fZ=>?_));obtain⟨y,H2,I2,r2,q2⟩:=fZ;refine af (sF (af (ez (jc (hs pins s2 σ H2 x y v ov iv u _ I2 r1 r2 r q2) fun _ s3 fZ=>?_))));obtain⟨H3,I3,q3⟩:=fZ;exact wpAny_release ⟨σ,H3,I3,q3⟩
def anx(te:TE)(g:TG):TS:=fun D σ H=>te σ H fun x H1=>g x σ H1 D.nx
theorem Mv{tg e:ag}{te:TE}{g:TG}(he:PE X e te)(hg:PG X tg g)(hs:kH [tg] e pos.line X.env=pure false:=by rfl)(hw:kK [tg] e X.env=pure none:=by rfl)
  (h1:(d4 [tg] X.env).map (·.2)=[assign tg X.env]:=by rfl):PS X (.Assign [tg] e pos) (anx te g):=by
 intro pins s σ H D I h;refine wpAny_Assign_stores (jc (he pins s σ H _ I h) fun v s1 ⟨x,H1,I1,r1,q1⟩=>?_) hs hw;rw[h1];exact jc (hg pins s1 σ H1 x v _ I1 r1 q1) fun _ s2 q=>q
theorem zM{i:Nat}{x:Str}{e:ag}{te:TE}{pos':Pos}(hN:X.N.Nodup)(hi:X.N[i]?=some x)(hx:Mu X.env.scope x)(he:PE X e te)(hs:eL e (some (.Name x pos')) pos.line X.env=pure false:=by rfl)(hf:X.fn x=true∨X.env.scope.names.lookup x=some .local:=by first|exact .inl rfl|exact .inr rfl|assumption) :
  PS X (.Assign [.Name x pos'] e pos) (anx te (ajJ i)):=by
 intro pins s σ H D I h;refine wpAny_Assign_Name (jc (he pins s σ H _ I h) fun v s1 ⟨y,H1,I1,r1,q1⟩=>?_) hs;exact RV I1 hN hi hx r1 (fun s2 I2=>⟨_,H1,I2,q1⟩) hf
end
section
variable{X:Cx}{pos:Pos}
end
structure It where
 go:Nat->Hp->Prop
 yld:Nat->Hp->V->Hp->Prop
 stop:Nat->Hp->Prop
def qY(X:Cx)(pins:List (ab×Obj))(H:Hp)(b:ab):Prop :=
 H b=none/\b≠X.env.locals/\b∉X.fs/\(b∈X.ex∨X.s₀.heap.objs.size<=b)/\(∀x c,X.env.cells.lookup x=some c->c≠b)/\∀p∈X.pn++pins,p.1≠b
theorem Inv.Sd{X:Cx}{pins:List (ab×Obj)}{σ:St}{H H':Hp}{s:ae}{b:ab}(I:Inv X pins σ H s)(hb:s.heap.objs.size<=b)(hn:H' b=none):qY X pins H' b:=by
 refine⟨hn,lz (et I.lt hb),I.ady hb,.inr (cz I.sz hb),fun x c e z=>?_,fun p hp z=>?_⟩
 ·obtain⟨v,q⟩:=I.cell x c e;exact absurd (et q.lt (by rw[z];exact hb)) (gu _)
 ·exact absurd (et (bq (I.pin p hp).1) (by rw[z];exact hb)) (gu _)
structure Turn (P:aE)(w:az)(K:ai)(tg:ag)(J:It)(fp:List ab)(it:ab)(tn:Nat->Heap->Prop):Prop where
  mem:it∈fp
  obj:∀i h,tn i h->∀b∈fp,∃o,h.get? b=some o/\∀v,o.data≠.cell v
  keep:∀i h h',tn i h->(∀b∈fp,∀o,h.get? b=some o->h'.get? b=some o)->tn i h'
  item:∀(X:Cx),X.prog=P->X.w=w->X.K=K->X.calm=true->∀(i:Nat) (pins:List (ab×Obj)) (s:ae) (σ:St) (H:Hp) (E:aa->ae->Prop),Inv X pins σ H s->(∀b∈fp,qY X pins H b)->tn i s.heap->J.go i H ->
    ah (ar P w) X.A (d7 (.ref it)) (fun r s1=>∃u,r=some u /\
      ah (ar P w) X.A (o9 tg (.ref it) u) (fun _ s2=>∃x H',Inv X pins σ H' s2/\RelV x u/\J.yld i H x H'/\tn (i + 1) s2.heap/\∀b∈fp,H' b=none) E s1) E s
  done : ∀(X : Cx), X.prog = P -> X.w = w -> X.K = K -> X.calm = true -> ∀(i : Nat) (pins : List (ab × Obj)) (s : ae) (σ : St) (H : Hp) (E : aa -> ae -> Prop), Inv X pins σ H s -> (∀b ∈ fp, qY X pins H b) -> tn i s.heap -> J.stop i H ->
    ah (ar P w) X.A (d7 (.ref it)) (fun r s1=>r=none/\Inv X pins σ H s1) E s
  self:∀(A:aS) (i:Nat) (s:ae) (Q:aa->ae->Prop) (E:aa->ae->Prop),tn i s.heap->Q (.ref it) s->ah (ar P w) A (j8 (.ref it)) Q E s
abbrev TI:=St->Hp->(It->Hp->Prop)->Prop
def PIE(X:Cx)(pins:List (ab×Obj))(σ:St)(tg:ag)(R:It->Hp->Prop)(itv:aa)(s2:ae):Prop :=
 ∃(it:ab) (fp:List ab) (tn:Nat->Heap->Prop) (J:It) (H':Hp),itv=.ref it/\Inv X pins σ H' s2/\Turn X.prog X.w X.K tg J fp it tn/\tn 0 s2.heap/\(∀b∈fp,qY X pins H' b)/\R J H'
def PI(X:Cx)(tg iter:ag)(wi:TI):Prop :=
 ∀(pins:List (ab×Obj)) (s:ae) (σ:St) (H:Hp) (R:It->Hp->Prop),Inv X pins σ H s->wi σ H R ->
  ah (ar X.prog X.w) X.A (a_ iter X.env) (fun v s1=>ah (ar X.prog X.w) X.A (j8 v) (PIE X pins σ tg R) X.xe s1) X.xe s
theorem Sg{M:Model}{A:aS}{E:aa->ae->Prop}{s:ae}{tg:ag}{it:ab}{u:aa}{o:Obj}{n:String}{vs:Array aa}{Q:Unit->ae->Prop}(ho:s.heap.get? it=some o)(hc:o.cls=.type n)(hd:o.data=.fields vs)
    (hn:["enumerate","zip","dict_itemiterator","dict_reverseitemiterator","odict_iterator","itertools.zip_longest","itertools.pairwise"].contains n=false) (hQ:Q () s):ah M A (o9 tg (.ref it) u) Q E s:=by
  unfold o9;cases tg <;> first
    |exact ax hQ
    | (cases u <;> first
        |exact ax hQ
        | (refine af (wpAny_load ho ?_)
           rw[hc,hd];show ah M A (if (["enumerate","zip","dict_itemiterator","dict_reverseitemiterator","odict_iterator","itertools.zip_longest","itertools.pairwise"].contains n && vs[0]? == some (cE _))=true then _ else _) Q E s;rw[if_neg (by intro h;rw[hn,Bool.false_and]at h;cases h)];exact ax hQ))
def Itl(K:ai)(a:ab):It :=
 ⟨fun i H=>∃xs x,tL K H a xs/\xs[i]?=some x,fun i H x H'=>H'=H/\∀xs,tL K H a xs->xs[i]?=some x,fun i H=>∃xs,tL K H a xs/\xs.length<=i⟩
def Itt(K:ai)(a:ab):It :=
 ⟨fun i H=>∃xs x,pR K H a xs/\xs[i]?=some x,fun i H x H'=>H'=H/\∀xs,pR K H a xs->xs[i]?=some x,fun i H=>∃xs,pR K H a xs/\xs.length<=i⟩
def Itr(lo:Int)(n:Nat):It:=⟨fun i _=>i < n,fun i H x H'=>H'=H/\x=.int (lo + i),fun i _=>n<=i⟩
theorem abv{P:aE}{w:az}{K:ai}{tg:ag}(a it:ab):Turn P w K tg (Itl K a) [it] it (fun i h=>h.IsListIter it a i) where
  mem:=by simp
  obj:=fun i h st b hb=>by
    have e:b=it:=by simpa using hb
    subst e;obtain⟨o,e,c,d⟩:=st;exact⟨o,e,fun v z=>by rw[d]at z;cases z⟩
  keep:=fun i h h' st k=>st.at fun o e=>k it (by simp) o e
  item:=by intro X hP hw hK hc i pins s σ H E I hf st hg;subst hP hw hK;obtain⟨xs,x,hq,hx⟩:=hg;obtain⟨its,rv,p,hz⟩:=I.list hq;obtain⟨u,hu,ru⟩:=rv.get hx;obtain⟨f0,f1,f2,f3,f4,f5⟩:=hf it (by simp);refine wpAny_pyNext_list_item st p.isList (x:=u) (by simpa using hu) fun h' st' sb=>?_;have I1:Inv X pins σ H { s with heap:=h' }:=I.turned (t':=s.toks) (fun b o hb e=>(sb.2 b hb).trans e) f0 f1 f3 f4 f5;obtain⟨o,e,c,d⟩:=id st';exact⟨u,rfl,Sg (s:={ s with heap:=h' }) e c d (by decide) ⟨x,H,I1,ru,⟨rfl,fun ys hy=>by rw[I.RZ hy hq];exact hx⟩,st',fun b hb=>(hf b hb).1⟩⟩
  done := by
    intro X hP hw hK hc i pins s σ H E I hf st hg;subst hP hw hK;obtain⟨xs,hq,hx⟩:=hg;obtain⟨its,rv,p,hz⟩:=I.list hq;obtain⟨f0,f1,f2,f3,f4,f5⟩:=hf it (by simp);have hl:=rv.length;exact wpAny_pyNext_list_end (I.ok.hd hc) st p.isList (by simp;lia) fun h' eb=>⟨rfl,I.turned (t':=s.toks) (fun b o hb e=>eb b o hb e) f0 f1 f3 f4 f5⟩
  self:=fun _ _ _ _ _ st h=>wpAny_pyIter_listiter st h
theorem Xz{P:aE}{w:az}{K:ai}{tg:ag}(a it:ab):Turn P w K tg (Itt K a) [it] it (fun i h=>h.IsTupleIter it a i) where
  mem:=by simp
  obj:=fun i h st b hb=>by
    have e:b=it:=by simpa using hb
    subst e;obtain⟨o,e,c,d⟩:=st;exact⟨o,e,fun v z=>by rw[d]at z;cases z⟩
  keep:=fun i h h' st k=>st.at fun o e=>k it (by simp) o e
  item:=by intro X hP hw hK hc i pins s σ H E I hf st hg;subst hP hw hK;obtain⟨xs,x,hq,hx⟩:=hg;obtain⟨its,rv,p,hz⟩:=I.tuple hq;obtain⟨u,hu,ru⟩:=rv.get hx;obtain⟨f0,f1,f2,f3,f4,f5⟩:=hf it (by simp);refine wpAny_pyNext_tuple_item st (show s.heap.IsTuple a its.toArray from p) (x:=u) (by simpa using hu) fun h' st' sb=>?_;have I1:Inv X pins σ H { s with heap:=h' }:=I.turned (t':=s.toks) (fun b o hb e=>(sb.2 b hb).trans e) f0 f1 f3 f4 f5;obtain⟨o,e,c,d⟩:=id st';exact⟨u,rfl,Sg (s:={ s with heap:=h' }) e c d (by decide) ⟨x,H,I1,ru,⟨rfl,fun ys hy=>by rw[I.zL hy hq];exact hx⟩,st',fun b hb=>(hf b hb).1⟩⟩
  done := by
    intro X hP hw hK hc i pins s σ H E I hf st hg;subst hP hw hK;obtain⟨xs,hq,hx⟩:=hg;obtain⟨its,rv,p,hz⟩:=I.tuple hq;obtain⟨f0,f1,f2,f3,f4,f5⟩:=hf it (by simp);have hl:=rv.length;exact wpAny_pyNext_tuple_end (I.ok.hd hc) st (show s.heap.IsTuple a its.toArray from p) (by simp;lia) fun h' eb=>⟨rfl,I.turned (t':=s.toks) (fun b o hb e=>eb b o hb e) f0 f1 f3 f4 f5⟩
  self:=fun _ _ _ _ _ st h=>wpAny_pyIter_tupleiter st h
theorem XC{P:aE}{w:az}{K:ai}{tg:ag}(it:ab)(lo:Int)(n:Nat):Turn P w K tg (Itr lo n) [it] it (fun i h=>IsRangeIter h it (lo + (i:Nat) * 1) ((n:Int) - (i:Nat)) 1) where
  mem:=by simp
  obj:=fun i h st b hb=>by
    have e:b=it:=by simpa using hb
    subst e;exact⟨_,st,fun v z=>by
      have z':Data.fields _=Data.cell v:=z;cases z'⟩
  keep:=fun i h h' st k=>k it (by simp) _ st
  item:=by intro X hP hw hK hc i pins s σ H E I hf st hg;subst hP hw hK;obtain⟨f0,f1,f2,f3,f4,f5⟩:=hf it (by simp);have W:=Walks.range (prog:=X.prog) (w:=X.w) (I.ok.hd hc) it lo 1 n;refine W.item i s _ _ hg st fun v h' tk hv st' kk=>?_;obtain⟨t,rfl⟩:=hv;have I1:Inv X pins σ H { s with heap:=h',toks:=tk }:=I.turned (fun b o hb e=>kk b o (by simpa using hb) e) f0 f1 f3 f4 f5;refine⟨_,rfl,Sg (s:={ s with heap:=h',toks:=tk }) (n:="range_iterator") st' rfl rfl (by decide) ⟨.int (lo + i),H,I1,⟨t,?_⟩,⟨rfl,rfl⟩,st',fun b hb=>(hf b hb).1⟩⟩;rw[Int.mul_one]
  done := by
    intro X hP hw hK hc i pins s σ H E I hf st hg;subst hP hw hK;obtain⟨f0,f1,f2,f3,f4,f5⟩:=hf it (by simp);exact wpAny_pyNext_range_end (I.ok.hd hc) st (by have:n<=i:=hg;lia) fun h' eb=>⟨rfl,I.turned (t':=s.toks) (fun b o hb e=>eb b o hb e) f0 f1 f3 f4 f5⟩
  self:=fun _ _ _ _ _ st h=>wpAny_pyIter_rangeiter st h
section
variable{X:Cx}{tg:ag}
def anA(K:ai)(tl:TE):TI:=fun σ H R=>tl σ H fun x H1=>∃a,x=.ref a/\(∃xs,tL K H1 a xs)/\R (Itl K a) H1
def aqs(K:ai)(tl:TE):TI:=fun σ H R=>tl σ H fun x H1=>∃a,x=.ref a/\(∃xs,pR K H1 a xs)/\R (Itt K a) H1
theorem aag{l:ag}{tl:TE}(hl:PE X l tl):PI X tg l (anA X.K tl):=by
 intro pins s σ H R I h;refine jc (hl pins s σ H _ I h) fun v s1 fZ=>?_;obtain⟨x,H1,I1,r1,q1⟩:=fZ;obtain⟨a,e,⟨xs,hq⟩,q⟩:=q1;subst e;cases r1;obtain⟨its,rv,p,hz⟩:=I1.list hq;refine o_ p.isList ?_;refine⟨s1.heap.objs.size,[s1.heap.objs.size],_,_,H1,rfl,I1.kept (t':=s1.toks) fun b o e=>cb _ e,abv a _,⟨_,cS _ rfl,rfl,rfl⟩,fun b hb=>?_,q⟩;have e:b=s1.heap.objs.size:=by simpa using hb
 subst e;exact I1.Sd (bo _) (I1.hok.fresh (bo _))
theorem adC{l:ag}{tl:TE}(hl:PE X l tl):PI X tg l (aqs X.K tl):=by
 intro pins s σ H R I h;refine jc (hl pins s σ H _ I h) fun v s1 fZ=>?_;obtain⟨x,H1,I1,r1,q1⟩:=fZ;obtain⟨a,e,⟨xs,hq⟩,q⟩:=q1;subst e;cases r1;obtain⟨its,rv,p,hz⟩:=I1.tuple hq;refine wpAny_pyIter_tuple (show s1.heap.IsTuple a its.toArray from p) ?_;refine⟨s1.heap.objs.size,[s1.heap.objs.size],_,_,H1,rfl,I1.kept (t':=s1.toks) fun b o e=>cb _ e,Xz a _,⟨_,cS _ rfl,rfl,rfl⟩,fun b hb=>?_,q⟩;have e:b=s1.heap.objs.size:=by simpa using hb
 subst e;exact I1.Sd (bo _) (I1.hok.fresh (bo _))
theorem Sh{pins:List (ab×Obj)}{σ:St}{H:Hp}{s:ae}{R:It->Hp->Prop}{E:aa->ae->Prop}{lo hi:Int}{t u v:Tok}{tk:Nat}(I:Inv X pins σ H s)(h1:-(2 ^ 62)<=lo)(h2:lo < 2 ^ 62)(h3:-(2 ^ 62)<=hi)(h4:hi < 2 ^ 62)
  (q:R (Itr lo (hi - lo).toNat) H):ah (ar X.prog X.w) X.A (j8 (.ref s.heap.objs.size)) (PIE X pins σ tg R) E { s with heap:=s.heap.push { cls:=.type "range",data:=.fields #[.int lo t,.int hi u,.int 1 v] },toks:=tk }:=by
 refine wpAny_pyIter_range (IsRange.new ..) (small_one h1 h2 h3 h4) ?_;have I1:Inv X pins σ H { s with heap:=s.heap.push { cls:=.type "range",data:=.fields #[.int lo t,.int hi u,.int 1 v] },toks:=tk }:=I.kept fun b o e=>cb _ e;refine⟨(s.heap.push { cls:=.type "range",data:=.fields #[.int lo t,.int hi u,.int 1 v] }).objs.size,[(s.heap.push { cls:=.type "range",data:=.fields #[.int lo t,.int hi u,.int 1 v] }).objs.size],_,_,H,rfl,
  I1.kept (t':=tk) fun b o e=>cb _ e,XC _ lo (hi - lo).toNat,?_,fun b hb=>?_,q⟩
 ·have e1:lo + ((0:Nat):Int) * 1=lo:=by simp
  have e2:(((hi - lo).toNat:Nat):Int) - ((0:Nat):Int)=cv.Range.rangeSize lo hi 1:=by rw[rangeSize_one];split <;> lia
  show IsRangeIter _ _ (lo + ((0:Nat):Int) * 1) ((((hi - lo).toNat:Nat):Int) - ((0:Nat):Int)) 1;rw[e1,e2];exact cS _ rfl
 ·have e:b=(s.heap.push { cls:=.type "range",data:=.fields #[.int lo t,.int hi u,.int 1 v] }).objs.size:=by simpa using hb
  subst e;exact I1.Sd (bo _) (I1.hok.fresh (bo _))
def anB(ta:TA):TI:=fun σ H R=>ta σ H fun vs H1=>∃j:Int,vs=[.int j]/\-(2 ^ 62)<=j/\j < 2 ^ 62/\R (Itr 0 j.toNat) H1
def anC(ta:TA):TI:=fun σ H R=>ta σ H fun vs H1=>∃i j:Int,vs=[.int i,.int j]/\(-(2 ^ 62)<=i/\i < 2 ^ 62/\-(2 ^ 62)<=j/\j < 2 ^ 62)/\R (Itr i (j - i).toNat) H1
theorem Ko{a:ag}{ta:TA}{p pos:Pos}(hg:Gl X "range") (hm:X.mg "range"=none) (ha:PA X [a] ta) (hs:ba [a] X.env=[(false,a_ a X.env)]:=by rfl):PI X tg (.Call (.Name "range" p) [a] [] pos) (anB ta):=by
 intro pins s σ H R I h;refine Call_ (wK I hg hm boot_range (pd (jc (ha pos pins s σ H _ I h) fun us s1 ⟨vs,H1,I1,r1,q1⟩=>?_) hs rfl));obtain⟨j,e,q1,q2,q⟩:=q1;subst e;cases r1 with
 |cons r rr =>
  cases rr;obtain⟨t,rfl⟩:=r;exact call_range_1 (Sh I1 (by lia) (by lia) q1 q2 (by simpa using q))
theorem abw{a b:ag}{ta:TA}{p pos:Pos}(hg:Gl X "range") (hm:X.mg "range"=none) (ha:PA X [a,b] ta) (hs:ba [a,b] X.env=[(false,a_ a X.env),(false,a_ b X.env)]:=by rfl) (hs2:ba [b] X.env=[(false,a_ b X.env)]:=by rfl) :
  PI X tg (.Call (.Name "range" p) [a,b] [] pos) (anC ta):=by
 intro pins s σ H R I h;refine Call_ (wK I hg hm boot_range (pd (jc (ha pos pins s σ H _ I h) fun us s1 ⟨vs,H1,I1,r1,q1⟩=>?_) (by rw[hs,hs2]) (by rw[hs2];rfl)));obtain⟨i,j,e,⟨q1,q2,q3,q4⟩,q⟩:=q1;subst e;cases r1 with
 |cons r rr =>
  cases rr with
  |cons r' rr =>
   cases rr;obtain⟨t,rfl⟩:=r;obtain⟨t',rfl⟩:=r';exact call_range_2 (Sh I1 q1 q2 q3 q4 q)
def aqt(wi:TI)(g:TG)(tb:TS):TS:=fun D σ H=>wi σ H fun J H1=>∃W:Nat->Nat->St->Hp->Prop,(∃m,W 0 m σ H1)/\∀i m σ H,W i m σ H ->
 (J.stop i H/\D.nx σ H)∨(J.go i H/\∃N:St->Hp->Prop,(∀σ' H',N σ' H'->∃m',m' < m/\W (i + 1) m' σ' H')/\∀x H',J.yld i H x H'->g x σ H' fun σ2 H2=>tb { D with nx:=N,ct:=N,bk:=D.nx } σ2 H2)
def zN(fp:List ab)(h:Heap):List (ab×Obj):=fp.filterMap fun b=>(h.get? b).map fun o=>(b,o)
theorem qZ{fp:List ab}{h:Heap}{b:ab}{o:Obj}(hb:b∈fp)(e:h.get? b=some o):(b,o)∈zN fp h:=ja.mpr ⟨b,hb,by rw[e];rfl⟩
theorem abx{fp:List ab}{h:Heap}{p:ab×Obj}(hp:p∈zN fp h):p.1∈fp/\h.get? p.1=some p.2:=by
 obtain⟨b,hb,e⟩:=ja.mp hp;cases q:h.get? b with
 |none=>rw[q]at e;cases e
 |some o =>
  rw[q]at e;have e':(b,o)=p:=c9 e;subst e';exact⟨hb,q⟩
theorem Inv.pinned{pins:List (ab×Obj)}{σ:St}{H:Hp}{s:ae}{fp:List ab}(I:Inv X pins σ H s)(hf:∀b∈fp,qY X pins H b)(ho:∀b∈fp,∃o,s.heap.get? b=some o/\∀v,o.data≠.cell v):Inv X (pins++zN fp s.heap) σ H s :=
 I.Dt fun p hp=>(du.mp hp).elim (fun z=>I.pin p (eA _ z)) fun z=>by obtain⟨hb,e⟩:=abx z;obtain⟨f0,f1,f2,_⟩:=hf p.1 hb;obtain⟨o,e',d⟩:=ho p.1 hb;rw[e]at e';cases e';exact⟨e,f0,f1,f2,d⟩
theorem Inv.xR{pins pl:List (ab×Obj)}{σ:St}{H:Hp}{s:ae}(I:Inv X (pins++pl) σ H s):Inv X pins σ H s:=I.Dt fun p hp=>I.pin p (eA _ (j7 _ hp))
theorem zO{iter:ag}{body:List bj}{wi:TI}{g:TG}{tb:TS}{pos:Pos}(hp:kL (ar X.prog X.w) X.A X.env X.xe)(hc:X.calm=true)(hi:PI X tg iter wi)(hg:PG X tg g)(hb:Xw X body tb)
  (hs:∀x,f6 iter X.env x=pure x:=by intro _;rfl):PS X (.For tg iter body [] pos) (aqt wi g tb):=by
 intro pins s σ H D I h;refine wpAny_For (jc (hi pins s σ H _ I h) fun v s1 h1=>jc h1 fun itv s2 h2=>?_) hs;obtain⟨it,fp,tn,J,H2,e,I2,T,st2,f2,W,⟨m0,w0⟩,turn⟩:=h2;subst e;have stat:∀{H':Hp},(∀b∈fp,H' b=none)->∀b∈fp,qY X pins H' b:=fun hn b hb=>⟨hn b hb,(f2 b hb).2⟩
 refine codeAny_forLoop_any (fun n s'=>∃i σ' H',Inv X pins σ' H' s'/\tn i s'.heap/\(∀b∈fp,H' b=none)/\W i n σ' H') ?_ m0 ⟨0,σ,H2,I2,st2,fun b hb=>(f2 b hb).1,w0⟩;rintro n s3 ⟨i,σ3,H3,I3,st3,fr3,w3⟩;rcases turn i n σ3 H3 w3 with ⟨stop,qn⟩|⟨go,N,hN,step⟩
 ·refine nL hp (jc (T.done X rfl rfl rfl hc i pins s3 σ3 H3 X.xe I3 (stat fr3) st3 stop) fun r s4 fZ=>?_);obtain⟨hr,I4⟩:=fZ;subst hr;exact sD ⟨σ3,H3,I4,qn⟩
 ·refine nL hp (jc (T.item X rfl rfl rfl hc i pins s3 σ3 H3 X.xe I3 (stat fr3) st3 go) fun r s4 fZ=>?_);obtain⟨u,hr,h4⟩:=fZ;subst hr;refine nL hp (jc h4 fun _ s5 fZ=>?_);obtain⟨x,H5,I5,r5,y5,st5,fr5⟩:=fZ;have I5':=I5.pinned (stat fr5) (T.obj _ _ st5);refine nL hp (jc (hg _ s5 σ3 H5 x u _ I5' r5 (step x H5 y5)) fun _ s6 fZ=>?_);obtain⟨σ6,H6,I6,q6⟩:=fZ;refine nL hp (jc (hb _ s6 σ6 H6 _ I6 q6) fun f s7 q7=>?_);have again:∀{σ7:St}{H7:Hp},Inv X (pins++zN fp s5.heap) σ7 H7 s7->N σ7 H7->∃m,m < n/\∃i σ' H',Inv X pins σ' H' s7/\tn i s7.heap/\(∀b∈fp,H' b=none)/\W i m σ' H':=fun {σ7 H7} I7 n7=>by obtain⟨m',hm,w7⟩:=hN σ7 H7 n7;refine⟨m',hm,i + 1,σ7,H7,I7.xR,T.keep _ _ _ st5 fun b hb o e=>(I7.pin (b,o) (eA _ (eA _ (qZ hb e)))).1,fun b hb=>?_,w7⟩;obtain⟨o,e,d⟩:=T.obj _ _ st5 b hb;exact(I7.pin (b,o) (eA _ (eA _ (qZ hb e)))).2.1
  cases f with
  |next=>obtain⟨σ7,H7,I7,n7⟩:=q7;exact again I7 n7
  |cont=>obtain⟨σ7,H7,I7,n7⟩:=q7;exact again I7 n7
  |brk=>obtain⟨σ7,H7,I7,q7⟩:=q7;exact⟨σ7,H7,I7.xR,q7⟩
  |ret v=>obtain⟨x7,σ7,H7,I7,r7,q7⟩:=q7;exact⟨x7,σ7,H7,I7.xR,r7,q7⟩
end
theorem adD{K:ai}{a:ab}{xs:List V}{g:TG}{tb:TS}{D:Ends}{σ:St}{H:Hp}(Pv:Nat->St->Hp->Prop)(h0:Pv 0 σ H)(hl:∀i σ H,i<=xs.length->Pv i σ H->tL K H a xs)
  (hs:∀i x σ H,xs[i]?=some x->Pv i σ H->g x σ H fun σ2 H2=>tb { D with nx:=Pv (i + 1),ct:=Pv (i + 1),bk:=D.nx } σ2 H2) (hd:∀σ H,Pv xs.length σ H->D.nx σ H) :
  ∃W:Nat->Nat->St->Hp->Prop,(∃m,W 0 m σ H)/\∀i m σ H,W i m σ H ->
   ((Itl K a).stop i H/\D.nx σ H)∨((Itl K a).go i H/\∃N:St->Hp->Prop,(∀σ' H',N σ' H'->∃m',m' < m/\W (i + 1) m' σ' H')/\∀x H',(Itl K a).yld i H x H'->g x σ H' fun σ2 H2=>tb { D with nx:=N,ct:=N,bk:=D.nx } σ2 H2):=by
 refine⟨fun i m σ H=>m=xs.length - i/\i<=xs.length/\Pv i σ H,⟨xs.length,by simp,eB _,h0⟩,?_⟩;rintro i m σ H ⟨rfl,hi,p⟩;have q:=hl i σ H hi p;by_cases hlt:i < xs.length
 ·refine .inr ⟨⟨xs,xs[i],q,by simp[hlt]⟩,Pv (i + 1),fun σ' H' p'=>⟨xs.length - (i + 1),by lia,rfl,hlt,p'⟩,fun x H' y=>?_⟩;obtain⟨e,y⟩:=y;subst e;exact hs i x σ _ (y xs q) p
 ·have e:i=xs.length:=by lia
  subst e;exact .inl ⟨⟨xs,q,bo _⟩,hd σ H p⟩
theorem ahw{K:ai}{a:ab}{xs:List V}{g:TG}{tb:TS}{D:Ends}{σ:St}{H:Hp}(Pv:Nat->St->Hp->Prop)(h0:Pv 0 σ H)(hl:∀i σ H,i<=xs.length->Pv i σ H->pR K H a xs)
  (hs:∀i x σ H,xs[i]?=some x->Pv i σ H->g x σ H fun σ2 H2=>tb { D with nx:=Pv (i + 1),ct:=Pv (i + 1),bk:=D.nx } σ2 H2) (hd:∀σ H,Pv xs.length σ H->D.nx σ H) :
  ∃W:Nat->Nat->St->Hp->Prop,(∃m,W 0 m σ H)/\∀i m σ H,W i m σ H ->
   ((Itt K a).stop i H/\D.nx σ H)∨((Itt K a).go i H/\∃N:St->Hp->Prop,(∀σ' H',N σ' H'->∃m',m' < m/\W (i + 1) m' σ' H')/\∀x H',(Itt K a).yld i H x H'->g x σ H' fun σ2 H2=>tb { D with nx:=N,ct:=N,bk:=D.nx } σ2 H2):=by
 refine⟨fun i m σ H=>m=xs.length - i/\i<=xs.length/\Pv i σ H,⟨xs.length,by simp,eB _,h0⟩,?_⟩;rintro i m σ H ⟨rfl,hi,p⟩;have q:=hl i σ H hi p;by_cases hlt:i < xs.length
 ·refine .inr ⟨⟨xs,xs[i],q,by simp[hlt]⟩,Pv (i + 1),fun σ' H' p'=>⟨xs.length - (i + 1),by lia,rfl,hlt,p'⟩,fun x H' y=>?_⟩;obtain⟨e,y⟩:=y;subst e;exact hs i x σ _ (y xs q) p
 ·have e:i=xs.length:=by lia
  subst e;exact .inl ⟨⟨xs,q,bo _⟩,hd σ H p⟩
theorem aby{lo:Int}{n:Nat}{g:TG}{tb:TS}{D:Ends}{σ:St}{H:Hp}(Pv:Nat->St->Hp->Prop)(h0:Pv 0 σ H)
  (hs:∀i σ H,i < n->Pv i σ H->g (.int (lo + i)) σ H fun σ2 H2=>tb { D with nx:=Pv (i + 1),ct:=Pv (i + 1),bk:=D.nx } σ2 H2) (hd:∀σ H,Pv n σ H->D.nx σ H) :
  ∃W:Nat->Nat->St->Hp->Prop,(∃m,W 0 m σ H)/\∀i m σ H,W i m σ H ->
   ((Itr lo n).stop i H/\D.nx σ H)∨((Itr lo n).go i H/\∃N:St->Hp->Prop,(∀σ' H',N σ' H'->∃m',m' < m/\W (i + 1) m' σ' H')/\∀x H',(Itr lo n).yld i H x H'->g x σ H' fun σ2 H2=>tb { D with nx:=N,ct:=N,bk:=D.nx } σ2 H2):=by
 refine⟨fun i m σ H=>m=n - i/\i<=n/\Pv i σ H,⟨n,by simp,eB _,h0⟩,?_⟩;rintro i m σ H ⟨rfl,hi,p⟩;by_cases hlt:i < n
 ·refine .inr ⟨hlt,Pv (i + 1),fun σ' H' p'=>⟨n - (i + 1),by lia,rfl,hlt,p'⟩,fun x H' y=>?_⟩;obtain⟨e,y⟩:=y;subst e y;exact hs i σ _ hlt p
 ·have e:i=n:=by lia
  subst e;exact .inl ⟨bo _,hd σ H p⟩
abbrev R2:=V->V->Hp->VK->Prop
def wg(X:Cx)(f:aa->aa->Sem aa)(r:R2):Prop :=
 ∀(pins:List (ab×Obj)) (s:ae) (σ:St) (H:Hp) (x y:V) (v u:aa) (Q:VK),Inv X pins σ H s->RelV x v->RelV y u->r x y H Q ->
  ah (ar X.prog X.w) X.A (f v u) (EP X pins σ Q) X.xe s
def UnR(X:Cx)(f:aa->Sem aa)(r:V->Hp->VK->Prop):Prop :=
 ∀(pins:List (ab×Obj)) (s:ae) (σ:St) (H:Hp) (x:V) (v:aa) (Q:VK),Inv X pins σ H s->RelV x v->r x H Q ->
  ah (ar X.prog X.w) X.A (f v) (EP X pins σ Q) X.xe s
def iR(X:Cx)(f:aa)(r:List V->Hp->VK->Prop):Prop :=
 ∀(pins:List (ab×Obj)) (s:ae) (σ:St) (H:Hp) (xs:List V) (us:List aa) (Q:VK),Inv X pins σ H s->Vals xs us->r xs H Q ->
  ah (ar X.prog X.w) X.A (call f us) (EP X pins σ Q) X.xe s
def tOp(r:R2)(ta tb:TE):TE:=fun σ H Q=>ta σ H fun x H1=>tb σ H1 fun y H2=>r x y H2 Q
def tUn(r:V->Hp->VK->Prop)(ta:TE):TE:=fun σ H Q=>ta σ H fun x H1=>r x H1 Q
def rI(C:Int->Int->Prop)(g:Int->Int->V):R2:=fun x y H Q=>∃i j,x=.int i/\y=.int j/\C i j/\Q (g i j) H
def rI0(g:Int->Int->V):R2:=fun x y H Q=>∃i j,x=.int i/\y=.int j/\Q (g i j) H
def rU(g:Int->V):V->Hp->VK->Prop:=fun x H Q=>∃i,x=.int i/\Q (g i) H
section
variable{X:Cx}{a b c:ag}{ta tb tc:TE}{pos:Pos}
theorem akJ(ha:PE X a ta)(hb:PE X b tb){pins:List (ab×Obj)}{s:ae}{σ:St}{H:Hp}{R:V->V->Hp->Prop}(I:Inv X pins σ H s)
  (h:ta σ H fun x H1=>tb σ H1 fun y H2=>R x y H2) {Q:aa->ae->Prop}{f:aa->aa->Sem aa}
  (hf:∀v u s2 x y H2,Inv X pins σ H2 s2->RelV x v->RelV y u->R x y H2->ah (ar X.prog X.w) X.A (f v u) Q X.xe s2) :
  ah (ar X.prog X.w) X.A (a_ a X.env) (fun v s₁=>ah (ar X.prog X.w) X.A (a_ b X.env) (fun u s₂=>ah (ar X.prog X.w) X.A (f v u) Q X.xe s₂) X.xe s₁) X.xe s:=by
 refine jc (ha pins s σ H _ I h) fun v s1 fZ=>?_;obtain⟨x,H1,I1,r1,q1⟩:=fZ;refine jc (hb pins s1 σ H1 _ I1 q1) fun u s2 fZ=>?_;obtain⟨y,H2,I2,r2,q2⟩:=fZ;exact hf v u s2 x y H2 I2 r1 r2 q2
theorem ajK{op:Operator}{r:R2}(ho:wg X (hV op) r)(ha:PE X a ta)(hb:PE X b tb):PE X (.BinOp a op b pos) (tOp r ta tb):=by intro pins s σ H Q I h;exact wpAny_BinOp (akJ ha hb I h fun v u s2 x y H2 I2 rx ry q=>ho pins s2 σ H2 x y v u Q I2 rx ry q)
theorem anD{op:UnaryOp}{r:V->Hp->VK->Prop}(ho:UnR X (unaryOp op) r)(ha:PE X a ta):PE X (.UnaryOp op a pos) (tUn r ta):=by intro pins s σ H Q I h;exact UnaryOp_ (jc (ha pins s σ H _ I h) fun v s1 ⟨x,H1,I1,r1,q1⟩=>ho pins s1 σ H1 x v Q I1 r1 q1)
theorem opI{f:aa->aa->Sem aa}{C:Int->Int->Prop}{g:Int->Int->Int}
  (rule:∀(i j:Int) (t u:Tok) (s:ae) (Q:aa->ae->Prop) (E:aa->ae->Prop),C i j->Q (.int (g i j) s.toks) { s with toks:=s.toks + 1 }->ah (ar X.prog X.w) X.A (f (.int i t) (.int j u)) Q E s) :
  wg X f (rI C fun i j=>.int (g i j)):=by
 intro pins s σ H x y v u Q I rx ry h;obtain⟨i,j,rfl,rfl,hc,q⟩:=h;obtain⟨t,rfl⟩:=rx;obtain⟨t',rfl⟩:=ry;exact rule i j t t' s _ _ hc ⟨.int (g i j),H,I.tok _,⟨_,rfl⟩,q⟩
theorem anE{f:aa->aa->Sem aa}{g:Int->Int->Int}
  (rule:∀(i j:Int) (t u:Tok) (s:ae) (Q:aa->ae->Prop) (E:aa->ae->Prop),Q (.int (g i j) s.toks) { s with toks:=s.toks + 1 }->ah (ar X.prog X.w) X.A (f (.int i t) (.int j u)) Q E s) :
  wg X f (rI0 fun i j=>.int (g i j)):=by
 intro pins s σ H x y v u Q I rx ry h;obtain⟨i,j,rfl,rfl,q⟩:=h;obtain⟨t,rfl⟩:=rx;obtain⟨t',rfl⟩:=ry;exact rule i j t t' s _ _ ⟨.int (g i j),H,I.tok _,⟨_,rfl⟩,q⟩
theorem akK{f:aa->aa->Sem aa}{g:Int->Int->Bool}
  (rule:∀(i j:Int) (t u:Tok) (s:ae) (Q:aa->ae->Prop) (E:aa->ae->Prop),Q (.bool (g i j)) s->ah (ar X.prog X.w) X.A (f (.int i t) (.int j u)) Q E s) :
  wg X f (rI0 fun i j=>.bl (g i j)):=by
 intro pins s σ H x y v u Q I rx ry h;obtain⟨i,j,rfl,rfl,q⟩:=h;obtain⟨t,rfl⟩:=rx;obtain⟨t',rfl⟩:=ry;exact rule i j t t' s _ _ ⟨.bl (g i j),H,I,rfl,q⟩
def adE(i j:Int):Prop:=0<=j/\j<=1000000/\i.natAbs < 2 ^ 64
def XD(i j:Int):Prop:=(-(2 ^ 64) < i/\i < 2 ^ 64)∨(-(2 ^ 64) < j/\j < 2 ^ 64)
theorem XD.ok{i j:Int}(h:XD i j):IntMulOk i j:=by
 rcases h with ⟨h1,h2⟩|⟨h1,h2⟩
 ·exact .of_left (intBits_le_64 h1 h2)
 ·exact .of_right (intBits_le_64 h1 h2)
theorem akL:wg X (hV .Add) (rI0 fun i j=>.int (i + j)):=anE fun _ _ _ _ _ _ _ q=>add_int q
theorem adF:wg X (hV .Sub) (rI0 fun i j=>.int (i - j)):=anE fun _ _ _ _ _ _ _ q=>sub_int q
theorem adG:wg X (hV .Mult) (rI XD fun i j=>.int (i * j)):=opI fun _ _ _ _ _ _ _ hc q=>mul_int q hc.ok
theorem akM:wg X (hV .Mod) (rI (fun _ j=>0 < j) fun i j=>.int (i % j)):=opI fun i j _ _ _ _ _ hc q=>by have h1:(0:Int) < j:=hc;exact mod_int' (by lia) (by rw[Int.fmod_eq_emod_of_nonneg i (by lia)];exact q)
theorem akN:wg X (hV .Pow) (rI adE fun i j=>.int (i ^ j.toNat)):=opI fun _ _ _ _ _ _ _ hc q=>pow_int_small hc.1 hc.2.1 hc.2.2 q
theorem unI{f:aa->Sem aa}{g:Int->Int}
  (rule:∀(i:Int) (t:Tok) (s:ae) (Q:aa->ae->Prop) (E:aa->ae->Prop),Q (.int (g i) s.toks) { s with toks:=s.toks + 1 }->ah (ar X.prog X.w) X.A (f (.int i t)) Q E s) :
  UnR X f (rU fun i=>.int (g i)):=by
 intro pins s σ H x v Q I rx h;obtain⟨i,rfl,q⟩:=h;obtain⟨t,rfl⟩:=rx;exact rule i t s _ _ ⟨.int (g i),H,I.tok _,⟨_,rfl⟩,q⟩
theorem akO:UnR X (unaryOp .USub) (rU fun i=>.int (-i)):=unI fun _ _ _ _ _ q=>neg_int q
end
section
variable{X:Cx}{a b c:ag}{ta tb tc:TE}{pos:Pos}
theorem anF:wg X (fv .Lt) (rI0 fun i j=>.bl (decide (i < j))):=akK fun _ _ _ _ _ _ _ q=>lt_int q
theorem anG:wg X (fv .Gt) (rI0 fun i j=>.bl (decide (j < i))):=akK fun _ _ _ _ _ _ _ q=>gt_int q
theorem anH:wg X (fv .GtE) (rI0 fun i j=>.bl (decide (j<=i))):=akK fun _ _ _ _ _ _ _ q=>ge_int q
theorem wg.or{f:aa->aa->Sem aa}{r r':R2}(h:wg X f r)(h':wg X f r'):wg X f (fun x y H Q=>r x y H Q∨r' x y H Q):=by
 intro pins s σ H x y v u Q I rx ry q;rcases q with q|q
 ·exact h pins s σ H x y v u Q I rx ry q
 ·exact h' pins s σ H x y v u Q I rx ry q
theorem rm(b:ag){op:jb}(h:op≠.In:=by decide)(h2:op≠.NotIn:=by decide):iL op b=false:=by
 have e1:(op == jb.In)=false:=by cases op <;> first|rfl|exact absurd rfl h
 have e2:(op == jb.NotIn)=false:=by cases op <;> first|rfl|exact absurd rfl h2
 cases b <;> simp[iL,e1,e2]
theorem aah{op:jb}{r:R2}(ho:wg X (fv op) r)(ha:PE X a ta)(hb:PE X b tb)(hm:iL op b=false):PE X (.Compare a [op] [b] pos) (tOp r ta tb):=by intro pins s σ H Q I h;exact wpAny_Compare1 (akJ ha hb I h fun v u s2 x y H2 I2 rx ry q=>ho pins s2 σ H2 x y v u Q I2 rx ry q) hm
def anI(t:TE):TT:=fun σ H Q=>t σ H fun x H'=>∃k,x=.bl k/\Q k H'
theorem Mw{op:jb}{r:R2}(ho:wg X (fv op) r)(ha:PE X a ta)(hb:PE X b tb)(hm:iL op b=false):PT X (.Compare a [op] [b] pos) (anI (tOp r ta tb)):=by
 intro pins s σ H Q I h;refine wpAny_isTrue_Compare1 (jc (ha pins s σ H _ I h) fun v s1 ⟨x,H1,I1,r1,q1⟩=>jc (hb pins s1 σ H1 _ I1 q1) fun u s2 ⟨y,H2,I2,r2,q2⟩ =>
  jc (ho pins s2 σ H2 x y v u _ I2 r1 r2 q2) fun c s3 ⟨z,H3,I3,r3,k,e,q3⟩=>?_) hm
 subst e;cases r3;exact ls ⟨H3,I3,q3⟩
theorem Ek:(sizeLine:Nat) < 2 ^ 63:=by rw[d8];decide
theorem aai{x:V}{us:List aa}(r:Vals [x] us):∃u,us=[u]/\RelV x u:=by
 cases r with
 |cons r1 r2=>cases r2;exact⟨_,rfl,r1⟩
theorem anJ{x y:V}{us:List aa}(r:Vals [x,y] us):∃u w',us=[u,w']/\RelV x u/\RelV y w':=by
 cases r with
 |cons r1 r2 =>
  cases r2 with
  |cons r3 r4=>cases r4;exact⟨_,_,rfl,r1,r3⟩
theorem abz:iR X (.type "int") (fun xs H Q=>(∃i,xs=[.int i]/\Q (.int i) H)∨∃k,xs=[.bl k]/\Q (.int (if k then 1 else 0)) H):=by
 intro pins s σ H xs us Q I r h;rcases h with ⟨i,rfl,q⟩|⟨k,rfl,q⟩
 ·obtain⟨u,rfl,t,rfl⟩:=aai r;exact call_int_int ⟨.int i,H,I,⟨_,rfl⟩,q⟩
 ·obtain⟨u,rfl,r1⟩:=aai r;cases r1;exact call_int_bool ⟨.int (if k then 1 else 0),H,I.tok _,⟨_,rfl⟩,q⟩
end
structure asZ (h:Heap)(x dx C:ab)(mA:Str->Option aa):Prop where
 obj:h.get? x=some (PySem.W.instObj C dx)
 ns:h.Ns1 dx mA
 ne:dx≠x
section
variable{prog:aE}{w:az}{A:aS}{E:aa->ae->Prop}{s:ae}{K:ai}{x dx C f:ab}{mA:Str->Option aa}{name:Str}{v:aa}
end
section
variable{P:aE}{w:az}{H H':Hp}{h h':Heap}{a C dx:ab}{fs fs':List (Str×V)}
end
structure Cls (K:ai)(C:ab):Prop where
 pg:PySem.W.plainGet K C Str.empty=true
 hd:PySem.W.hasDictIn K C=true
 po:PySem.W.plainOver K C=true
 sa:nN K (.ref C) "__setattr__"=some (some (.builtin "object.__setattr__"))
structure Con (K:ai)(C:ab)(f:Str)(v:V)(u:aa):Prop where
 at_:nN K (.ref C) f=some (some u)
 rel:RelV v u
 get:PySem.W.specialIn K u "__get__"=some none
 cp:PySem.W.copiedNames.contains f=false
structure Meth (K:ai)(C:ab)(m:Str)(f:ab):Prop where
 at_:nN K (.ref C) m=some (some (.ref f))
 fn:PySem.W.isFn K (.ref f)=true
 kp:gx K (.ref f)=true
section
variable{X:Cx}{pins:List (ab×Obj)}{σ:St}{H:Hp}{s:ae}{a C dx:ab}{fs:List (Str×V)}{f:Str}{v:V}{A:aS}{E:aa->ae->Prop}
end
section
variable{X:Cx}{o e value:ag}{f:Str}{pos pos' tpos:Pos}{ta tv:TE}
end
section
variable{X:Cx}{pins:List (ab×Obj)}{σ:St}{H:Hp}{s:ae}{A:aS}{E:aa->ae->Prop}{Q:aa->ae->Prop}{c:aa}{b:Bool}
inductive El (K:ai) (H:Hp):V->aa->Prop where
 |non:El K H .non (.type "NoneType")
 |bl (x:Bool):El K H (.bl x) (.type "bool")
 |int (i:Int):El K H (.int i) (.type "int")
 |str (x:Str):El K H (.str x) (.type "str")
 |flt (x:UInt64):El K H (.flt x) (.type "float")
 |lst {a:ab}{xs:List V}(e:H a=some (.lst xs)):El K H (.ref a) (.type "list")
 |Ik {a:ab}{o:Obj}{xs:List V}(e:H a=some (.Ik o (.lst xs))):El K H (.ref a) (.type "list")
 |tup {a:ab}{xs:List V}(e:H a=some (.tup xs)):El K H (.ref a) (.type "tuple")
 |dK {a:ab}{kvs:List (RJ×V)}(e:H a=some (.dK kvs)):El K H (.ref a) (.type "dict")
 |dT {a:ab}{kvs:List (List RJ×V)}(e:H a=some (.dT kvs)):El K H (.ref a) (.type "dict")
 |ins {a C dx:ab}{fs:List (Str×V)}(e:H a=some (.ins C dx fs)) (cl:Cls K C) (ha:nN K (.ref C) "__class__"=some (some (.builtin "object.__class__")))
   (hn:PySem.W.specialIn K (.builtin "object.__class__") "__get__"=some (some (.builtin "getset_descriptor.__get__"))) (htk:PySem.W.takesIn K (.builtin "object.__class__")=some true)
   (hm:PySem.W.mroIn K C (.type "object")=some true):El K H (.ref a) (.ref C)
end
structure lK (k:Nat)(A:aS):Prop where
 hd:A.handled=none
 dp:A.depth + 3 * k + 5 < sL
 un:A.units + 16 * k + 200 < bu
theorem lK.mono{j k:Nat}{A:aS}(r:lK k A)(h:j<=k):lK j A:=⟨r.hd,by have:=r.dp;lia,by have:=r.un;lia⟩
theorem lK.deeper{k:Nat}{A:aS}(r:lK (k + 1) A)(env:Env):lK k (A.deeper env) :=
 ⟨r.hd,by have:=r.dp;show A.depth + 1 + 3 * k + 5 < _;lia,by have:=r.un;show A.units + 3 + 16 * k + 200 < _;lia⟩
theorem lK.depth{k:Nat}{A:aS}(r:lK k A):A.depth < sL:=by have:=r.dp;lia
def anK:TA:=fun _ H Q=>Q [] H
def ajL(ta:TE)(tr:TA):TA:=fun σ H Q=>ta σ H fun x H1=>tr σ H1 fun xs H2=>Q (x::xs) H2
section
variable{X:Cx}{e:ag}{es:List ag}{te:TE}{t:TA}{pos:Pos}
theorem jr:PA X [] anK:=fun _ _ _ _ H Q I h=>Calls.spliced_nil ⟨[],H,I,.nil,h⟩
theorem dY(ha:PE X e te)(hr:PA X es t)(hs:ba (e::es) X.env=(false,a_ e X.env)::ba es X.env:=by rfl):PA X (e::es) (ajL te t):=by
 intro pos pins s σ H Q I h;rw[hs];show ah _ _ (spliced ((false,a_ e X.env)::di pos (ba es X.env))) _ _ s;refine Calls.spliced_cons (jc (ha pins s σ H _ I h) fun u s1 fZ=>?_);obtain⟨x,H1,I1,r1,q1⟩:=fZ;exact jc (hr pos pins s1 σ H1 _ I1 q1) fun us s2 ⟨xs,H2,I2,r2,q2⟩=>⟨x::xs,H2,I2,.cons r1 r2,q2⟩
def aqw(t:TA):TE:=fun σ H Q=>t σ H fun xs H1=>xs.length<=sizeLine/\∀p,H1 p=none->Q (.ref p) (upd H1 p (.tup xs))
def aqx(t:TA):TE:=fun σ H Q=>t σ H fun xs H1=>xs.length<=sizeLine/\∀p,H1 p=none->Q (.ref p) (upd H1 p (.lst xs))
theorem adH{x1}(h:PA X es t):PE X (.Tuple es x1 pos) (aqw t):=by intro pins s σ H Q I hq;refine wpAny_Tuple_spliced (jc (h pos pins s σ H _ I hq) fun us s1 ⟨xs,H1,I1,r,z,q⟩=>⟨by rw[<- r.length];exact z,?_⟩);have hf:H1 s1.heap.objs.size=none:=I1.hok.fresh (bo _);refine⟨.ref s1.heap.objs.size,upd H1 s1.heap.objs.size (.tup xs),I1.laid (t':=s1.toks) (fun b u e=>cb _ e) (bo _) ?_,rfl,q _ hf⟩;exact⟨z,us,r,⟨_,cS _ rfl,rfl,_,rfl⟩⟩
theorem XF(h:PA X es t):PE X (.List es pos) (aqx t):=by intro pins s σ H Q I hq;refine wpAny_List_spliced (jc (h pos pins s σ H _ I hq) fun us s1 ⟨xs,H1,I1,r,z,q⟩=>⟨by rw[<- r.length];exact z,?_⟩);have hf:H1 s1.heap.objs.size=none:=I1.hok.fresh (bo _);refine⟨.ref s1.heap.objs.size,upd H1 s1.heap.objs.size (.lst xs),I1.laid (t':=s1.toks) (fun b u e=>cb _ e) (bo _) ?_,rfl,q _ hf⟩;exact⟨z,us,0,r,cS _ rfl⟩
end
abbrev Sp:=List V->Hp->VK->XK->Prop
abbrev CXT:=List Env->Hp->ae->XK->aa->ae->Prop
structure ahx (P:aE)(w:az)(K:ai)(mg:Str->Option aa)(base:Heap)(A:aS)(outer:List Env)(s:ae)(H:Hp):Prop where
 frames:A.frames=some outer
 mod:Mod K mg base
 bs:∀b o,base.get? b=some o->s.heap.get? b=some o/\H b=none
 bsz:base.objs.size<=s.heap.objs.size
 Ei:s.heap.FunFrames base outer
 frf:∀b∈qp outer,H b=none
 hok:zK P w H s.heap
 bare:kF s.gens
def CE(outer:List Env)(P:aE)(w:az)(H:Hp)(s:ae)(Q:VK)(u:aa)(s':ae):Prop :=
 ∃v H',s'.os=s.os/\kF s'.gens/\Un (qp outer) [] H H' s.heap s'.heap/\zK P w H' s'.heap/\RelV v u/\Q v H'
def CR(CX:CXT)(outer:List Env)(P:aE)(w:az)(H:Hp)(s:ae)(Q:VK)(E:XK)(r:Result)(s':ae):Prop :=
 match r with
 | .ok (.ret u)=>CE outer P w H s Q u s'
 | .ok _=>False
 | .error e=>CX outer H s E e s'
structure Im (P:aE)(w:az)(K:ai)(mg:Str->Option aa)(base:Heap)(CX:CXT)(k:Nat)(f:ab)(fd:ck)(ps:List Str)(sp:Sp):Prop where
 len:∀vs H Q E,sp vs H Q E->vs.length=ps.length
 run:∀(A:aS) (outer:List Env) (s:ae) (H:Hp) (args:Args) (us:List aa) (vs:List V) (Q:VK) (E:XK),lK k A->ahx P w K mg base A outer s H->lI s fd args (ps.zip us)->Vals vs us->sp vs H Q E ->
  f7 (ar P w) A (.call (.ref f) args) (CR CX outer P w H s Q E) s
section
variable{X:Cx}{pins:List (ab×Obj)}{σ:St}{H:Hp}{s s':ae}
theorem Inv.env0(I:Inv X pins σ H s):ahx X.prog X.w X.K X.mg X.base X.A X.stack s H :=
 ⟨I.ok.frames,I.ok.mod,I.bs,cz I.ok.bsz I.sz,I.stack,I.Ds,I.hok,I.bare⟩
theorem Inv.after{Q:VK}{u:aa}(I:Inv X pins σ H s)(h:CE X.stack X.prog X.w H s Q u s'):EP X pins σ Q u s':=by obtain⟨v,H',os,bare,un,hok,r,q⟩:=h;obtain⟨hh,g,d,t,os'⟩:=s';obtain rfl:os'=s.os:=os;exact⟨v,H',I.call (h':=hh) (g':=g) (d':=d) (t':=t) (ch:=[]) un hok bare (fun b z=>absurd z (by simp)),r,q⟩
end
def Binds(K:ai)(fd:ck)(ps:List Str)(ds:List aa):Prop :=
 ∀(s:ae) (us:List aa),K.In s.heap->(us++ds).length=ps.length->lI s fd ⟨us,[]⟩ (ps.zip (us++ds))
theorem Binds.all{K:ai}{fd:ck}{ps:List Str}(h:∀us:List aa,us.length=ps.length->bindArgs fd ⟨us,[]⟩=pure (ps.zip us)):Binds K fd ps []:=fun s us _ hl=>by rw[hW]at hl ⊢;exact .of_eq (h us hl)
section
variable{X:Cx}{CX:CXT}{k:Nat}{f C:ab}{fd:ck}{ps:List Str}{sp:Sp}{dvs:List V}{ds:List aa}{E:XK}{x m:Str}{p pos apos:Pos}{e o:ag}{es:List ag}{ta:TE}{t:TA}
structure Mk (K:ai)(C f:ab):Prop where
 makes:PySem.W.makesIn K C=true
 init:nN K (.ref C) "__init__"=some (some (.ref f))
 fn:PySem.W.isFn K (.ref f)=true
 kp:gx K (.ref C)=true
end
section
variable{X:Cx}{CX:CXT}{k:Nat}{f C:ab}{fd:ck}{ps ks:List Str}{sp:Sp}{E:XK}{x m:Str}{p pos apos kpos:Pos}{e o:ag}{es:List ag}{kws:List kM}{te ta:TE}{t tk:TA}{nm:Option Str}
structure aqy (K:ai)(fd:ck)(ps ks:List Str)(g:List aa->List aa->List aa)(gV:List V->List V->List V):Prop where
 to:∀(s:ae) (us ws:List aa),K.In s.heap->(g us ws).length=ps.length->lI s fd ⟨us,ks.zip ws⟩ (ps.zip (g us ws))
 rel:∀{vs:List V}{us:List aa}{zs:List V}{ws:List aa},Vals vs us->Vals zs ws->Vals (gV vs zs) (g us ws)
variable{g:List aa->List aa->List aa}{gV:List V->List V->List V}
end
structure bQ (N P:List Str)(sc:Scope):Prop where
 kind:sc.kind=.function
 co:sc.isCoroutine=false
 gen:sc.isGenerator=false
 nd:N.Nodup
 pre:N.take P.length=P
 par:∀x∈P,sc.names.lookup x=some .local∨sc.names.lookup x=some .cell
 akP:∀y∈sc.names,y.2≠.free
theorem Kq{kindOf:Str->Option d9}{x:Str}:∀{binds:List (Str×aa)}{m:Str->Option aa},(∀v,(x,v)∉binds)->j9 kindOf binds m x=m x
 | [],_,_=>rfl
 | (n,v)::r,m,h=>by
  unfold j9;rw[Kq fun w hw=>h w (dS _ hw)];split
  ·have:x≠n:=by rintro rfl;exact h v dA
   simp[this]
  ·rfl
theorem Kr{kindOf:Str->Option d9}{x:Str}:∀{binds:List (Str×aa)}{m:Str->Option aa},(∀v,(x,v)∉binds)->j_ kindOf binds m x=m x
 | [],_,_=>rfl
 | (n,v)::r,m,h=>by
  unfold j_;rw[Kr fun w hw=>h w (dS _ hw)];split
  ·rfl
  ·have:x≠n:=by rintro rfl;exact h v dA
   simp[this]
theorem Ks{kindOf:Str->Option d9}{x:Str}{v:aa}:∀{P:List Str}{vs:List aa}{i:Nat}{m:Str->Option aa},P.Nodup->P[i]?=some x->vs[i]?=some v->kindOf x=some .local ->
  j9 kindOf (P.zip vs) m x=some v
 | [],_,_,_,_,h,_,_=>by simp at h
 |_::_,[],_,_,_,_,h,_=>by simp at h
 |p::P,w::vs,0,m,nd,h1,h2,hk=>by simp at h1 h2;subst h1;subst h2;show j9 kindOf ((p,w)::P.zip vs) m p=_;unfold j9;rw[Kq fun v hv=>(ka.mp nd).1 (sM hv).1,if_pos hk];simp
 |p::P,w::vs,i + 1,m,nd,h1,h2,hk=>by show j9 kindOf ((p,w)::P.zip vs) m x=_;unfold j9;exact Ks (i:=i) (ka.mp nd).2 (by simpa using h1) (by simpa using h2) hk
theorem Ku{kindOf:Str->Option d9}{x:Str}{v:aa}:∀{P:List Str}{vs:List aa}{i:Nat}{m:Str->Option aa},P.Nodup->P[i]?=some x->vs[i]?=some v->kindOf x≠some .local ->
  j_ kindOf (P.zip vs) m x=some v
 | [],_,_,_,_,h,_,_=>by simp at h
 |_::_,[],_,_,_,_,h,_=>by simp at h
 |p::P,w::vs,0,m,nd,h1,h2,hk=>by simp at h1 h2;subst h1;subst h2;show j_ kindOf ((p,w)::P.zip vs) m p=_;unfold j_;rw[Kr fun v hv=>(ka.mp nd).1 (sM hv).1,if_neg hk];simp
 |p::P,w::vs,i + 1,m,nd,h1,h2,hk=>by show j_ kindOf ((p,w)::P.zip vs) m x=_;unfold j_;exact Ku (i:=i) (ka.mp nd).2 (by simpa using h1) (by simpa using h2) hk
def start(N:List Str)(vs:List V):St:=vs.map some++gy (N.length - vs.length) none
def tU(CX:CXT)(P:aE)(w:az)(K:ai)(mg:Str->Option aa)(base:Heap)(N:List Str)(qual:Str)(scope:Scope)(f:ab)(cd:aa)(A:aS)(outer:List Env)(s:ae)(H:Hp)(E:XK):Cx where
 prog:=P
 w:=w
 K:=K
 mg:=mg
 base:=base
 A:=A.deeper (kb qual scope s.heap.objs.size f cd)
 N:=N
 s₀:=s
 H₀:=H
 env:=kb qual scope s.heap.objs.size f cd
 outer:=outer
 stack:=kb qual scope s.heap.objs.size f cd::outer
 ex:=[]
 calm:=true
 fn:=fun _=>true
 pn:=[]
 xe:=fun e s'=>ah (ar P w) (A.deeper (kb qual scope s.heap.objs.size f cd)) (leaving (kb qual scope s.heap.objs.size f cd) e) (fun _ s''=>CX outer H s E e s'') (fun e' s''=>CX outer H s E e' s'') s'
theorem Sq{sc:Scope}{n:Nat}{x:Str}(h:sc.names.lookup x=some .cell):∃c,(cellsFrom n sc.names []).lookup x=some c:=by have q:=PySem.W.cellsFrom_some sc.names n [] (.inl h);exact Option.isSome_iff_exists.mp q
theorem abA{CX:CXT}{P:aE}{w:az}{K:ai}{mg:Str->Option aa}{base:Heap}{N ps:List Str}{qual:Str}{scope:Scope}{f:ab}{cd:aa}{A:aS}{outer:List Env}{s s1:ae}{H:Hp}{E:XK}{us:List aa}{vs:List V}
  (S:bQ N ps scope) (hd:A.handled=none) (e0:ahx P w K mg base A outer s H) (hl:vs.length=ps.length) (r:Vals vs us)
  (x:InCallC s s.heap.objs.size (j9 (kb qual scope s.heap.objs.size f cd).kindOf (ps.zip us) fun _=>none) (cellsFrom (s.heap.objs.size + 1) scope.names []) (j_ (kb qual scope s.heap.objs.size f cd).kindOf (ps.zip us) fun _=>none) s1) :
  Inv (tU CX P w K mg base N qual scope f cd A outer s H E) [] (start N vs) H s1:=by
 have hpl:ps.length<=N.length:=by have:=congrArg eT S.pre;rw[hZ]at this;lia
 obtain⟨h1,tk,rfl,hk⟩:=x.done;have noA:∀b:ab,b∉(tU CX P w K mg base N qual scope f cd A outer s H E).ex:=fun b z=>absurd (show b∈([]:List ab) from z) (by simp);refine⟨⟨e0.mod,S.kind,rfl,rfl,bo _,fun y z c h1 h2=>?_,fun y hy=>?_,fun y c _ h=>?_,fun _=>hd,aS.frames_deeper e0.frames,.inr ⟨rfl,rfl⟩,fun b z=>absurd z (noA b),e0.bs,e0.bsz,fun b _ _=>noA b,fun b z=>absurd z (noA b),e0.Ei,e0.frf⟩,
  rfl,e0.bare,Un.kept hk,⟨_,x.toInCall.ns,fun i y v h1 h2 h3=>?_⟩,fun y c h=>⟨_,x.cell y c h⟩,e0.hok.fresh (bo _),fun y c h=>?_,fun p hp=>absurd (show p∈([]:List (ab×Obj)) from hp) (by simp),e0.hok.kept hk,?_⟩
 ·exact name_of_addr x.apart (gz h1) (gz h2)
 ·have hy:scope.names.lookup y=some .cell∨scope.names.lookup y=some .free:=hy;rcases hy with hy|hy
  ·exact Sq hy
  ·exact absurd rfl (S.akP _ (gz hy))
 ·exact fR (x.above y c (gz h))
 ·have hi:i < vs.length:=by
   unfold start at h2;by_cases hi:i < vs.length
   ·exact hi
   ·rw[gE (by simpa using hi)]at h2;rw[kc]at h2;split at h2 <;> cases h2
  have ha:vs[i]?=some v:=by
   unfold start at h2;rw[f9 (by simpa using hi),cw]at h2;cases e:vs[i]? with
   |none=>rw[e]at h2;cases h2
   |some a=>rw[e]at h2;cases h2;rfl
  obtain⟨u,hu,rv⟩:=r.get ha;have hp:ps[i]?=some y:=by rw[<- S.pre,lL (by lia)];exact h1
  have ndP:ps.Nodup:=by rw[<- S.pre];exact S.nd.sublist (nS _ _)
  refine⟨u,rv,?_⟩;rcases S.par y (kN hp) with k|k
  ·exact .inl ⟨k,Ks ndP hp hu k⟩
  ·obtain⟨c,e⟩:=Sq (n:=s.heap.objs.size + 1) k;refine .inr ⟨.inl k,c,e,?_⟩;have q:=x.cell y c e;rw[Ku ndP hp hu (by show scope.names.lookup y≠_;rw[k];decide)]at q;exact q
 ·exact e0.hok.fresh (fR (x.above y c (gz h)))
 ·unfold start;show _=N.length;rw[dy,cf,nV];lia
theorem aaj{CX:CXT}{P:aE}{w:az}{K:ai}{mg:Str->Option aa}{base:Heap}{k:Nat}{f:ab}{name qual:Str}{params:lS}{body:List bj}{scope:Scope}{dV kV doc pm cdv ct oc:aa}{an od:Option ab}
  {osl:Array (Option aa)}{N ps:List Str}{sp:Sp}(lk:K.lookup f=some ⟨oc,od,.func (eW name qual params body scope dV kV doc pm an cdv ct),osl⟩) (hcd:lT K cdv qual=true) (S:bQ N ps scope)
  (len:∀vs H Q E,sp vs H Q E->vs.length=ps.length)
  (hbody:∀(A:aS) (outer:List Env) (s:ae) (H:Hp) (vs:List V) (Q:VK) (E:XK),lK k (A.deeper (kb qual scope s.heap.objs.size f cdv))->sp vs H Q E ->
   ∃t,Xw (tU CX P w K mg base N qual scope f cdv A outer s H E) body t/\t { nx:=fun _ H'=>Q .non H',rt:=Q } (start N vs) H) :
  Im P w K mg base CX (k + 1) f (eW name qual params body scope dV kV doc pm an cdv ct) ps sp:=by
 refine⟨len,fun A outer s H args us vs Q E hr e0 hb r hsp=>?_⟩;have hl:=len _ _ _ _ hsp;have KX:K.In s.heap:=e0.mod.kin.keeps fun b o e=>(e0.bs b o e).1;have lim:s.heap.NoLimit:=e0.mod.nolimit.keeps fun b o e=>(e0.bs b o e).1;have hkind:∀y∈ps.zip us,scope.names.lookup y.1=some .local∨(scope.names.lookup y.1=some .cell/\((cellsFrom (s.heap.objs.size + 1) scope.names []).lookup y.1).isSome=true):=fun⟨n,v⟩ hy=>by
  rcases S.par n (sM hy).1 with q|q
  ·exact .inl q
  ·exact .inr ⟨q,PySem.W.cellsFrom_some _ _ _ (.inl q)⟩
 refine codeAny_call_function hr.depth (KX _ _ lk) rfl S.co S.gen rfl (PySem.W.codeRec_of KX hcd) (hb _ _ _ _ ?_);refine wpAny_newFunctionEnv_cells S.kind hkind fun env he s1 x=>?_;subst he;refine⟨lim.keeps x.toInCall.keep,codeAny_func ?_⟩;obtain⟨t,ht,hq⟩:=hbody A outer s H vs Q E (hr.deeper _) hsp;have I:Inv (tU CX P w K mg base N qual scope f cdv A outer s H E) [] (start N vs) H s1:=abA S hr.hd e0 hl r x;refine d6 (ht [] s1 (start N vs) H _ I hq) (fun fl s' hs=>?_) fun e s' hs=>hs;have gB:∀{σ':St}{H':Hp}{v:V}{u:aa},Inv (tU CX P w K mg base N qual scope f cdv A outer s H E) [] σ' H' s'->RelV v u->Q v H'->CE outer P w H s Q u s' :=
  fun {σ' H' v u} J rv q=>⟨v,H',J.os,J.bare,J.base,J.hok,rv,q⟩
 cases fl with
 |ret u =>
  obtain⟨v,σ',H',J,rv,q⟩:=hs;exact gB J rv q
 |next =>
  obtain⟨σ',H',J,q⟩:=hs;exact gB (v:=V.non) (u:=aa.none) J rfl q
 |brk =>
  obtain⟨_,_,_,q⟩:=hs;exact f_ q
 |cont =>
  obtain⟨_,_,_,q⟩:=hs;exact f_ q
section
variable{X:Cx}{x:Str}{p pos:Pos}{e:ag}{es:List ag}{t:TA}{id T:String}{r:List V->Hp->VK->Prop}
def tCB(r:List V->Hp->VK->Prop)(t:TA):TE:=fun σ H Q=>t σ H fun vs H1=>r vs H1 Q
theorem qu(hc:iR X (.builtin id) r) (hg:Gl X x) (hm:X.mg x=none) (hv:hG x=some (.builtin id)) (ha:PA X (e::es) t) (hn:x≠"__name__":=by decide) (hdb:(x == ("__debug__":Str))=false:=by decide)
  (he:ba (e::es) X.env=(false,a_ e X.env)::ba es X.env:=by rfl) (hpl:(di pos (ba es X.env)).any (·.1)=false:=by rfl):PE X (.Call (.Name x p) (e::es) [] pos) (tCB r t):=by
 intro pins s σ H Q I h;refine nX (wK I hg hm hv ?_ hn hdb);exact PyProof.Rows.callWith_builtin1 (jc (ha pos pins s σ H _ I h) fun us s1 ⟨vs,H1,I1,r1,q1⟩=>hc pins s1 σ H1 vs us Q I1 r1 q1) he hpl
theorem vm(hc:iR X (.type T) r) (hg:Gl X x) (hm:X.mg x=none) (hv:hG x=some (.type T)) (ha:PA X (e::es) t) (hn:x≠"__name__":=by decide) (hdb:(x == ("__debug__":Str))=false:=by decide)
  (he:ba (e::es) X.env=(false,a_ e X.env)::ba es X.env:=by rfl) (hpl:(di pos (ba es X.env)).any (·.1)=false:=by rfl):PE X (.Call (.Name x p) (e::es) [] pos) (tCB r t):=by
 intro pins s σ H Q I h;refine nX (wK I hg hm hv ?_ hn hdb);exact pd (jc (ha pos pins s σ H _ I h) fun us s1 ⟨vs,H1,I1,r1,q1⟩=>hc pins s1 σ H1 vs us Q I1 r1 q1) he hpl
end
end L2
namespace HT
open PySem PyProof.Rows
section
open PySem.SeqAt
open PySem.AutoSeq1 (wpAny_loadPart')
open PySem.MeetsSeq PySem.MeetsSeq2 PySem.MeetsSeq3
end
section
variable{prog:aE}{w:az}{A:aS}{E:aa->ae->Prop}{s:ae}
def nD(n d:Nat):Option Int->Nat
 |none=>d
 |some v=>if v < 0 then (v + (n:Int)).toNat else min v.toNat n
theorem akQ(n d:Nat)(hd:d<=n)(o:Option Int):nD n d o<=n:=by
 cases o with
 |none=>exact hd
 |some v =>
  show(if v < 0 then (v + (n:Int)).toNat else min v.toNat n)<=n;by_cases hv:v < 0
  ·rw[if_pos hv];lia
  ·rw[if_neg hv];exact Nat.min_le_right _ _
theorem aak(v:Int)(n d:Nat):(if v < 0 then max (v + (n:Int)) 0 else min v (n:Int))=((nD n d (some v):Nat):Int):=by
 show(if v < 0 then max (v + (n:Int)) 0 else min v (n:Int))=(((if v < 0 then (v + (n:Int)).toNat else min v.toNat n):Nat):Int)
 by_cases hv:v < 0
 ·simp only[if_pos hv];lia
 ·simp only[if_neg hv];lia
theorem XH(lo hi:Option Int)(n:Nat):sN lo hi 1 (n:Int)=(((nD n 0 lo:Nat):Int),((nD n n hi:Nat):Int)):=by
 have h1:¬((1:Int) < 0):=by lia
 unfold sN;simp only[h1,if_false];refine Prod.ext ?_ ?_
 ·cases lo with
  |none=>rfl
  |some v=>exact aak v n 0
 ·cases hi with
  |none=>rfl
  |some v=>exact aak v n n
theorem XJ(i j:Nat):pf (i:Int) (j:Int) 1=j - i:=by
 unfold pf;have h1:(1:Int) > 0:=by lia
 simp only[h1,if_true,Int.ediv_one];split <;> lia
theorem Em{v:aa}{o:Option Int}{Q:Option Int->ae->Prop}(p:iN v o)(h:Q o s):ah (ar prog w) A (cv.Slice.slicePartIndex v) Q E s:=by
 cases p with
 |none=>exact slicePart_none h
 |int i t=>exact slicePart_int h
theorem qw{sl:ab}{vl vu:aa}{lo hi:Option Int}{n:Nat}{Q:Int×Int×Nat->ae->Prop}(hs:s.heap.IsSliceOf sl vl vu .none)(pl:iN vl lo)(pu:iN vu hi)
  (h:Q (((nD n 0 lo:Nat):Int),1,nD n n hi - nD n 0 lo) s):ah (ar prog w) A (cv.Slice.sliceApplied (.ref sl) (pure (n:Int))) Q E s:=by
 obtain⟨os,hos,hcs,hds⟩:=id hs;unfold cv.Slice.sliceApplied cv.Slice.sliceFields;refine af (af (kd hos hds (x:=vl) rfl (af (kd hos hds (x:=vu) rfl (af (kd hos hds (x:=.none) rfl (ax ?_)))))));refine af (slicePart_none ?_);show ah _ _ (if ((1:Int) == 0)=true then _ else _) _ _ s;rw[if_neg (by decide)];refine af (Em pl (af (Em pu (af (ax ?_)))));show ah _ _ (match sN lo hi 1 (n:Int) with|(lo,hi)=>pure (lo,(1:Int),pf lo hi 1)) _ _ s;rw[XH lo hi n];show ah _ _ (pure (((nD n 0 lo:Nat):Int),(1:Int),pf ((nD n 0 lo:Nat):Int) ((nD n n hi:Nat):Int) 1)) _ _ s;rw[XJ];exact ax h
theorem adI(xs:Array aa)(i k:Nat):((bE k).filterMap fun(m:Nat)=>xs[((i:Int) + (m:Int) * 1).toNat]?).toArray=((xs.toList.drop i).take k).toArray:=by
 have e:(fun(m:Nat)=>xs[((i:Int) + (m:Int) * 1).toNat]?)=fun m=>xs[i + m]?:=by
  funext m;have:((i:Int) + (m:Int) * 1).toNat=i + m:=by lia
  rw[this]
 rw[e];have:=pick_run xs i k;rw[sP]at this;have e2:((fun x=>xs[x]?) ∘ fun x=>i + x)=fun m=>xs[i + m]?:=rfl;rw[e2]at this;rw[this]
theorem xU{t sl:ab}{items:Array aa}{vl vu:aa}{lo hi:Option Int}{Q:aa->ae->Prop}(ht:kD s.heap t items)(hs:s.heap.IsSliceOf sl vl vu .none)(pl:iN vl lo)(pu:iN vu hi)
  (hw:¬(nD items.size 0 lo=0/\nD items.size items.size hi=items.size))
  (h:Q (.ref s.heap.objs.size) { s with heap:=s.heap.push { cls:=.type "tuple",data:=.seq ((items.toList.drop (nD items.size 0 lo)).take (nD items.size items.size hi - nD items.size 0 lo)).toArray } })
  (hsz:items.size<=sizeLine):ah (ar prog w) A (getItem (.ref t) (.ref sl)) Q E s:=by
 have aal:sizeOk (.seq ((items.toList.drop (nD items.size 0 lo)).take (nD items.size items.size hi - nD items.size 0 lo)).toArray):=by show((items.toList.drop (nD items.size 0 lo)).take (nD items.size items.size hi - nD items.size 0 lo)).toArray.size<=sizeLine;rw[cK,hZ,l5,iF];lia
 have hj:nD items.size items.size hi<=items.size:=akQ _ _ (bo _) hi;obtain⟨os,hos,hcs,hds⟩:=id hs;have hTs:s.TypeIs (.ref sl) "slice":=⟨os,hos,hcs⟩
 unfold getItem
 try with_reducible refine ez ?_
 first|refine af (ax ?_)|skip
 refine af (wpAny_sequenceKey ht.typeIs (by decide) ?_);refine af (ke (name:=kg "__getitem__") ht.typeIs l6
  (gc l6 ht.typeIs entry_tuple_getitem ?_ (args_tuple_getitem _ _)))
 show ah _ _ (cv.Tuple.tupleItemsOf (.ref t) >>= _) _ _ s;refine af (tupleItemsOf_ ht ?_);refine af (jn hTs ?_);rw[if_pos (by decide)];refine af (qw hs pl pu ?_);have hno:¬((((nD items.size 0 lo:Nat):Int) == 0 && (1:Int) == 1 && (nD items.size items.size hi - nD items.size 0 lo) == items.size)=true):=by intro q;rw[jv,jv]at q;have q1:((nD items.size 0 lo:Nat):Int)=0:=eq_of_beq q.1.1;have q2:nD items.size items.size hi - nD items.size 0 lo=items.size:=eq_of_beq q.2;exact hw ⟨by lia,by lia⟩
 show ah _ _ (if (((nD items.size 0 lo:Nat):Int) == 0 && (1:Int) == 1 && (nD items.size items.size hi - nD items.size 0 lo) == items.size)=true then _ else _) _ _ s;rw[if_neg hno,adI]
 first
  |exact af (m:=pj _) (eM (ax ⟨_,rfl,ax h⟩) aal)
  |exact af (m:=pj _) (eM (af (ax (ax ⟨_,rfl,ax h⟩))) aal)
  |exact af (af (m:=pj _) (eM (ax (ax ⟨_,rfl,ax h⟩)) aal))
  |exact af (af (m:=pj _) (eM (ax ⟨_,rfl,ax h⟩) aal))
end
end HT
namespace L2
open PySem PySem.Spec PyProof.Rows
abbrev TO:=St->Hp->(Option Int->Hp->Prop)->Prop
def PO(X:Cx)(e:Option ag)(t:TO):Prop :=
 ∀(pins:List (ab×Obj)) (s:ae) (σ:St) (H:Hp) (Q:Option Int->Hp->Prop),Inv X pins σ H s->t σ H Q ->
  ah (ar X.prog X.w) X.A (evalPart e X.env) (fun u s'=>∃o H',Inv X pins σ H' s'/\iN u o/\Q o H') X.xe s
def ahy:TO:=fun _ H Q=>Q none H
def anL(t:TE):TO:=fun σ H Q=>t σ H fun x H1=>∃i,x=.int i/\Q (some i) H1
theorem XM{ns:List Int}:∀{us:List aa},Vals (ns.map V.int) us->n4 us ns:=by
 induction ns with
 |nil=>intro us r;rw[l8]at r;cases r;exact .nil
 |cons n ns ih =>
  intro us r;rw[cn]at r;cases r with
  |cons r1 r2 =>
   obtain⟨t,e⟩:=r1;subst e;exact .cons n t (ih r2)
section
variable{X:Cx}{e:ag}{te:TE}{lo hi:Option ag}{tl th:TO}{pos p2:Pos}
theorem ahz:PO X none ahy:=by intro pins s σ H Q I h;rw[evalPart_none];exact ax ⟨none,H,I,.none,h⟩
theorem ahA(h:PE X e te):PO X (some e) (anL te):=by intro pins s σ H Q I hw;rw[evalPart_some];refine jc (h pins s σ H _ I hw) fun u s1 fZ=>?_;obtain⟨x,H1,I1,r1,q1⟩:=fZ;obtain⟨i,rfl,q⟩:=q1;obtain⟨t,rfl⟩:=r1;exact⟨some i,H1,I1,.int i t,q⟩
def SlR(X:Cx)(r:V->Option Int->Option Int->Hp->VK->Prop):Prop :=
 ∀(pins:List (ab×Obj)) (s:ae) (σ:St) (H:Hp) (x:V) (v vl vu:aa) (lo hi:Option Int) (sl:ab) (Q:VK),Inv X pins σ H s->RelV x v->s.heap.IsSliceOf sl vl vu .none->iN vl lo->iN vu hi->r x lo hi H Q ->
  ∃T id,typeLookup (.type T) "__getitem__"=pure (some (.builtin id))/\s.TypeIs v T/\ah (ar X.prog X.w) X.A (getItem v (.ref sl)) (EP X pins σ Q) X.xe s
theorem SlR.or{r r':V->Option Int->Option Int->Hp->VK->Prop}(h:SlR X r)(h':SlR X r'):SlR X (fun x lo hi H Q=>r x lo hi H Q∨r' x lo hi H Q):=by
 intro pins s σ H x v vl vu lo hi sl Q I rx hs pl pu q;rcases q with q|q
 ·exact h pins s σ H x v vl vu lo hi sl Q I rx hs pl pu q
 ·exact h' pins s σ H x v vl vu lo hi sl Q I rx hs pl pu q
def tSl(r:V->Option Int->Option Int->Hp->VK->Prop)(te:TE)(tl th:TO):TE:=fun σ H Q=>te σ H fun x H1=>tl σ H1 fun l H2=>th σ H2 fun u H3=>r x l u H3 Q
theorem Ss{r:V->Option Int->Option Int->Hp->VK->Prop}(hr:SlR X r)(he:PE X e te)(hl:PO X lo tl)(hu:PO X hi th):PE X (.Subscript e (.Slice lo hi none p2) pos) (tSl r te tl th):=by intro pins s σ H Q I h;refine Subscript_ (jc (he pins s σ H _ I h) fun v s1 fZ=>?_);obtain⟨x,H1,I1,r1,q1⟩:=fZ;refine wpAny_Slice (jc (hl pins s1 σ H1 _ I1 q1) fun vl s2 ⟨l,H2,I2,pl,q2⟩=>jc (hu pins s2 σ H2 _ I2 q2) fun vu s3 fZ=>?_);obtain⟨u,H3,I3,pu,q3⟩:=fZ;rw[evalPart_none];refine ax ?_;have I4:Inv X pins σ H3 { s3 with heap:=s3.heap.push { cls:=.type "slice",data:=.fields #[vl,vu,.none] } }:=I3.kept (t':=s3.toks) fun b ob q=>cb _ q;obtain⟨T,id,hT,ht,hg⟩:=hr pins { s3 with heap:=s3.heap.push { cls:=.type "slice",data:=.fields #[vl,vu,.none] } } σ H3 x v vl vu l u s3.heap.objs.size Q I4 r1 (Heap.IsSliceOf.new ..) pl pu q3;show ah (ar X.prog X.w) X.A (subscriptTail e (.Slice lo hi none p2) v (.ref s3.heap.objs.size)) (EP X pins σ Q) X.xe { s3 with heap:=s3.heap.push { cls:=.type "slice",data:=.fields #[vl,vu,.none] } };exact tail_any (ops:=[.ref s3.heap.objs.size,v]) ht hT hg (by with_unfolding_all rfl)
def XQ(xs:List V)(lo hi:Option Int):List V:=(xs.drop (HT.nD xs.length 0 lo)).take (HT.nD xs.length xs.length hi - HT.nD xs.length 0 lo)
theorem Sv(xs:List V)(lo hi:Option Int):(XQ xs lo hi).length<=xs.length:=by unfold XQ;rw[hZ,l5];lia
def anM(K:ai):V->Option Int->Option Int->Hp->VK->Prop:=fun x lo hi H Q=>∃a xs,x=.ref a/\pR K H a xs /\
 ¬(HT.nD xs.length 0 lo=0/\HT.nD xs.length xs.length hi=xs.length)/\∀p,H p=none->Q (.ref p) (upd H p (.tup (XQ xs lo hi)))
theorem adJ:SlR X (anM X.K):=by
 intro pins s σ H x v vl vu lo hi sl Q I rx hs pl pu h;obtain⟨a,xs,rfl,hx,hw,q⟩:=h;cases rx;obtain⟨its,r,ht,hz⟩:=I.tuple hx;have hlen:its.toArray.size=xs.length:=by rw[cK];exact r.length.symm
 refine⟨"tuple",_,l6.lookup,ht.typeIs,?_⟩;refine HT.xU ht hs pl pu (by rw[hlen];exact hw) ?_ (by rw[hlen];exact hz);rw[hlen];refine⟨.ref s.heap.objs.size,_,I.laid (t':=s.toks) (o:=.tup (XQ xs lo hi)) (fun b ob q=>cb _ q) (bo _) ?_,rfl,q _ (I.hok.fresh (bo _))⟩;exact⟨cz (Sv xs lo hi) hz,_,(r.drop (HT.nD xs.length 0 lo)).take (HT.nD xs.length xs.length hi - HT.nD xs.length 0 lo),kD.new _ _⟩
end
def Kv(n:Nat)(i:Int):Option Nat:=if 0<=i then (if i < n then some i.toNat else none) else if-(n:Int)<=i then some (i + n).toNat else none
def Du{α:Type}(xs:List α)(i:Int):Option α:=(Kv xs.length i).bind fun j=>xs[j]?
theorem Mx{n:Nat}{i:Int}{j:Nat}(h:Kv n i=some j):n5 i n=some j/\j < n/\-(n:Int)<=i/\i < n:=by
 unfold Kv at h;by_cases h0:0<=i
 ·rw[if_pos h0]at h;by_cases h1:i < n
  ·rw[if_pos h1]at h;have e:i.toNat=j:=c9 h;exact⟨by rw[sQ h0 h1,e],by lia,by lia,h1⟩
  ·rw[if_neg h1]at h;cases h
 ·rw[if_neg h0]at h;by_cases h1:-(n:Int)<=i
  ·rw[if_pos h1]at h;have e:(i + n).toNat=j:=c9 h;exact⟨by rw[seqIndex_neg (by lia) h1,e],by lia,h1,by lia⟩
  ·rw[if_neg h1]at h;cases h
theorem Mz{α:Type}{xs:List α}{i:Int}{v:α}(h:Du xs i=some v):∃j,n5 i xs.length=some j/\xs[j]?=some v/\j < xs.length/\-(xs.length:Int)<=i/\i < xs.length:=by
 unfold Du at h;cases e:Kv xs.length i with
 |none=>rw[e]at h;cases h
 |some j =>
  rw[e]at h;obtain⟨h1,h2,h3,h4⟩:=Mx e;exact⟨j,h1,h,h2,h3,h4⟩
theorem aam{α:Type}{xs:List α}{j:Nat}{v:α}(h:xs[j]?=some v):Du xs (j:Int)=some v:=by
 have hj:j < xs.length:=(dC.mp h).1;have e:Kv xs.length (j:Int)=some j:=by unfold Kv;rw[if_pos (by lia),if_pos (by lia)];simp
 unfold Du;rw[e];exact h
def xV(b:ag):Prop:=∀o i,subscripted b false o i=operate [o,i] (getItem o i)
def IxR(X:Cx)(r:R2):Prop :=
 ∀(value slice:ag) (pins:List (ab×Obj)) (s:ae) (σ:St) (H:Hp) (x y:V) (v u:aa) (Q:VK),Inv X pins σ H s->RelV x v->RelV y u->r x y H Q ->
  subscripted slice false v u=operate [v,u] (getItem v u)->ah (ar X.prog X.w) X.A (subscriptTail value slice v u) (EP X pins σ Q) X.xe s
def MtR(X:Cx)(id:String)(r:V->List V->Hp->VK->Prop):Prop :=
 ∀(pins:List (ab×Obj)) (s:ae) (σ:St) (H:Hp) (x:V) (xs:List V) (v:aa) (us:List aa) (Q:VK),Inv X pins σ H s->RelV x v->Vals xs us->r x xs H Q ->
  ah (ar X.prog X.w) X.A (call (.builtin id) (v::us)) (EP X pins σ Q) X.xe s
section
variable{X:Cx}{a b:ag}{ta tb:TE}{pos:Pos}
theorem IxR.or{r r':R2}(h:IxR X r)(h':IxR X r'):IxR X (fun x y H Q=>r x y H Q∨r' x y H Q):=by
 intro value slice pins s σ H x y v u Q I rx ry q hs;rcases q with q|q
 ·exact h value slice pins s σ H x y v u Q I rx ry q hs
 ·exact h' value slice pins s σ H x y v u Q I rx ry q hs
theorem aan{r:R2}(hr:IxR X r)(ha:PE X a ta)(hb:PE X b tb)(hs:xV b):PE X (.Subscript a b pos) (tOp r ta tb):=by intro pins s σ H Q I h;exact Subscript_ (akJ ha hb I h fun v u s2 x y H2 I2 rx ry q=>hr a b pins s2 σ H2 x y v u Q I2 rx ry q (hs _ _))
def anN(K:ai):R2:=fun x y H Q=>∃p xs i v,x=.ref p/\y=.int i/\tL K H p xs/\Du xs i=some v/\Q v H
def anO(K:ai):R2:=fun x y H Q=>∃p xs i v,x=.ref p/\y=.int i/\pR K H p xs/\Du xs i=some v/\Q v H
def anP:R2:=fun x y H Q=>∃z i c,x=.str z/\y=.int i/\z.length<=sizeLine/\Du z.cps.toList i=some c/\Q (.str ⟨#[c]⟩) H
theorem ahC:IxR X (anN X.K):=by
 intro value slice pins s σ H x y v u Q I rx ry h hs;obtain⟨p,xs,i,z,rfl,rfl,hq,he,q⟩:=h;cases rx;obtain⟨t,rfl⟩:=ry;obtain⟨its,r,pl,hz⟩:=I.list hq;obtain⟨j,h1,h2,h3,h4,h5⟩:=Mz he;obtain⟨w,ew,rw'⟩:=r.get h2;have hl:=r.length;have hn:=Ek;have gB:EP X pins σ Q w s:=⟨z,H,I,rw',q⟩
 by_cases h0:0<=i
 ·have hj:i.toNat=j:=by rw[sQ h0 h5]at h1;exact c9 h1
  exact item_listR pl.isList h0 (by lia) (by rw[hj];simpa using ew) gB hs
 ·have hj:(i + (its.toArray.size:Int)).toNat=j:=by rw[seqIndex_neg (by lia) h4]at h1;rw[cK,<- hl];exact c9 h1
  exact subscriptTail_builtinR (x:=w) pl.isList.typeIs slot_list_getitem.lookup
   (wpAny_getItem_list_neg (Q:=fun r s'=>r=w/\EP X pins σ Q r s') pl.isList (by lia) (by rw[cK] <;> lia) (by lia) (by rw[hj];simpa using ew) ⟨rfl,gB⟩) hs
theorem adK:IxR X (anO X.K):=by
 intro value slice pins s σ H x y v u Q I rx ry h hs;obtain⟨p,xs,i,z,rfl,rfl,hq,he,q⟩:=h;cases rx;obtain⟨t,rfl⟩:=ry;obtain⟨its,r,pl,hz⟩:=I.tuple hq;obtain⟨j,h1,h2,h3,h4,h5⟩:=Mz he;obtain⟨w,ew,rw'⟩:=r.get h2;have hl:=r.length;have hn:=Ek;have gB:EP X pins σ Q w s:=⟨z,H,I,rw',q⟩
 exact subscriptTail_builtinR (x:=w) pl.typeIs slot_tuple_getitem.lookup
  (getItem_tuple (j:=j) (Q:=fun r s'=>r=w/\EP X pins σ Q r s') pl (by lia) (by lia) (by rw[cK,<- hl];exact h1) (by simpa using ew) ⟨rfl,gB⟩) hs
theorem akR:IxR X anP:=by
 intro value slice pins s σ H x y v u Q I rx ry h hs;obtain⟨z,i,c,rfl,rfl,hz,he,q⟩:=h;obtain⟨t,rfl⟩:=rx;obtain⟨t',rfl⟩:=ry;obtain⟨j,h1,h2,h3,h4,h5⟩:=Mz he;have hl:z.cps.toList.length=z.length:=by simp[Str.length]
 rw[hl]at h1 h4 h5;have hn:=Ek;exact tail_any (typeIs_str s z t) slot_str_getitem.lookup (getItem_str (c:=c) (by
  have e1:decide (i < -(2 ^ 63:Int))=false:=decide_eq_false (by lia);have e2:decide (i ≥ 2 ^ 63)=false:=decide_eq_false (by lia);rw[e1,e2,Bool.or_false]) (by rw[h1];simpa using h2) ⟨.str ⟨#[c]⟩,H,I.tok _,⟨_,rfl⟩,q⟩) hs
def rIx(K:ai):R2:=fun x y H Q=>anN K x y H Q∨anO K x y H Q∨anP x y H Q
theorem XR:IxR X (rIx X.K):=ahC.or (adK.or akR)
theorem XS(its:List aa)(n j:Nat)(u:aa):c_ (·.setIfInBounds j u) { cls:=.type "list",data:=.seq its.toArray n }={ cls:=.type "list",data:=.seq (its.set j u).toArray n }:=by simp[c_]
theorem Inv.lst{pins:List (ab×Obj)}{σ:St}{H:Hp}{s:ae}{p:ab}{xs:List V}(I:Inv X pins σ H s)(h:H p=some (.lst xs)) :
  ∃(its:List aa) (n:Nat),Vals xs its/\s.heap.get? p=some { cls:=.type "list",data:=.seq its.toArray n }/\xs.length<=sizeLine:=by
 obtain⟨z,its,n,r,e⟩:=I.hok p _ h;exact⟨its,n,r,e,z⟩
theorem Inv.akS{pins:List (ab×Obj)}{σ:St}{H:Hp}{s:ae}{p:ab}{xs ys:List V}{its its':List aa}{n n':Nat}{f:Obj->Obj}(I:Inv X pins σ H s)(h:H p=some (.lst xs))
  (ho:s.heap.get? p=some { cls:=.type "list",data:=.seq its.toArray n }) (hf:f { cls:=.type "list",data:=.seq its.toArray n }={ cls:=.type "list",data:=.seq its'.toArray n' }) (r:Vals ys its') (hz:ys.length<=sizeLine) (t:Nat) :
  Inv X pins σ (upd H p (.lst ys)) { s with heap:=s.heap.update p f,toks:=t }:=by
 have e:(s.heap.update p f).get? p=some { cls:=.type "list",data:=.seq its'.toArray n' }:=by rw[fE f ho (by rw[hf] <;> rfl),hf]
 refine I.write (x:=p) (e:=p) (by rw[h];trivial) (.inl rfl) (fun b u hb q=>(fF _ _ (dQ hb)).trans q) ⟨_,e⟩ ?_;exact⟨hz,its',n',r,e⟩
def anQ:V->V->V->Hp->(Hp->Prop)->Prop:=fun o i v H Q=>∃p xs k j,o=.ref p/\i=.int k/\H p=some (.lst xs)/\Kv xs.length k=some j/\Q (upd H p (.lst (xs.set j v)))
theorem adL:akG X anQ:=by
 intro pins s σ H o i v ov iv u Q I ro ri rv h;obtain⟨p,xs,k,j,rfl,rfl,hp,hj,q⟩:=h;cases ro;obtain⟨t,rfl⟩:=ri;obtain⟨its,n,r,ho,hz⟩:=I.lst hp;obtain⟨h1,h2,h3,h4⟩:=Mx hj;have hl:=r.length;have hn:=Ek;have I':Inv X pins σ (upd H p (.lst (xs.set j v))) { s with heap:=s.heap.update p (c_ (·.setIfInBounds j u)) } :=
  I.akS hp ho (XS its n j u) (r.set rv j) (by rw[List.length_set];exact hz) s.toks
 by_cases h0:0<=k
 ·have hk:k.toNat=j:=by rw[sQ h0 h4]at h1;exact c9 h1
  exact PySem.W.ki_setAt ho h0 (by lia) (by rw[cK,<- hl];exact h4) (by rw[hk];exact⟨_,I',q⟩)
 ·have hk:(k + (its.toArray.size:Int)).toNat=j:=by rw[seqIndex_neg (by lia) h3]at h1;rw[cK,<- hl];exact c9 h1
  exact PySem.W.ki_setBack ho (by lia) (by rw[cK,<- hl];exact h3) (by lia) (by rw[hk];exact⟨_,I',q⟩)
theorem xW:iR X (.builtin "len") (fun xs H Q=>∃p ys,xs=[.ref p]/\(tL X.K H p ys∨pR X.K H p ys)/\Q (.int ys.length) H):=by
 intro pins s σ H xs us Q I r h;obtain⟨p,ys,rfl,hq,q⟩:=h;obtain⟨u,rfl,rx⟩:=aai r;cases rx;have hn:=Ek;rcases hq with hq|hq
 ·obtain⟨its,r',pl,hz⟩:=I.list hq;have hlen:=r'.length;exact Calls.call_len_list pl.isList (by simp only[cK] <;> lia) ⟨.int ys.length,H,I.tok _,⟨s.toks + 1,by rw[cK,hlen]⟩,q⟩
 ·obtain⟨its,r',pl,hz⟩:=I.tuple hq;have hlen:=r'.length;exact len_tuple pl (by simp only[cK] <;> lia) ⟨.int ys.length,H,I.tok _,⟨s.toks + 1,by rw[cK,hlen]⟩,q⟩
theorem wj:iR X (.type "tuple") (fun xs H Q=>∃p ys,xs=[.ref p]/\((tL X.K H p ys/\∀l,H l=none->Q (.ref l) (upd H l (.tup ys)))∨(pR X.K H p ys/\Q (.ref p) H))):=by
 intro pins s σ H xs us Q I r h;obtain⟨p,ys,rfl,h⟩:=h;obtain⟨u,rfl,rx⟩:=aai r;cases rx;rcases h with ⟨hq,q⟩|⟨hq,q⟩
 ·obtain⟨its,r',pl,hz⟩:=I.list hq;have hlen:=r'.length;refine call_tuple_list pl.isList (fun h' kp=>?_) (by simp only[cK] <;> lia);have I1:Inv X pins σ H { s with heap:=h' }:=I.kept (t':=s.toks) kp;have I2:Inv X pins σ (upd H h'.objs.size (.tup ys)) { s with heap:=h'.push { cls:=.type "tuple",data:=.seq its.toArray } } :=
   I1.laid (t':=s.toks) (fun b o e=>cb _ e) (bo _) (show fY X.prog X.w _ _ _ (.tup ys) from⟨hz,its,r',kD.new _ _⟩)
  exact⟨.ref h'.objs.size,_,I2,rfl,q _ (I1.hok.fresh (bo _))⟩
 ·obtain⟨its,r',pl,hz⟩:=I.tuple hq;exact call_tuple_same pl ⟨.ref p,H,I,rfl,q⟩
def tyV(K:ai)(T:String)(x:V)(H:Hp):Prop:=match x with
 | .str _=>T="str"
 | .int _=>T="int"
 | .ref p=>(T="list"/\∃xs,tL K H p xs)∨(T="tuple"/\∃o,K.lookup p=some o/\o.cls=.type "tuple"/\o.dict=none) ∨
   (T="dict"/\((∃kvs,H p=some (.dK kvs))∨∃kvs,H p=some (.dT kvs)))∨(T="set"/\∃S n,H p=some (.set S n))
 |_=>False
theorem akT{pins:List (ab×Obj)}{σ:St}{H:Hp}{s:ae}{T:String}{x:V}{v:aa}(I:Inv X pins σ H s)(r:RelV x v)(ty:tyV X.K T x H) :
  s.TypeIs v T/\∀a,v=.ref a->∃ob,s.heap.get? a=some ob/\ob.dict=none:=by
 cases x with
 |str z =>
  obtain⟨t,rfl⟩:=r;cases (show T="str" from ty);exact⟨typeIs_str s z t,fun _ e=>nomatch e⟩
 |int i =>
  obtain⟨t,rfl⟩:=r;cases (show T="int" from ty);exact⟨typeIs_int s i t,fun _ e=>nomatch e⟩
 |ref p =>
  cases r;rcases ty with ⟨rfl,xs,hq⟩|⟨rfl,o,hk,hc,hd⟩|⟨rfl,hk⟩|⟨rfl,S,n,hk⟩
  ·obtain⟨its,_,pl,_⟩:=I.list hq;refine⟨pl.isList.typeIs,fun a e=>?_⟩;cases e;obtain⟨o,n,e,c,hd,_⟩:=pl;exact⟨o,e,hd⟩
  ·refine⟨⟨o,I.Xq p o hk,hc⟩,fun a e=>?_⟩;cases e;exact⟨o,I.Xq _ o hk,hd⟩
  ·have z:∃o,s.heap.get? p=some o/\o.ExactDict:=by
    rcases hk with ⟨kvs,hk⟩|⟨kvs,hk⟩
    ·obtain⟨_,_,_,_,o,_,_,e,ex,_⟩:=I.hok p _ hk;exact⟨o,e,ex⟩
    ·obtain⟨_,_,_,_,o,_,_,e,ex,_⟩:=I.hok p _ hk;exact⟨o,e,ex⟩
   obtain⟨o,e,ex⟩:=z;refine⟨⟨o,e,ex.1⟩,fun a e2=>?_⟩;cases e2;exact⟨o,e,ex.2.1⟩
  ·obtain⟨o,_,_,_,e,ex,_⟩:=I.hok p _ hk;refine⟨⟨o,e,ex.1⟩,fun a e2=>?_⟩;cases e2;exact⟨o,e,ex.2.1⟩
 |_=>exact f_ ty
def tBM(K:ai)(T:String)(r:V->List V->Hp->VK->Prop)(to:TE)(t:TA):TE:=fun σ H Q=>to σ H fun x H1=>tyV K T x H1/\t σ H1 fun xs H2=>r x xs H2 Q
variable{o e:ag}{es:List ag}{to:TE}{t:TA}{name:Str}{apos cpos:Pos}{T id:String}{r:V->List V->Hp->VK->Prop}
theorem ajO(pa:PlainAttrs T) (slot:Slot T name id) (hty:typeOf (.builtin id)=pure (.type "method_descriptor")) (hm:MtR X id r) (ho:PE X o to) (ha:PA X (e::es) t)
  (hbase:l9 o name X.env (a_ o X.env)=a_ o X.env:=by rfl)
  (hfew:((di cpos (ba (e::es) X.env)).all (fun x=>!x.1) && (jI cpos (jS [] X.env)).all (fun x=>x.1.isSome)
   && decide ((e::es).length + ([]:List kM).length + (if ([]:List kM).isEmpty then 0 else 1) < 30))=true:=by rfl)
  (hline:(apos.endLine == cpos.line)=true:=by rfl) (hs:ba (e::es) X.env=(false,a_ e X.env)::ba es X.env:=by rfl) (hplain:(di cpos (ba es X.env)).any (·.1)=false:=by rfl) :
  PE X (.Call (.Attribute o name apos) (e::es) [] cpos) (tBM X.K T r to t):=by
 intro pins s σ H Q I h;refine sR hbase hfew hline rfl (jc (ho pins s σ H _ I h) fun v s1 fZ=>?_);obtain⟨x,H1,I1,r1,ty,q1⟩:=fZ;obtain⟨h1,h2⟩:=akT I1 r1 ty;refine⟨T,id,pa,slot,hty,h1,h2,?_⟩;have hA:=ha cpos pins s1 σ H1 _ I1 q1;rw[hs]at hA ⊢;refine sT (by show(false || (di cpos (ba es X.env)).any (·.1))=false;rw[hplain] <;> rfl) (s_ ?_);exact jc hA fun us s2 ⟨vs,H2,I2,r2,q2⟩=>hm pins s2 σ H2 x vs v us Q I2 r1 r2 q2
end
def MtM(X:Cx)(id:String)(r:V->List V->Hp->VK->Prop):Prop :=
 ∀(pins:List (ab×Obj)) (s:ae) (σ:St) (H:Hp) (x:V) (xs:List V) (v:aa) (us:List aa) (Q:VK),Inv X pins σ H s->RelV x v->Vals xs us->r x xs H Q ->
  ah (ar X.prog X.w) X.A (call (.builtin id) (v::us)) (EP X pins σ Q) X.xe s
theorem Vals.one:∀{x:V}{us:List aa},Vals [x] us->∃u,us=[u]/\RelV x u
 |_,_,.cons r .nil=>⟨_,rfl,r⟩
theorem Vals.eraseIdx:∀{xs:List V}{us:List aa}(i:Nat),Vals xs us->Vals (xs.eraseIdx i) (us.eraseIdx i)
 |_,_,_,.nil=>.nil
 |_,_,0,.cons _ t=>t
 |_,_,i + 1,.cons r t=>.cons r (Vals.eraseIdx i t)
theorem Kw{α:Type}:∀(l:List α) (i:Nat),(l.eraseIdx i).length<=l.length
 | [],_=>bo _
 |_::_,0=>n6 _
 |_::r,i + 1=>Nat.succ_le_succ (Kw r i)
section
variable{X:Cx}{pins:List (ab×Obj)}{σ:St}{H:Hp}{s:ae}{l b:ab}{xs ys zs:List V}
theorem Inv.akU{its its':List aa}{n:Nat}{f:Array aa->Array aa}{t':Nat}(I:Inv X pins σ H s)(hH:H l=some (.lst xs))
  (e:s.heap.get? l=some { cls:=.type "list",data:=.seq its.toArray n }) (hf:f its.toArray=its'.toArray) (hv:Vals ys its') (hz:ys.length<=sizeLine) :
  Inv X pins σ (upd H l (.lst ys)) { s with heap:=s.heap.update l (c_ f),toks:=t' }:=by
 have q:=PySem.IsL.update e f;rw[hf]at q;refine I.write (x:=l) (e:=l) (by rw[hH];exact trivial) (.inl rfl) (fun b' u hb hu=>(fF s.heap (c_ f) (dQ hb)).trans hu) ⟨_,q⟩ ?_;exact⟨hz,its',_,hv,q⟩
theorem Inv.anR{its:List aa}{t':Nat}(I:Inv X pins σ H s)(hv:Vals ys its)(hz:ys.length<=sizeLine) :
  Inv X pins σ (upd H s.heap.objs.size (.lst ys)) { s with heap:=s.heap.push { cls:=.type "list",data:=.seq its.toArray },toks:=t' } :=
 I.laid (fun _ _ q=>cb _ q) (bo _) ⟨hz,its,0,hv,cS _ rfl⟩
theorem Inv.fresh(I:Inv X pins σ H s):H s.heap.objs.size=none:=I.hok.fresh (bo _)
theorem Inv.akV(I:Inv X pins σ H s)(hH:H l=some (.lst xs)):xs.length<=sizeLine/\∃(its:List aa) (n:Nat),Vals xs its/\xs.length=its.length/\s.heap.get? l=some { cls:=.type "list",data:=.seq its.toArray n }:=by obtain⟨z,its,n,r,e⟩:=I.hok l _ hH;exact⟨z,its,n,r,r.length,e⟩
theorem adM{n:Nat}(h:n<=sizeLine):pk n=false:=by unfold pk;exact decide_eq_false (by lia)
end
section
variable{X:Cx}
def ahD:V->List V->Hp->VK->Prop:=fun x vs H Q=>∃l xs y,x=.ref l/\vs=[y]/\H l=some (.lst xs)/\xs.length < sizeLine/\Q .non (upd H l (.lst (xs++[y])))
theorem abC:MtM X "list.append" ahD:=by intro pins s σ H x vs v us Q I rx rv h;obtain⟨l,xs,y,rfl,rfl,hH,hz,q⟩:=h;cases rx;obtain⟨u,rfl,ru⟩:=rv.one;obtain⟨z,its,n,r,hl,e⟩:=I.akV hH;refine call_meets F.slot_list_append ⟨_,e,rfl⟩ F.entry_list_append (F.args_list_append_2 _ _) (PySem.list_append l its.toArray n u (by rw[cK];lia)) ⟨e,?_⟩;refine⟨.non,_,I.akU (its':=its++[u]) hH e (by simp) (r.append (.cons ru .nil)) ?_,rfl,q⟩;rw[dy,iO];lia
def akW:V->List V->Hp->VK->Prop:=fun x vs H Q=>∃l xs i k y,x=.ref l/\vs=[.int i]/\H l=some (.lst xs)/\-(2 ^ 63)<=i/\i < 2 ^ 63/\n5 i xs.length=some k/\xs[k]?=some y/\Q y (upd H l (.lst (xs.eraseIdx k)))
theorem adN:MtM X "list.pop" akW:=by
 intro pins s σ H x vs v us Q I rx rv h;obtain⟨l,xs,i,k,y,rfl,rfl,hH,h1,h2,hk,hy,q⟩:=h;cases rx;obtain⟨u,rfl,ru⟩:=rv.one;obtain⟨t,rfl⟩:=ru;obtain⟨z,its,n,r,hl,e⟩:=I.akV hH;obtain⟨w,hw,rw'⟩:=r.get hy;refine call_meets F.slot_list_pop ⟨_,e,rfl⟩ F.entry_list_pop (F.args_list_pop_2 _ _)
  (MeetsSeq.list_pop_at l its.toArray n i t k w (fitsIndex_both h1 h2) (by rw[cK,<- hl];exact hk) (by rw[<- gd];exact hw) (by rw[cK];lia)) ⟨e,?_⟩
 refine⟨y,_,I.akU (its':=its.eraseIdx k) hH e ?_ (r.eraseIdx k) ?_,rw',q⟩
 ·show its.toArray.eraseIdxIfInBounds k=(its.eraseIdx k).toArray;rw[List.eraseIdxIfInBounds_toArray]
 ·have:=Kw xs k;lia
end
section
variable{prog:aE}{w:az}{A:aS}{E:aa->ae->Prop}{s:ae}
end
section
variable{X:Cx}
end
end L2
namespace Att
open PySem PySem.W PySem.Calls PyProof.Rows
theorem Cw{P:Params}{h:Heap}:∀(ns:List Int) (vs:List aa),WellAll P h vs (ns.map WData.int)->n4 vs ns:=by
 intro ns
 induction ns with
 |nil =>
  intro vs w;rw[l8]at w;cases w;exact .nil
 |cons n ns ih =>
  intro vs w;rw[cn]at w;cases w with
  |cons a b =>
   cases a;exact .cons _ _ (ih _ b)
theorem abD{l:l_}{n:Nat}(hn:l.most=some n){P:Params}{h:Heap}{args:List WData}{vals:List aa}
  (hpre:l.row.toRowW.claim.pre args=true) (hwl:WellAll P h vals args) :
  ∃a vs ns,vals=[aa.ref a]/\args=[WData.list (ns.map WData.int)]/\h.get? a=some { cls:=.type "list",data:=.seq vs.toArray }/\n4 vs ns/\ns.length<=n:=by
 have hsh:WShape.hasAll [] args [.list .int]=true:=(pre_splitW hpre).1;have hc:l.pre.holds [] { args:=args }=true:=(pre_splitW hpre).2;obtain⟨d,r,rfl,h1,h2⟩:=hasAllW_cons hsh;obtain rfl:=hasAllW_nil h2;obtain⟨xs,rfl,h3⟩:=hasW_list h1;obtain⟨ns,rfl⟩:=items_int h3;have hlen:ns.length<=n:=by
  unfold l_.pre at hc;have h4:(WTm.not (.lt (.lit (.int (n:Int))) (.len (.arg 0)))).holds [] { args:=[.list (ns.map .int)] }=true:=by have h4:=(holds_andW hc).1;rw[hn]at h4;exact h4
  have h5:=condW_of h4 (w_not (w_lt w_lit (w_len_list (w_arg rfl))));rw[cf]at h5;refine Nat.le_of_not_lt fun q=>?_;have q':(n:Int) < ((ns.length:Nat):Int):=by lia
  first
   | (rw[decide_eq_true q']at h5;exact absurd h5 (by decide))
   | (simp at h5;lia)
 cases hwl with
 |cons w1 w2 =>
  cases w2;cases w1 with
  |list ho hall=>exact⟨_,_,ns,rfl,rfl,ho,Cw ns _ hall,hlen⟩
theorem abE(l:l_)(args:List WData):l.row.toRowW.claim.post args (.bool true) args=true :=
 postW_of (r:=l.row.toRowW) (X:=(true == true))
  (show WShape.has [] (.bool true) .bool=true by first|rfl|decide|simp[WShape.has,WShape.arms,WShape.armsAll])
  (show(WTm.eq .res (.lit (.bool true))).value [] { args:=args,res:=some (.bool true),after:=args }=some (.bool (true == true)) from w_eq_bool (w_res rfl) w_lit) rfl
theorem Sw{l:l_}{n:Nat}{q:aE}{loose:List Str}{XP:(Str->Option aa)->Heap->Prop}{YP:az->Heap->Prop}{d:DefRec}
  (hn:l.most=some n) (hdf:d.params.defaults=[])
  (call:∀(w:az) (s₀ s₁:ae) (mg mb:Str->Option aa) (fa:ab) (o:Obj) (pm cd doc:aa) (a:ab) (vs:List aa) (ns:List Int),
   Ground q loose [] XP w s₀ mg mb s₁.heap->YP w s₁.heap ->
   s₁.heap.get? fa=some o->o.data=.func (docDef d.name d.params d.body d.scope pm cd doc)->s₁.heap.CodeRec cd d.name->mg d.name=some (.ref fa) ->
   s₁.heap.get? a=some { cls:=.type "list",data:=.seq vs.toArray }->n4 vs ns->ns.length<=n->s₁.gens=#[] ->
   f7 (ar l.prog w) md (.call (.ref fa) ⟨[.ref a],[]⟩) (fun r s'=>r=.ok (.ret (.bool true))/\OldK s₁.heap s'.heap/\s'.os=s₁.os/\kF s'.gens) s₁) :
  WalkO q loose XP YP l.row.toRowW d [] (fun f vs=>PySem.call f vs):=by
 intro w s₀ s₁ mg mb G Y fa o pm cd doc dV kV ho hd hcd hD hmg hg args vals as hpre hlay hrd hwl hlo;obtain rfl:dV=.none:=Dflts.none hD hdf;obtain rfl:kV=.none:=Dflts.noKw hD;obtain⟨a,vs,ns,rfl,rfl,hobj,hints,hlen⟩:=abD hn hpre hwl;refine enter_call (me (call w s₀ s₁ mg mb fa o pm cd doc a vs ns G Y ho (fd_plain hd) hcd hmg hobj hints hlen hg) fun r s' hq=>?_);obtain⟨rfl,h2,h3,h4⟩:=hq;exact⟨.inl ⟨.bool true,.bool true,[],rfl,fun _=>rfl,.bool true,abE l _,fun _=>⟨mf.nil,fun _ hm=>(nomatch hm)⟩⟩,h2,h3,h4⟩
section
variable{prog:aE}{w:az}{A:aS}{E:aa->ae->Prop}{s:ae}{K:Frag}
def aqA(h:Heap)(L d:ab):List (ab×Obj):=(bE h.objs.size).filterMap fun a=>if a=L∨a=d then none else (h.get? a).map fun o=>(a,o)
end
end Att
namespace L2
open PySem PySem.Spec PyProof.Rows
theorem vo:∀{vs:List aa}{ns:List Int},n4 vs ns->Vals (ns.map V.int) vs
 |_,_,.nil=>.nil
 |_,_,.cons n t h=>.cons ⟨t,rfl⟩ (vo h)
abbrev KOf{K:ai}{h:Heap}(_:K.In h):ai:=K
def bJ(s:bj):lS:=match s with
 | .FunctionDef _ a _ _ _ _ _ _ _ _=>a
 |_=>{ posonlyargs:=[],args:=[],vararg:=none,kwonlyargs:=[],kw_defaults:=[],kwarg:=none,defaults:=[] }
def bF(s:bj):List bj:=match s with
 | .FunctionDef _ _ b _ _ _ _ _ _ _=>b
 |_=>[]
def aD(s:bj):Scope:=match s with
 | .FunctionDef _ _ _ _ _ _ sc _ _ _=>sc
 |_=>{ kind:=.function,names:=[],isGenerator:=false,isCoroutine:=false }
structure vW (K:ai)(x qual:Str)(st:bj)(f:ab)(fd:ck):Prop where
 ex:∃(oc:aa) (od:Option ab) (kV doc pm:aa) (an:Option ab) (cdv ct:aa) (osl:Array (Option aa)),
  fd=eW x qual (bJ st) (bF st) (aD st) .none kV doc pm an cdv ct/\K.lookup f=some ⟨oc,od,.func fd,osl⟩/\lT K cdv qual=true
 kp:gx K (.ref f)=true
section
variable{P:aE}{w:az}{K:ai}{mg:Str->Option aa}{base:Heap}
theorem vW.binds{x qual:Str}{st:bj}{f:ab}{fd:ck}{ps:List Str}(F:vW K x qual st f fd)
  (h:∀(kV doc pm:aa) (an:Option ab) (cdv ct:aa) (us:List aa),us.length=ps.length->bindArgs (eW x qual (bJ st) (bF st) (aD st) .none kV doc pm an cdv ct) ⟨us,[]⟩=pure (ps.zip us)):Binds K fd ps []:=by
 obtain⟨oc,od,kV,doc,pm,an,cdv,ct,osl,rfl,lk,hcd⟩:=F.ex;exact .all (h kV doc pm an cdv ct)
theorem cU{x qual:Str}{st:bj}{f:ab}{oc:aa}{od an:Option ab}{osl:Array (Option aa)}{kV doc pm cdv ct:aa}(l:K.lookup f=some ⟨oc,od,.func (eW x qual (bJ st) (bF st) (aD st) .none kV doc pm an cdv ct),osl⟩)
  (c:lT K cdv qual=true) (k:gx K (.ref f)=true):vW K x qual st f (eW x qual (bJ st) (bF st) (aD st) .none kV doc pm an cdv ct):=⟨⟨oc,od,kV,doc,pm,an,cdv,ct,osl,rfl,l,c⟩,k⟩
end
theorem abF{n:Nat}(h:n<=1000):n < sizeLine:=j0 h (by decide)
section
variable{X:Cx}
theorem pv(i:Nat) {x:Str}{pos:Pos}(hN:X.N[i]?=some x:=by rfl) (hv:RL X.env.scope x:=by first|exact Or.inl rfl|exact Or.inr (Or.inl rfl)|exact Or.inr (Or.inr rfl)) (hd:(x == ("__debug__":Str))=false:=by decide)
  (hcd:(x == ("__classdict__":Str))=false:=by decide):PE X (.Name x pos) (RW i):=jq hN hv hd hcd
end
def Same(H H':Hp):Prop:=∀b o,H b=some o->H' b=some o
theorem Same.refl(H:Hp):Same H H:=fun _ _ h=>h
theorem Same.trans{H H1 H2:Hp}(a:Same H H1)(b:Same H1 H2):Same H H2:=fun c o h=>b c o (a c o h)
theorem Same.free{H H':Hp}(e:Same H H'){l:ab}(h:H' l=Option.none):H l=Option.none:=by
 cases q:H l with
 |none=>rfl
 |some o =>
  rw[e l o q]at h;cases h
theorem Same.seq{K:ai}{H H':Hp}{a:ab}{xs:List V}(e:Same H H')(h:tL K H a xs):tL K H' a xs:=by
 rcases h with (h|⟨o,h⟩)|h
 ·exact .inl (.inl (e _ _ h))
 ·exact .inl (.inr ⟨o,e _ _ h⟩)
 ·exact .inr h
end L2
namespace Vl
open PySem PySem.Spec L2
inductive D where
 |non|bl (b:Bool)|int (i:Int)|str (x:Str)|tup (xs:List D)|lst (xs:List D)|nU (c:Str) (n:Int)|jW (ks:List (List Int)) (ds:List D)
def ajP(a C:ab)(n:Int):Heap->Prop:=fun h=>∃o vs,h.get? a=some o/\o.cls=.ref C/\o.data=.fields vs/\n=0
def UG(K:ai)(G:Hp):ab->List Int->Prop:=fun b ks=>pR K G b (ks.map V.int)
def MF(ks:List Int):Int:=reduceHash (cv.Tuple.tupleHashOf (ks.map hashInt))
def pU(U:ab->List Int->Prop)(a:ab)(kvs:List (List Int×V)):Heap->Prop:=fun h=>∃(o:Obj) (es:Array kP) (ep:Nat) (xs:List (List Int×ab×aa)),h.get? a=some o/\o.ExactDict/\o.data=.dict es ep/\(a == gp)=false /\
 es.toList=xs.map (fun x=>⟨MF x.1,.ref x.2.1,x.2.2⟩)/\(xs.map (·.1)).Nodup/\Paired (fun(p:List Int×V) (q:List Int×ab×aa)=>p.1=q.1/\U q.2.1 q.1/\RelV p.2 q.2.2) kvs xs
def BW(H:Hp)(d:ab)(U:ab->List Int->Prop)(bK:List (List Int×V)):Prop:=∃φ:Heap->Prop,H d=some (.ext φ)/\∀h,φ h->pU U d bK h
theorem aao{H:Hp}{d:ab}{U:ab->List Int->Prop}{bK:List (List Int×V)}(h:H d=some (.ext (pU U d bK))):BW H d U bK:=⟨_,h,fun _ z=>z⟩
def BX(G:Hp)(a:ab)(U:ab->List Int->Prop)(bK:List (List Int×V)):Prop:=∃o,G a=some (.ext fun h=>h.get? a=some o/\pU U a bK h)
theorem BX.mono{G G':Hp}{a:ab}{U:ab->List Int->Prop}{bK:List (List Int×V)}(e:Same G G')(h:BX G a U bK):BX G' a U bK:=let ⟨o,q⟩:=h;⟨o,e _ _ q⟩
theorem BX.at{G:Hp}{a:ab}{U:ab->List Int->Prop}{bK:List (List Int×V)}(h:BX G a U bK):BW G a U bK:=let ⟨_,q⟩:=h;⟨_,q,fun _ z=>z.2⟩
mutual
def Rep(K:ai)(G:Hp):D->V->Prop
 | .non,v=>v=.non
 | .bl b,v=>v=.bl b
 | .int i,v=>v=.int i
 | .str x,v=>v=.str x
 | .tup ds,v=>∃a vs,v=.ref a/\pR K G a vs/\bI K G ds vs
 | .lst ds,v=>∃a vs,v=.ref a/\tL K G a vs/\bI K G ds vs
 | .nU c n,v=>∃a C,v=.ref a/\pM K b0 c=some (some (.ref C))/\G a=some (.ext (ajP a C n))
 | .jW ks ds,v=>∃a U bK,v=.ref a/\BX G a U bK/\(∀b js,U b js->UG K G b js)/\bK.map (·.1)=ks/\bI K G ds (bK.map (·.2))
def bI(K:ai)(G:Hp):List D->List V->Prop
 | [],vs=>vs=[]
 |d::ds,vs=>∃v vs',vs=v::vs'/\Rep K G d v/\bI K G ds vs'
end
theorem Same.gW{K:ai}{H H':Hp}{a:ab}{xs:List V}(e:Same H H')(h:pR K H a xs):pR K H' a xs:=by
 rcases h with (h|⟨o,h⟩)|h
 ·exact .inl (.inl (e _ _ h))
 ·exact .inl (.inr ⟨o,e _ _ h⟩)
 ·exact .inr h
mutual
theorem Rep.mono{K:ai}{G G':Hp}(e:Same G G'):∀{d:D}{v:V},Rep K G d v->Rep K G' d v
 | .non,_,h=>by simp only[Rep]at h ⊢;exact h
 | .bl _,_,h=>by simp only[Rep]at h ⊢;exact h
 | .int _,_,h=>by simp only[Rep]at h ⊢;exact h
 | .str _,_,h=>by simp only[Rep]at h ⊢;exact h
 | .tup ds,_,h=>by simp only[Rep]at h ⊢;obtain⟨a,vs,e1,h1,h2⟩:=h;exact⟨a,vs,e1,Same.gW e h1,bI.mono e h2⟩
 | .lst ds,_,h=>by simp only[Rep]at h ⊢;obtain⟨a,vs,e1,h1,h2⟩:=h;exact⟨a,vs,e1,e.seq h1,bI.mono e h2⟩
 | .nU c n,_,h=>by simp only[Rep]at h ⊢;obtain⟨a,C,e1,h1,h2⟩:=h;exact⟨a,C,e1,h1,e _ _ h2⟩
 | .jW ks ds,_,h=>by simp only[Rep]at h ⊢;obtain⟨a,U,bK,e1,h1,h2,h3,h4⟩:=h;exact⟨a,U,bK,e1,h1.mono e,fun b js q=>Same.gW e (h2 b js q),h3,bI.mono e h4⟩
theorem bI.mono{K:ai}{G G':Hp}(e:Same G G'):∀{ds:List D}{vs:List V},bI K G ds vs->bI K G' ds vs
 | [],_,h=>by simp only[bI]at h ⊢;exact h
 |d::ds,_,h=>by simp only[bI]at h ⊢;obtain⟨v,vs',e1,h1,h2⟩:=h;exact⟨v,vs',e1,Rep.mono e h1,bI.mono e h2⟩
end
section
variable{K:ai}{G:Hp}
theorem aM{i:Int}{v:V}:Rep K G (.int i) v↔v=.int i:=by simp only[Rep]
theorem bL{i:Bool}{v:V}:Rep K G (.bl i) v↔v=.bl i:=by simp only[Rep]
theorem bT{v:V}:Rep K G .non v↔v=.non:=by simp only[Rep]
theorem bY{x:Str}{v:V}:Rep K G (.str x) v↔v=.str x:=by simp only[Rep]
theorem bA{ds:List D}{v:V}:Rep K G (.tup ds) v↔∃a vs,v=.ref a/\pR K G a vs/\bI K G ds vs:=by simp only[Rep]
theorem aY{ds:List D}{v:V}:Rep K G (.lst ds) v↔∃a vs,v=.ref a/\tL K G a vs/\bI K G ds vs:=by simp only[Rep]
theorem aap{c:Str}{n:Int}{v:V}:Rep K G (.nU c n) v↔∃a C,v=.ref a/\pM K b0 c=some (some (.ref C))/\G a=some (.ext (ajP a C n)):=by simp only[Rep]
theorem vp{ks:List (List Int)}{ds:List D}{v:V}:Rep K G (.jW ks ds) v↔∃a U bK,v=.ref a/\BX G a U bK/\(∀b js,U b js->UG K G b js)/\bK.map (·.1)=ks/\bI K G ds (bK.map (·.2)):=by simp only[Rep]
theorem bD{vs:List V}:bI K G [] vs↔vs=[]:=by simp only[bI]
theorem aQ{d:D}{ds:List D}{vs:List V}:bI K G (d::ds) vs↔∃v vs',vs=v::vs'/\Rep K G d v/\bI K G ds vs':=by simp only[bI]
theorem bI.length:∀{ds:List D}{vs:List V},bI K G ds vs->ds.length=vs.length
 | [],_,h=>by rw[bD.mp h];rfl
 |d::ds,_,h=>by obtain⟨v,vs',rfl,_,h2⟩:=aQ.mp h;simp[bI.length h2]
theorem bI.get:∀{ds:List D}{vs:List V}{i:Nat}{d:D},bI K G ds vs->ds[i]?=some d->∃v,vs[i]?=some v/\Rep K G d v
 | [],_,_,_,h,e=>by simp at e
 |d::ds,_,i,x,h,e=>by
  obtain⟨v,vs',rfl,h1,h2⟩:=aQ.mp h;cases i with
  |zero=>simp at e;subst e;exact⟨v,by simp,h1⟩
  |succ i=>obtain⟨u,q1,q2⟩:=bI.get (i:=i) h2 (by simpa using e);exact⟨u,by simpa using q1,q2⟩
theorem bI.get':∀{ds:List D}{vs:List V}{i:Nat}{v:V},bI K G ds vs->vs[i]?=some v->∃d,ds[i]?=some d/\Rep K G d v
 | [],_,_,_,h,e=>by rw[bD.mp h]at e;simp at e
 |d::ds,_,i,x,h,e=>by
  obtain⟨v,vs',rfl,h1,h2⟩:=aQ.mp h;cases i with
  |zero=>simp at e;subst e;exact⟨d,by simp,h1⟩
  |succ i=>obtain⟨u,q1,q2⟩:=bI.get' (i:=i) h2 (by simpa using e);exact⟨u,by simpa using q1,q2⟩
theorem bI.append:∀{ds es:List D}{vs us:List V},bI K G ds vs->bI K G es us->bI K G (ds++es) (vs++us)
 | [],_,_,_,h,h'=>by rw[bD.mp h];exact h'
 |d::ds,_,_,_,h,h'=>by obtain⟨v,vs',rfl,h1,h2⟩:=aQ.mp h;exact aQ.mpr ⟨v,_,rfl,h1,bI.append h2 h'⟩
theorem bI.one{d:D}{v:V}(h:Rep K G d v):bI K G [d] [v]:=aQ.mpr ⟨v,[],rfl,h,bD.mpr rfl⟩
theorem bI.drop:∀{ds:List D}{vs:List V}(n:Nat),bI K G ds vs->bI K G (ds.drop n) (vs.drop n)
 |ds,vs,0,h=>by simpa using h
 | [],_,n + 1,h=>by rw[bD.mp h];simpa using bD.mpr rfl
 |d::ds,_,n + 1,h=>by obtain⟨v,vs',rfl,h1,h2⟩:=aQ.mp h;simpa using bI.drop n h2
theorem bI.take:∀{ds:List D}{vs:List V}(n:Nat),bI K G ds vs->bI K G (ds.take n) (vs.take n)
 |ds,vs,0,h=>by simpa using bD.mpr rfl
 | [],_,n + 1,h=>by rw[bD.mp h];simpa using bD.mpr rfl
 |d::ds,_,n + 1,h=>by obtain⟨v,vs',rfl,h1,h2⟩:=aQ.mp h;simpa using aQ.mpr ⟨v,_,rfl,h1,bI.take n h2⟩
theorem vA(ns:List Int):bI K G (ns.map D.int) (ns.map V.int):=by
 induction ns with
 |nil=>exact bD.mpr rfl
 |cons n ns ih=>exact aQ.mpr ⟨_,_,rfl,aM.mpr rfl,ih⟩
end
inductive Rs (α:Type) where
 |ok (a:α)|ex (c:Str) (n:Int)|no
def Rs.bind{α β:Type}:Rs α->(α->Rs β)->Rs β
 | .ok a,k=>k a
 | .ex c n,_=>.ex c n
 | .no,_=>.no
inductive Sl where
 |no|fz (d:D)|ow (ds:List D)|od (kvs:List (List Int×D))|op (ds:List D)
def Sl.own:Sl->Bool
 | .ow _=>true
 | .od _=>true
 | .op _=>true
 |_=>false
inductive fu (K:ai) (G:Hp):List (List Int×D)->List (List Int×V)->Prop
 |nil:fu K G [] []
 |cons {k:List Int}{d:D}{v:V}{kvs:List (List Int×D)}{bK:List (List Int×V)}:Rep K G d v->fu K G kvs bK->fu K G ((k,d)::kvs) ((k,v)::bK)
theorem fu.mono{K:ai}{G G':Hp}(e:Same G G'){kvs:List (List Int×D)}{bK:List (List Int×V)}(h:fu K G kvs bK):fu K G' kvs bK:=by
 induction h with
 |nil=>exact .nil
 |cons r _ ih=>exact .cons (r.mono e) ih
def tV(K:ai)(G:Hp)(a:ab):Sl->HO->Prop
 | .ow ds,o=>∃vs,o=.lst vs/\bI K G ds vs
 | .op ds,o=>∃vs,o=.lst vs/\bI K G ds vs
 | .od kvs,o=>∃U bK,o=.ext (pU U a bK)/\(∀b ks,U b ks->UG K G b ks)/\fu K G kvs bK
 |_,_=>False
theorem tV.mono{K:ai}{G G':Hp}(e:Same G G'){a:ab}{z:Sl}{o:HO}(h:tV K G a z o):tV K G' a z o:=by
 cases z with
 |ow ds=>obtain⟨vs,h1,h2⟩:=h;exact⟨vs,h1,h2.mono e⟩
 |od kvs=>obtain⟨U,bK,h1,h2,h3⟩:=h;exact⟨U,bK,h1,fun b ks q=>Same.gW e (h2 b ks q),h3.mono e⟩
 |op ds=>obtain⟨vs,h1,h2⟩:=h;exact⟨vs,h1,h2.mono e⟩
 |_=>exact h.elim
theorem tV.tup{K:ai}{G:Hp}{a:ab}{z:Sl}{xs:List V}(h:tV K G a z (.tup xs)):False:=by
 cases z with
 |ow ds=>obtain⟨vs,h1,h2⟩:=h;cases h1
 |od kvs=>obtain⟨U,bK,h1,h2,h3⟩:=h;cases h1
 |op ds=>obtain⟨vs,h1,h2⟩:=h;cases h1
 |_=>exact h
abbrev au:=List Sl
structure Bs where
 g:Hp
 h:Hp
 p:ab
abbrev Wi:=Str->Int->St->Hp->Prop
def aaq(fd:ck):Bool:=match fd.body with
 | .stmts ss=>(match ss.getLast? with
  |some (.Return (some (.Call _ _ (k::_) _)) _)=>(match k.value with|.Lambda _ _ _ _=>true|_=>false)
  |_=>false)
 |_=>false
def adO(K:ai):List (ab×Str):=K.filterMap fun p=>match p.2.data with
 | .func fd=>if aaq fd then (match fd.code with
  | .ref c=>(match K.lookup c with
   |some oc=>(match oc.data with|.fields vs=>(match (vs[11]?:Option aa) with|some (.ref P)=>some (P,fd.qualname++(".<locals>.<lambda>":Str))|_=>none)|_=>none)
   |none=>none)
  |_=>none) else none
 |_=>none
def Cok(K:ai)(H:Hp):Prop:=∀x∈adO K,H x.1=some (.tab x.2)
theorem Cok.same{K:ai}{H H':Hp}(h:Cok K H)(e:Same H H'):Cok K H':=fun x m=>e _ _ (h x m)
theorem Cok.upd{K:ai}{H:Hp}{a:ab}{o u:HO}(h:Cok K H)(e:H a=some u)(n:∀q,u≠.tab q):Cok K (upd H a o):=fun x m=>by have:=h x m;rw[bh (fun z=>by subst z;rw[e]at this;exact n _ (c9 this))];exact this
theorem tV.tab{K:ai}{G:Hp}{a:ab}{z:Sl}{o:HO}(h:tV K G a z o):∀q,o≠.tab q:=fun q e=>by
 subst e;cases z with
 |ow ds=>obtain⟨vs,h1,h2⟩:=h;cases h1
 |od kvs=>obtain⟨U,bK,h1,h2,h3⟩:=h;cases h1
 |op ds=>obtain⟨vs,h1,h2⟩:=h;cases h1
 |_=>exact h
structure Ext (G H G' H':Hp):Prop where
 gg:Same G G'
 hh:Same H H'
 gh:Same G' H'
 tp:∀a xs,H' a=some (.tup xs)->G' a=some (.tup xs)
 nw:∀b o,H b=some o->G b=none->G' b=none
theorem Ext.trans{G H G1 H1 G2 H2:Hp}(a:Ext G H G1 H1)(b:Ext G1 H1 G2 H2):Ext G H G2 H2 :=
 ⟨a.gg.trans b.gg,a.hh.trans b.hh,b.gh,b.tp,fun c o h n=>b.nw c o (a.hh c o h) (a.nw c o h n)⟩
theorem Ext.refl{G H:Hp}(gh:Same G H)(tp:∀a xs,H a=some (.tup xs)->G a=some (.tup xs)):Ext G H G H:=⟨.refl _,.refl _,gh,tp,fun _ _ _ n=>n⟩
structure SR (K:ai)(B:Bs)(σ:St)(H:Hp)(ρ:au)(G:Hp):Prop where
 en:Ext B.1 B.2 G H
 len:ρ.length=σ.length
 fz:∀(i:Nat) (d:D),ρ[i]?=some (.fz d)->∃v,σ[i]?=some (some v)/\Rep K G d v
 own:∀(i:Nat) (z:Sl),ρ[i]?=some z->z.own=true->∃a o,σ[i]?=some (some (.ref a))/\H a=some o/\G a=none/\B.2 a=none/\tV K G a z o
 ap:∀(i j:Nat) (z z':Sl) (a:ab),ρ[i]?=some z->z.own=true->ρ[j]?=some z'->z'.own=true->σ[i]?=some (some (.ref a))->σ[j]?=some (some (.ref a))->i=j
 tie:∀(i:Nat) (ds:List D) (a:ab),ρ[i]?=some (.op ds)->σ[i]?=some (some (.ref a))->a=B.3
 co:Cok K H
structure Ex0 (K:ai)(G H:Hp):Prop extends Ext G H G H where
 co:Cok K H
section
variable{K:ai}{B:Bs}{σ:St}{H H' G G':Hp}{ρ:au}
theorem SR.wL(h:SR K B σ H ρ G):Ext G H G H:=.refl h.en.gh h.en.tp
theorem SR.ext(h:SR K B σ H ρ G)(e:Ext G H G' H'):SR K B σ H' ρ G' where
 en:=h.en.trans e
 len:=h.len
 fz:=fun i d q=>let ⟨v,h1,h2⟩:=h.fz i d q;⟨v,h1,h2.mono e.gg⟩
 own:=fun i z q w=>let ⟨a,o,h1,h2,h3,h4,h5⟩:=h.own i z q w;⟨a,o,h1,e.hh _ _ h2,e.nw _ _ h2 h3,h4,h5.mono e.gg⟩
 ap:=h.ap
 tie:=h.tie
 co:=h.co.same e.hh
theorem SR.ex0(h:SR K B σ H ρ G):Ex0 K G H:=⟨h.wL,h.co⟩
theorem SR.set(h:SR K B σ H ρ G){i:Nat}{d:D}{v:V}(r:Rep K G d v):SR K B (σ.set i (some v)) H (ρ.set i (.fz d)) G where
 en:=h.en
 len:=by simp[h.len]
 fz:=fun j d' q=>by
  by_cases e:i=j
  ·subst e;have hl:i < ρ.length:=by have:=(dC.mp q).1;simpa using this
   rw[dE hl]at q;cases q;exact⟨v,dE (by rw[<- h.len];exact hl),r⟩
  ·rw[de e]at q;rw[de e];exact h.fz j d' q
 own:=fun j z q w=>by
  by_cases e:i=j
  ·subst e;have hl:i < ρ.length:=by have:=(dC.mp q).1;simpa using this
   rw[dE hl]at q;cases q;cases w
  ·rw[de e]at q;rw[de e];exact h.own j z q w
 ap:=fun j k z z' a q1 w1 q2 w2 q3 q4=>by
  have ne:∀(l:Nat) (z:Sl),(ρ.set i (.fz d))[l]?=some z->z.own=true->i≠l:=fun l z q w e=>by
   subst e;have hl:i < ρ.length:=by have:=(dC.mp q).1;simpa using this
   rw[dE hl]at q;cases q;cases w
  have n1:=ne j z q1 w1;have n2:=ne k z' q2 w2;rw[de n1]at q1 q3;rw[de n2]at q2 q4;exact h.ap j k z z' a q1 w1 q2 w2 q3 q4
 tie:=fun j ds a q1 q2=>by
  have e:i≠j:=fun e=>by
   subst e;have hl:i < ρ.length:=by have:=(dC.mp q1).1;simpa using this
   rw[dE hl]at q1;cases q1
  rw[de e]at q1 q2;exact h.tie j ds a q1 q2
 co:=h.co
theorem SR.ow(h:SR K B σ H ρ G)(i:Nat)(ds:List D)(q:ρ[i]?=some (.ow ds)):∃a vs,σ[i]?=some (some (.ref a))/\H a=some (.lst vs)/\G a=none/\B.2 a=none/\bI K G ds vs:=by obtain⟨a,o,h1,h2,h3,h4,vs,rfl,h5⟩:=h.own i _ q rfl;exact⟨a,vs,h1,h2,h3,h4,h5⟩
theorem xX(gh:Same G H)(tp:∀a xs,H a=some (.tup xs)->G a=some (.tup xs)){p:ab}{xs:List V}(hp:H p=none):Ext G H (upd G p (.tup xs)) (upd H p (.tup xs)) where
 gg:=fun b o e=>by rw[bh (bf (gh _ _ e) hp)];exact e
 hh:=fun b o e=>by rw[bh (bf e hp)];exact e
 gh:=fun b o e=>by
  by_cases q:b=p
  ·subst q;rw[bH]at e ⊢;exact e
  ·rw[bh q]at e ⊢;exact gh _ _ e
 tp:=fun b ys e=>by
  by_cases q:b=p
  ·subst q;rw[bH]at e ⊢;exact e
  ·rw[bh q]at e ⊢;exact tp _ _ e
 nw:=fun b o e n=>by rw[bh (bf e hp)];exact n
theorem rA(gh:Same G H)(tp:∀a xs,H a=some (.tup xs)->G a=some (.tup xs)){p:ab}{xs:List V}(hp:H p=none):Ext G H (upd G p (.lst xs)) (upd H p (.lst xs)) where
 gg:=fun b o e=>by rw[bh (bf (gh _ _ e) hp)];exact e
 hh:=fun b o e=>by rw[bh (bf e hp)];exact e
 gh:=fun b o e=>by
  by_cases q:b=p
  ·subst q;rw[bH]at e ⊢;exact e
  ·rw[bh q]at e ⊢;exact gh _ _ e
 tp:=fun b ys e=>by
  by_cases q:b=p
  ·subst q;rw[bH]at e;cases e
  ·rw[bh q]at e ⊢;exact tp _ _ e
 nw:=fun b o e n=>by rw[bh (bf e hp)];exact n
theorem aar(gh:Same G H)(tp:∀a xs,H a=some (.tup xs)->G a=some (.tup xs)){p:ab}{o:HO}(ho:∀xs,o≠.tup xs)(hp:H p=none):Ext G H G (upd H p o) where
 gg:=.refl _
 hh:=fun b o e=>by rw[bh (bf e hp)];exact e
 gh:=fun b o e=>by rw[bh (bf (gh _ _ e) hp)];exact gh _ _ e
 tp:=fun b ys e=>by
  by_cases q:b=p
  ·subst q;rw[bH]at e;cases e;exact absurd rfl (ho ys)
  ·rw[bh q]at e;exact tp _ _ e
 nw:=fun b o e n=>n
theorem MJ(gh:Same G H)(tp:∀a xs,H a=some (.tup xs)->G a=some (.tup xs)){p:ab}{xs:List V}(hp:H p=none):Ext G H G (upd H p (.lst xs)) where
 gg:=.refl _
 hh:=fun b o e=>by rw[bh (bf e hp)];exact e
 gh:=fun b o e=>by rw[bh (bf (gh _ _ e) hp)];exact gh _ _ e
 tp:=fun b ys e=>by
  by_cases q:b=p
  ·subst q;rw[bH]at e;cases e
  ·rw[bh q]at e;exact tp _ _ e
 nw:=fun b o e n=>n
end
def Post(K:ai)(W:Wi)(σ:St)(G H:Hp)(r:Rs D)(Q:VK):Prop :=
 match r with
 | .ok d=>∀v H' G',Ext G H G' H'->Rep K G' d v->Q v H'
 | .ex c n=>∀H' G',Ext G H G' H'->W c n σ H'
 | .no=>False
def tF(K:ai)(B:Bs)(W:Wi)(f:au->Rs D):TE:=fun σ H Q=>∃ρ G,SR K B σ H ρ G/\Post K W σ G H (f ρ) Q
def SE(X:Cx)(B:Bs)(W:Wi)(e:ag)(f:au->Rs D):Prop:=PE X e (tF X.K B W f)
theorem PE.imp{X:Cx}{e:ag}{t t':TE}(h:PE X e t)(i:∀σ H Q,t' σ H Q->t σ H Q):PE X e t':=fun pins s σ H Q I q=>h pins s σ H Q I (i σ H Q q)
theorem PT.imp{X:Cx}{e:ag}{t t':TT}(h:PT X e t)(i:∀σ H Q,t' σ H Q->t σ H Q):PT X e t':=fun pins s σ H Q I q=>h pins s σ H Q I (i σ H Q q)
theorem PA.imp{X:Cx}{e:List ag}{t t':TA}(h:PA X e t)(i:∀σ H Q,t' σ H Q->t σ H Q):PA X e t':=fun pos pins s σ H Q I q=>h pos pins s σ H Q I (i σ H Q q)
theorem PS.imp{X:Cx}{e:bj}{t t':TS}(h:PS X e t)(i:∀De σ H,t' De σ H->t De σ H):PS X e t':=fun pins s σ H De I q=>h pins s σ H De I (i De σ H q)
theorem Xw.imp{X:Cx}{e:List bj}{t t':TS}(h:Xw X e t)(i:∀De σ H,t' De σ H->t De σ H):Xw X e t':=fun pins s σ H De I q=>h pins s σ H De I (i De σ H q)
section
variable{X:Cx}{K:ai}{B:Bs}{W:Wi}{σ:St}{G H:Hp}{ρ:au}{Q Q':VK}
theorem Post.mono{r:Rs D}(h:Post K W σ G H r Q)(i:∀v H',Q v H'->Q' v H'):Post K W σ G H r Q':=by
 cases r with
 |ok d=>exact fun v H' G' e r=>i _ _ (h v H' G' e r)
 |ex c n=>exact h
 |no=>exact h
theorem Post.ext{r:Rs D}{G' H':Hp}(e:Ext G H G' H')(h:Post K W σ G H r Q):Post K W σ G' H' r Q:=by
 cases r with
 |ok d=>exact fun v Sx G'' e' r=>h v Sx G'' (e.trans e') r
 |ex c n=>exact fun Sx G'' e'=>h Sx G'' (e.trans e')
 |no=>exact h
theorem Post.bind{r:Rs D}{k:D->Rs D}(h:Post K W σ G H (r.bind k) Q) :
  Post K W σ G H r fun v H1=>∃G1 d,Ext G H G1 H1/\Rep K G1 d v/\Post K W σ G1 H1 (k d) Q:=by
 cases r with
 |ok d=>exact fun v H' G' e r=>⟨G',d,e,r,Post.ext e h⟩
 |ex c n=>exact h
 |no=>exact h
theorem Post.ok{d:D}{v:V}(s:SR K B σ H ρ G)(h:Post K W σ G H (.ok d) Q)(r:Rep K G d v):Q v H:=h v H G s.wL r
theorem vB{f:au->Rs D}{k:au->D->Rs D}(h:tF K B W (fun ρ=>(f ρ).bind (k ρ)) σ H Q) :
  tF K B W f σ H fun v H1=>∃ρ G1 d,SR K B σ H1 ρ G1/\Rep K G1 d v/\Post K W σ G1 H1 (k ρ d) Q:=by
 obtain⟨ρ,G,s,p⟩:=h;exact⟨ρ,G,s,p.bind.mono fun v H1 ⟨G1,d,e,r,q⟩=>⟨ρ,G1,d,s.ext e,r,q⟩⟩
theorem adP{f:au->Rs D}{k:D->D->Rs D}{v:V}(h:∃ρ G1 d,SR K B σ H ρ G1/\Rep K G1 d v/\Post K W σ G1 H ((f ρ).bind (k d)) Q) :
  tF K B W f σ H fun u H1=>∃ρ G1 d d',SR K B σ H1 ρ G1/\Rep K G1 d v/\Rep K G1 d' u/\Post K W σ G1 H1 (k d d') Q:=by
 obtain⟨ρ,G,d,s,r,p⟩:=h;exact⟨ρ,G,s,p.bind.mono fun u H1 ⟨G1,d',e,r',q⟩=>⟨ρ,G1,d,d',s.ext e,r.mono e.gg,r',q⟩⟩
def aH(i:Nat):au->Rs D:=fun ρ=>match ρ[i]? with|some (.fz d)=>.ok d|_=>.no
def fC(d:D):au->Rs D:=fun _=>.ok d
theorem akX{e:ag}{i:Nat}(h:PE X e (RW i)):SE X B W e (aH i):=PE.imp h fun σ H Q ⟨ρ,G,s,p⟩=>by
 unfold aH at p;cases q:ρ[i]? with
 |none=>rw[q]at p;exact p.elim
 |some x =>
  rw[q]at p;cases x with
  |no=>exact p.elim
  |ow _=>exact p.elim
  |od _=>exact p.elim
  |op _=>exact p.elim
  |fz d =>
   obtain⟨v,h1,h2⟩:=s.fz i d q;exact⟨v,h1,Post.ok s p h2⟩
theorem sv(i:Nat) {x:Str}{pos:Pos}(hN:X.N[i]?=some x:=by rfl) (hv:RL X.env.scope x:=by first|exact Or.inl rfl|exact Or.inr (Or.inl rfl)|exact Or.inr (Or.inr rfl)) (hd:(x == ("__debug__":Str))=false:=by decide)
  (hcd:(x == ("__classdict__":Str))=false:=by decide):SE X B W (.Name x pos) (aH i):=akX (jq hN hv hd hcd)
theorem anS{e:ag}{v:V}{d:D}(h:PE X e (tC v))(r:∀G,Rep X.K G d v):SE X B W e (fC d):=PE.imp h fun σ H Q ⟨ρ,G,s,p⟩=>Post.ok s p (r G)
theorem aJ{i:Int}{j pos}:SE X B W (.Constant (.int i) j pos) (fC (.int i)):=anS aky fun _=>aM.mpr rfl
theorem jE{b:Bool}{j pos}:SE X B W (.Constant (.bool b) j pos) (fC (.bl b)):=anS ano fun _=>bL.mpr rfl
def bW(g:D->D->Rs D)(fa fb:au->Rs D):au->Rs D:=fun ρ=>(fa ρ).bind fun x=>(fb ρ).bind fun y=>g x y
def Sy(K:ai)(r:R2)(g:D->D->Rs D):Prop :=
 ∀(B:Bs) (W:Wi) (σ:St) (ρ:au) (G H:Hp) (x y:D) (v u:V) (Q:VK),SR K B σ H ρ G->Rep K G x v->Rep K G y u->Post K W σ G H (g x y) Q->r v u H Q
theorem En{r:R2}{g:D->D->Rs D}{fa fb:au->Rs D}(ho:Sy K r g)(h:tF K B W (bW g fa fb) σ H Q):tOp r (tF K B W fa) (tF K B W fb) σ H Q:=by obtain⟨ρ,G,s,p⟩:=vB (k:=fun ρ x=>(fb ρ).bind fun y=>g x y) h;refine⟨ρ,G,s,p.mono fun v H1 h1=>?_⟩;obtain⟨ρ,G,s,p⟩:=adP (k:=g) h1;exact⟨ρ,G,s,p.mono fun u H2 ⟨ρ2,G2,d,d',s2,r1,r2,p2⟩=>ho B W σ ρ2 G2 H2 d d' v u Q s2 r1 r2 p2⟩
theorem Ky{a b:ag}{op:Operator}{pos:Pos}{r:R2}{g:D->D->Rs D}{fa fb:au->Rs D}(ho:wg X (hV op) r)(hg:Sy X.K r g)(ha:SE X B W a fa)(hb:SE X B W b fb):SE X B W (.BinOp a op b pos) (bW g fa fb) :=
 PE.imp (ajK ho ha hb) fun _ _ _ h=>En hg h
def gI(C:Int->Int->Prop)[∀i j,Decidable (C i j)](g:Int->Int->D):D->D->Rs D
 | .int i,.int j=>if C i j then .ok (g i j) else .no
 |_,_=>.no
theorem SJ{C:Int->Int->Prop}[∀i j,Decidable (C i j)]{gv:Int->Int->V}{g:Int->Int->D}(hg:∀G i j,Rep K G (g i j) (gv i j)):Sy K (rI C gv) (gI C g):=by
 intro B W σ ρ G H x y v u Q s rx ry p;cases x <;> first|exact p.elim|skip
 rename_i i;cases y <;> first|exact p.elim|skip
 rename_i j;simp only[gI]at p;by_cases c:C i j
 ·rw[if_pos c]at p;exact⟨i,j,aM.mp rx,aM.mp ry,c,Post.ok s p (hg G i j)⟩
 ·rw[if_neg c]at p;exact p.elim
def gI0(g:Int->Int->D):D->D->Rs D
 | .int i,.int j=>.ok (g i j)
 |_,_=>.no
theorem Eo{gv:Int->Int->V}{g:Int->Int->D}(hg:∀G i j,Rep K G (g i j) (gv i j)):Sy K (rI0 gv) (gI0 g):=by
 intro B W σ ρ G H x y v u Q s rx ry p;cases x <;> first|exact p.elim|skip
 rename_i i;cases y <;> first|exact p.elim|skip
 rename_i j;exact⟨i,j,aM.mp rx,aM.mp ry,Post.ok s p (hg G i j)⟩
end
mutual
def xQ:D->D->Bool
 | .tup a,.tup b=>Ep a b
 | .lst a,.lst b=>Ep a b
 | .non,.non=>true
 | .bl a,.bl b=>a == b
 | .bl a,.int b=>(if a then 1 else 0) == b
 | .int a,.bl b=>a == (if b then 1 else 0)
 | .int a,.int b=>a == b
 | .str a,.str b=>a == b
 | .nU a b,.nU c d=>a == c && b == d
 | .jW _ _,.jW _ _=>true
 |_,_=>false
def Ep:List D->List D->Bool
 | [],[]=>true
 |a::as,b::bs=>xQ a b && Ep as bs
 |_,_=>false
end
mutual
def cV:D->Nat
 | .tup a=>jX a + 1
 | .lst a=>jX a + 1
 | .nU _ _=>bu
 | .jW _ _=>bu
 |_=>0
def jX:List D->Nat
 | []=>0
 |a::as=>Nat.max (cV a) (jX as)
end
mutual
theorem xY:∀d:D,xQ d d=true
 | .non=>by simp[xQ]
 | .bl _=>by simp[xQ]
 | .int _=>by simp[xQ]
 | .str _=>by simp[xQ]
 | .tup a=>by simp[xQ,zP a]
 | .lst a=>by simp[xQ,zP a]
 | .nU _ _=>by simp[xQ]
 | .jW _ _=>by simp[xQ]
theorem zP:∀d:List D,Ep d d=true
 | []=>by simp[Ep]
 |a::as=>by simp[Ep,xY a,zP as]
end
theorem eN:∀(a b:List D),((bE (min a.length b.length)).all (fun j=>xQ (a.getD j .non) (b.getD j .non)) && a.length == b.length)=Ep a b
 | [],[]=>by simp[Ep]
 | [],b::bs=>by simp[Ep]
 |a::as,[]=>by simp[Ep]
 |a::as,b::bs=>by have ih:=eN as bs;rw[Ep,<- ih];rw[show min (a::as).length (b::bs).length=min as.length bs.length + 1 by simp];rw[mh,td,tf];simp[pS,Bool.and_assoc]
theorem MK{d:D}:∀{ds:List D},d∈ds->cV d<=jX ds
 | [],h=>by cases h
 |x::xs,h=>by
  rw[jX];rcases bP.mp h with rfl|h
  ·exact Nat.le_max_left _ _
  ·exact cz (MK h) (Nat.le_max_right _ _)
section
variable{X:Cx}{pins:List (ab×Obj)}{σ:St}{H:Hp}{s:ae}
theorem SN(I:Inv X pins σ H s){a:ab}{xs ys:List V}(h:tL X.K H a xs)(h':pR X.K H a ys):False:=by obtain⟨_,_,⟨o,n,e,c,_,_⟩,_⟩:=I.list h;obtain⟨_,_,⟨o',e',c',_⟩,_⟩:=I.tuple h';rw[e]at e';cases e';rw[c]at c';exact absurd c' (by decide)
theorem SQ(I:Inv X pins σ H s){a:ab}{xs:List V}{φ:Heap->Prop}(h:pR X.K H a xs)(h':H a=some (.ext φ)):False:=by
 rcases h with (h|⟨o,h⟩)|⟨o,its,n,hk,_⟩
 ·rw[h']at h;cases h
 ·rw[h']at h;cases h
 ·have:=(I.bs a o (I.mod.kin a o hk)).2;rw[h']at this;cases this
theorem Tc(I:Inv X pins σ H s){a:ab}{xs:List V}{φ:Heap->Prop}(h:tL X.K H a xs)(h':H a=some (.ext φ)):False:=by
 rcases h with (h|⟨o,h⟩)|⟨o,its,n,hk,_⟩
 ·rw[h']at h;cases h
 ·rw[h']at h;cases h
 ·have:=(I.bs a o (I.mod.kin a o hk)).2;rw[h']at this;cases this
mutual
theorem Rep.inj(I:Inv X pins σ H s):∀{d d':D}{v:V},cV d < bu->Rep X.K H d v->Rep X.K H d' v->d=d'
 | .non,d',v,_,h,h'=>by
  rw[bT.mp h]at h';cases d' <;> simp only[Rep]at h' <;> first|rfl|(obtain⟨a,vs,e,_⟩:=h';cases e;done)|(obtain⟨a,U,bK,e,_⟩:=h';cases e;done)|(cases h';rfl)|cases h'
 | .bl _,d',v,_,h,h'=>by
  rw[bL.mp h]at h';cases d' <;> simp only[Rep]at h' <;> first|rfl|(obtain⟨a,vs,e,_⟩:=h';cases e;done)|(obtain⟨a,U,bK,e,_⟩:=h';cases e;done)|(cases h';rfl)|cases h'
 | .int _,d',v,_,h,h'=>by
  rw[aM.mp h]at h';cases d' <;> simp only[Rep]at h' <;> first|rfl|(obtain⟨a,vs,e,_⟩:=h';cases e;done)|(obtain⟨a,U,bK,e,_⟩:=h';cases e;done)|(cases h';rfl)|cases h'
 | .str _,d',v,_,h,h'=>by
  rw[bY.mp h]at h';cases d' <;> simp only[Rep]at h' <;> first|rfl|(obtain⟨a,vs,e,_⟩:=h';cases e;done)|(obtain⟨a,U,bK,e,_⟩:=h';cases e;done)|(cases h';rfl)|cases h'
 | .tup ds,d',v,hd,h,h'=>by
  obtain⟨a,vs,rfl,q,r⟩:=bA.mp h;cases d' with
  |tup es =>
   obtain⟨b,us,e,q',r'⟩:=bA.mp h';cases e;rw[I.zL q' q]at r';rw[bI.inj I (by simp only[cV]at hd;lia) r r']
  |lst es =>
   obtain⟨b,us,e,q',r'⟩:=aY.mp h';cases e;exact(SN I q' q).elim
  |nU c n =>
   obtain⟨b,C,e,_,q'⟩:=aap.mp h';cases e;exact(SQ I q q').elim
  |jW c n =>
   obtain⟨b,U,bK,e,⟨_,q'⟩,_⟩:=vp.mp h';cases e;exact(SQ I q q').elim
  |_=>simp only[Rep]at h';cases h'
 | .lst ds,d',v,hd,h,h'=>by
  obtain⟨a,vs,rfl,q,r⟩:=aY.mp h;cases d' with
  |lst es =>
   obtain⟨b,us,e,q',r'⟩:=aY.mp h';cases e;rw[I.RZ q' q]at r';rw[bI.inj I (by simp only[cV]at hd;lia) r r']
  |tup es =>
   obtain⟨b,us,e,q',r'⟩:=bA.mp h';cases e;exact(SN I q q').elim
  |nU c n =>
   obtain⟨b,C,e,_,q'⟩:=aap.mp h';cases e;exact(Tc I q q').elim
  |jW c n =>
   obtain⟨b,U,bK,e,⟨_,q'⟩,_⟩:=vp.mp h';cases e;exact(Tc I q q').elim
  |_=>simp only[Rep]at h';cases h'
 | .nU _ _,d',v,hd,h,h'=>by simp only[cV]at hd;exact absurd hd (gu _)
 | .jW _ _,d',v,hd,h,h'=>by simp only[cV]at hd;exact absurd hd (gu _)
theorem bI.inj(I:Inv X pins σ H s):∀{ds es:List D}{vs:List V},jX ds < bu->bI X.K H ds vs->bI X.K H es vs->ds=es
 | [],es,vs,_,h,h'=>by
  rw[bD.mp h]at h';cases es with
  |nil=>rfl
  |cons e es=>obtain⟨v,vs',e1,_⟩:=aQ.mp h';cases e1
 |d::ds,es,vs,hd,h,h'=>by
  obtain⟨v,vs',rfl,r1,r2⟩:=aQ.mp h;simp only[jX]at hd;cases es with
  |nil=>have:=bD.mp h';cases this
  |cons e es =>
   obtain⟨v',vs'',e1,r1',r2'⟩:=aQ.mp h';cases e1;rw[Rep.inj I (j0 (Nat.le_max_left _ _) hd) r1 r1',bI.inj I (j0 (Nat.le_max_right _ _) hd) r2 r2']
end
theorem Er(I:Inv X pins σ H s){m:Nat}{A:aS}{ds es:List D}{vs us:List V}{its its2:List aa}
  (ih:∀{d d':D}{v v':V}{u u':aa}{A:aS},cV d<=m->cV d'<=m->A.units + m < bu->Rep X.K H d v->Rep X.K H d' v'->RelV v u->RelV v' u'->nI A s u u' (xQ d d'))
  (hn:jX ds<=m) (hn':jX es<=m) (hu:A.in1.units + m < bu) (r1:bI X.K H ds vs) (r2:bI X.K H es us) (a1:Vals vs its) (a2:Vals us its2) :
  ∀j (h1:j < its.toArray.size) (h2:j < its2.toArray.size),nI A.in1 s its.toArray[j] its2.toArray[j] (xQ (ds.getD j .non) (es.getD j .non)):=by
 intro j h1 h2;have l1:j < ds.length:=by rw[r1.length,a1.length];simpa using h1
 have l2:j < es.length:=by rw[r2.length,a2.length];simpa using h2
 obtain⟨x,hx,rx⟩:=r1.get (i:=j) (d:=ds[j]) (by simp[l1]);obtain⟨y,hy,ry⟩:=r2.get (i:=j) (d:=es[j]) (by simp[l2]);obtain⟨p,hp,rp⟩:=a1.get hx;obtain⟨q,hq,rq⟩:=a2.get hy;have e1:its.toArray[j]=p:=by have:=(dC.mp hp).2;simpa using this
 have e2:its2.toArray[j]=q:=by have:=(dC.mp hq).2;simpa using this
 rw[e1,e2,e_,e_,d_ l1,d_ l2];exact ih (cz (MK (eQ l1)) hn) (cz (MK (eQ l2)) hn') hu rx ry rp rq
open SeqAt in
theorem akY(I:Inv X pins σ H s):∀(n:Nat) {d d':D}{v v':V}{u u':aa}{A:aS},cV d<=n->cV d'<=n->A.units + n < bu->Rep X.K H d v->Rep X.K H d' v'->RelV v u->RelV v' u'->EqAt A s u u' (xQ d d'):=by
 intro n
 induction n with
 |zero =>
  intro d d' v v' u u' A hd hd' hu r r' e e';have hu0:A.units < bu:=by lia
  cases d with
  |non =>
   rw[bT.mp r]at e;cases e;cases d' with
   |non =>
    rw[bT.mp r']at e';cases e';exact EqAt.same _
   |bl b =>
    rw[bL.mp r']at e';cases e';exact EqAt.none_bool b
   |int b =>
    rw[aM.mp r']at e';obtain⟨t',rfl⟩:=e';exact EqAt.none_int b t'
   |str b =>
    rw[bY.mp r']at e';obtain⟨t',rfl⟩:=e';exact EqAt.none_str b t'
   |tup es =>
    obtain⟨b,us,rfl,q',rr'⟩:=bA.mp r';cases e';obtain⟨its2,jF,t2,_⟩:=I.tuple q';exact EqAt.none_tuple t2 hu0
   |lst es =>
    obtain⟨b,us,rfl,q',rr'⟩:=aY.mp r';cases e';obtain⟨its2,jF,t3,_⟩:=I.list q';have t2:=t3.isList;exact EqAt.none_list t2 hu0
   |nU c m =>
    simp only[cV]at hd';exact absurd hu (by lia)
   |jW c m =>
    simp only[cV]at hd';exact absurd hu (by lia)
  |bl x =>
   rw[bL.mp r]at e;cases e;cases d' with
   |non =>
    rw[bT.mp r']at e';cases e';exact EqAt.bool_none x
   |bl b =>
    rw[bL.mp r']at e';cases e';exact EqAt.bool_bool x b
   |int b =>
    rw[aM.mp r']at e';obtain⟨t',rfl⟩:=e';exact EqAt.bool_int x b t'
   |str b =>
    rw[bY.mp r']at e';obtain⟨t',rfl⟩:=e';exact EqAt.bool_str x b t'
   |tup es =>
    obtain⟨b,us,rfl,q',rr'⟩:=bA.mp r';cases e';obtain⟨its2,jF,t2,_⟩:=I.tuple q';exact EqAt.bool_tuple x t2 hu0
   |lst es =>
    obtain⟨b,us,rfl,q',rr'⟩:=aY.mp r';cases e';obtain⟨its2,jF,t3,_⟩:=I.list q';have t2:=t3.isList;exact EqAt.bool_list x t2 hu0
   |nU c m =>
    simp only[cV]at hd';exact absurd hu (by lia)
   |jW c m =>
    simp only[cV]at hd';exact absurd hu (by lia)
  |int x =>
   rw[aM.mp r]at e;obtain⟨t0,rfl⟩:=e;cases d' with
   |non =>
    rw[bT.mp r']at e';cases e';exact EqAt.int_none x t0
   |bl b =>
    rw[bL.mp r']at e';cases e';exact EqAt.int_bool x t0 b
   |int b =>
    rw[aM.mp r']at e';obtain⟨t',rfl⟩:=e';exact EqAt.int_int x t0 b t'
   |str b =>
    rw[bY.mp r']at e';obtain⟨t',rfl⟩:=e';exact EqAt.int_str x t0 b t'
   |tup es =>
    obtain⟨b,us,rfl,q',rr'⟩:=bA.mp r';cases e';obtain⟨its2,jF,t2,_⟩:=I.tuple q';exact EqAt.int_tuple x t0 t2 hu0
   |lst es =>
    obtain⟨b,us,rfl,q',rr'⟩:=aY.mp r';cases e';obtain⟨its2,jF,t3,_⟩:=I.list q';have t2:=t3.isList;exact EqAt.int_list x t0 t2 hu0
   |nU c m =>
    simp only[cV]at hd';exact absurd hu (by lia)
   |jW c m =>
    simp only[cV]at hd';exact absurd hu (by lia)
  |str x =>
   rw[bY.mp r]at e;obtain⟨t0,rfl⟩:=e;cases d' with
   |non =>
    rw[bT.mp r']at e';cases e';exact EqAt.str_none x t0
   |bl b =>
    rw[bL.mp r']at e';cases e';exact EqAt.str_bool x t0 b
   |int b =>
    rw[aM.mp r']at e';obtain⟨t',rfl⟩:=e';exact EqAt.str_int x t0 b t'
   |str b =>
    rw[bY.mp r']at e';obtain⟨t',rfl⟩:=e';exact EqAt.str_str x t0 b t'
   |tup es =>
    obtain⟨b,us,rfl,q',rr'⟩:=bA.mp r';cases e';obtain⟨its2,jF,t2,_⟩:=I.tuple q';exact EqAt.str_tuple x t0 t2 hu0
   |lst es =>
    obtain⟨b,us,rfl,q',rr'⟩:=aY.mp r';cases e';obtain⟨its2,jF,t3,_⟩:=I.list q';have t2:=t3.isList;exact EqAt.str_list x t0 t2 hu0
   |nU c m =>
    simp only[cV]at hd';exact absurd hu (by lia)
   |jW c m =>
    simp only[cV]at hd';exact absurd hu (by lia)
  |tup ds =>
   obtain⟨a,vs,rfl,q,rr⟩:=bA.mp r;cases e;obtain⟨its,av,t,_⟩:=I.tuple q;cases d' with
   |non =>
    rw[bT.mp r']at e';cases e';exact EqAt.tuple_none t hu0
   |bl b =>
    rw[bL.mp r']at e';cases e';exact EqAt.tuple_bool b t hu0
   |int b =>
    rw[aM.mp r']at e';obtain⟨t',rfl⟩:=e';exact EqAt.tuple_int b t' t hu0
   |str b =>
    rw[bY.mp r']at e';obtain⟨t',rfl⟩:=e';exact EqAt.tuple_str b t' t hu0
   |tup es =>
    obtain⟨b,us,rfl,q',rr'⟩:=bA.mp r';cases e';obtain⟨its2,jF,t2,_⟩:=I.tuple q';simp only[cV]at hd;lia
   |lst es =>
    obtain⟨b,us,rfl,q',rr'⟩:=aY.mp r';cases e';obtain⟨its2,jF,t3,_⟩:=I.list q';have t2:=t3.isList;exact EqAt.tuple_list t t2 hu0
   |nU c m =>
    simp only[cV]at hd';exact absurd hu (by lia)
   |jW c m =>
    simp only[cV]at hd';exact absurd hu (by lia)
  |lst ds =>
   obtain⟨a,vs,rfl,q,rr⟩:=aY.mp r;cases e;obtain⟨its,av,t1,_⟩:=I.list q;have t:=t1.isList;cases d' with
   |non =>
    rw[bT.mp r']at e';cases e';exact EqAt.list_none t hu0
   |bl b =>
    rw[bL.mp r']at e';cases e';exact EqAt.list_bool b t hu0
   |int b =>
    rw[aM.mp r']at e';obtain⟨t',rfl⟩:=e';exact EqAt.list_int b t' t hu0
   |str b =>
    rw[bY.mp r']at e';obtain⟨t',rfl⟩:=e';exact EqAt.list_str b t' t hu0
   |tup es =>
    obtain⟨b,us,rfl,q',rr'⟩:=bA.mp r';cases e';obtain⟨its2,jF,t2,_⟩:=I.tuple q';exact EqAt.list_tuple t t2 hu0
   |lst es =>
    obtain⟨b,us,rfl,q',rr'⟩:=aY.mp r';cases e';obtain⟨its2,jF,t3,_⟩:=I.list q';have t2:=t3.isList;simp only[cV]at hd;lia
   |nU c m =>
    simp only[cV]at hd';exact absurd hu (by lia)
   |jW c m =>
    simp only[cV]at hd';exact absurd hu (by lia)
  |nU c m =>
   simp only[cV]at hd;exact absurd hu (by lia)
  |jW c m =>
   simp only[cV]at hd;exact absurd hu (by lia)
 |succ m ih =>
  intro d d' v v' u u' A hd hd' hu r r' e e';have hu0:A.units < bu:=by lia
  cases d with
  |non =>
   rw[bT.mp r]at e;cases e;cases d' with
   |non =>
    rw[bT.mp r']at e';cases e';exact EqAt.same _
   |bl b =>
    rw[bL.mp r']at e';cases e';exact EqAt.none_bool b
   |int b =>
    rw[aM.mp r']at e';obtain⟨t',rfl⟩:=e';exact EqAt.none_int b t'
   |str b =>
    rw[bY.mp r']at e';obtain⟨t',rfl⟩:=e';exact EqAt.none_str b t'
   |tup es =>
    obtain⟨b,us,rfl,q',rr'⟩:=bA.mp r';cases e';obtain⟨its2,jF,t2,_⟩:=I.tuple q';exact EqAt.none_tuple t2 hu0
   |lst es =>
    obtain⟨b,us,rfl,q',rr'⟩:=aY.mp r';cases e';obtain⟨its2,jF,t3,_⟩:=I.list q';have t2:=t3.isList;exact EqAt.none_list t2 hu0
   |nU c m =>
    simp only[cV]at hd';exact absurd hu (by lia)
   |jW c m =>
    simp only[cV]at hd';exact absurd hu (by lia)
  |bl x =>
   rw[bL.mp r]at e;cases e;cases d' with
   |non =>
    rw[bT.mp r']at e';cases e';exact EqAt.bool_none x
   |bl b =>
    rw[bL.mp r']at e';cases e';exact EqAt.bool_bool x b
   |int b =>
    rw[aM.mp r']at e';obtain⟨t',rfl⟩:=e';exact EqAt.bool_int x b t'
   |str b =>
    rw[bY.mp r']at e';obtain⟨t',rfl⟩:=e';exact EqAt.bool_str x b t'
   |tup es =>
    obtain⟨b,us,rfl,q',rr'⟩:=bA.mp r';cases e';obtain⟨its2,jF,t2,_⟩:=I.tuple q';exact EqAt.bool_tuple x t2 hu0
   |lst es =>
    obtain⟨b,us,rfl,q',rr'⟩:=aY.mp r';cases e';obtain⟨its2,jF,t3,_⟩:=I.list q';have t2:=t3.isList;exact EqAt.bool_list x t2 hu0
   |nU c m =>
    simp only[cV]at hd';exact absurd hu (by lia)
   |jW c m =>
    simp only[cV]at hd';exact absurd hu (by lia)
  |int x =>
   rw[aM.mp r]at e;obtain⟨t0,rfl⟩:=e;cases d' with
   |non =>
    rw[bT.mp r']at e';cases e';exact EqAt.int_none x t0
   |bl b =>
    rw[bL.mp r']at e';cases e';exact EqAt.int_bool x t0 b
   |int b =>
    rw[aM.mp r']at e';obtain⟨t',rfl⟩:=e';exact EqAt.int_int x t0 b t'
   |str b =>
    rw[bY.mp r']at e';obtain⟨t',rfl⟩:=e';exact EqAt.int_str x t0 b t'
   |tup es =>
    obtain⟨b,us,rfl,q',rr'⟩:=bA.mp r';cases e';obtain⟨its2,jF,t2,_⟩:=I.tuple q';exact EqAt.int_tuple x t0 t2 hu0
   |lst es =>
    obtain⟨b,us,rfl,q',rr'⟩:=aY.mp r';cases e';obtain⟨its2,jF,t3,_⟩:=I.list q';have t2:=t3.isList;exact EqAt.int_list x t0 t2 hu0
   |nU c m =>
    simp only[cV]at hd';exact absurd hu (by lia)
   |jW c m =>
    simp only[cV]at hd';exact absurd hu (by lia)
  |str x =>
   rw[bY.mp r]at e;obtain⟨t0,rfl⟩:=e;cases d' with
   |non =>
    rw[bT.mp r']at e';cases e';exact EqAt.str_none x t0
   |bl b =>
    rw[bL.mp r']at e';cases e';exact EqAt.str_bool x t0 b
   |int b =>
    rw[aM.mp r']at e';obtain⟨t',rfl⟩:=e';exact EqAt.str_int x t0 b t'
   |str b =>
    rw[bY.mp r']at e';obtain⟨t',rfl⟩:=e';exact EqAt.str_str x t0 b t'
   |tup es =>
    obtain⟨b,us,rfl,q',rr'⟩:=bA.mp r';cases e';obtain⟨its2,jF,t2,_⟩:=I.tuple q';exact EqAt.str_tuple x t0 t2 hu0
   |lst es =>
    obtain⟨b,us,rfl,q',rr'⟩:=aY.mp r';cases e';obtain⟨its2,jF,t3,_⟩:=I.list q';have t2:=t3.isList;exact EqAt.str_list x t0 t2 hu0
   |nU c m =>
    simp only[cV]at hd';exact absurd hu (by lia)
   |jW c m =>
    simp only[cV]at hd';exact absurd hu (by lia)
  |tup ds =>
   obtain⟨a,vs,rfl,q,rr⟩:=bA.mp r;cases e;obtain⟨its,av,t,_⟩:=I.tuple q;cases d' with
   |non =>
    rw[bT.mp r']at e';cases e';exact EqAt.tuple_none t hu0
   |bl b =>
    rw[bL.mp r']at e';cases e';exact EqAt.tuple_bool b t hu0
   |int b =>
    rw[aM.mp r']at e';obtain⟨t',rfl⟩:=e';exact EqAt.tuple_int b t' t hu0
   |str b =>
    rw[bY.mp r']at e';obtain⟨t',rfl⟩:=e';exact EqAt.tuple_str b t' t hu0
   |tup es =>
    obtain⟨b,us,rfl,q',rr'⟩:=bA.mp r';cases e';obtain⟨its2,jF,t2,_⟩:=I.tuple q';have hn:jX ds<=m:=by simp only[cV]at hd;lia
    have hn':jX es<=m:=by simp only[cV]at hd';lia
    by_cases hab:a=b
    ·subst hab;rw[Rep.inj I (by lia) r r',xY];exact EqAt.same _
    have items:=Er I ih hn hn' (show A.in1.units + m < bu by show A.units + 1 + m < _;lia) rr rr' av jF;have h:=RcAt.tuples (A:=A) t t2 hu0 items;rw[cK,cK,<- av.length,<- jF.length,<- rr.length,<- rr'.length,eN]at h;exact EqAt.of_refs hab h
   |lst es =>
    obtain⟨b,us,rfl,q',rr'⟩:=aY.mp r';cases e';obtain⟨its2,jF,t3,_⟩:=I.list q';have t2:=t3.isList;exact EqAt.tuple_list t t2 hu0
   |nU c m =>
    simp only[cV]at hd';exact absurd hu (by lia)
   |jW c m =>
    simp only[cV]at hd';exact absurd hu (by lia)
  |lst ds =>
   obtain⟨a,vs,rfl,q,rr⟩:=aY.mp r;cases e;obtain⟨its,av,t1,_⟩:=I.list q;have t:=t1.isList;cases d' with
   |non =>
    rw[bT.mp r']at e';cases e';exact EqAt.list_none t hu0
   |bl b =>
    rw[bL.mp r']at e';cases e';exact EqAt.list_bool b t hu0
   |int b =>
    rw[aM.mp r']at e';obtain⟨t',rfl⟩:=e';exact EqAt.list_int b t' t hu0
   |str b =>
    rw[bY.mp r']at e';obtain⟨t',rfl⟩:=e';exact EqAt.list_str b t' t hu0
   |tup es =>
    obtain⟨b,us,rfl,q',rr'⟩:=bA.mp r';cases e';obtain⟨its2,jF,t2,_⟩:=I.tuple q';exact EqAt.list_tuple t t2 hu0
   |lst es =>
    obtain⟨b,us,rfl,q',rr'⟩:=aY.mp r';cases e';obtain⟨its2,jF,t3,_⟩:=I.list q';have t2:=t3.isList;have hn:jX ds<=m:=by simp only[cV]at hd;lia
    have hn':jX es<=m:=by simp only[cV]at hd';lia
    by_cases hab:a=b
    ·subst hab;rw[Rep.inj I (by lia) r r',xY];exact EqAt.same _
    have items:=Er I ih hn hn' (show A.in1.units + m < bu by show A.units + 1 + m < _;lia) rr rr' av jF;by_cases hl:its.toArray.size=its2.toArray.size
    ·have h:=RcAt.lists (A:=A) t t2 hl hu0 items;rw[cK,<- av.length,<- rr.length]at h;have hl':ds.length=es.length:=by rw[rr.length,rr'.length,av.length,jF.length];simpa using hl
     have e1:=eN ds es;rw[hl',tj]at e1;simp only[beq_self_eq_true,pT]at e1;rw[hl',e1]at h;exact EqAt.of_refs hab h
    ·have h:=RcAt.lists_lengths (A:=A) t t2 (by simpa using hl) hu0;have hl':ds.length≠es.length:=by rw[rr.length,rr'.length,av.length,jF.length];simpa using hl
     have e1:=eN ds es;rw[show(ds.length == es.length)=false by simpa using hl',n8]at e1;rw[show xQ (.lst ds) (.lst es)=false by rw[xQ,<- e1]];exact EqAt.of_refs hab h
   |nU c m =>
    simp only[cV]at hd';exact absurd hu (by lia)
   |jW c m =>
    simp only[cV]at hd';exact absurd hu (by lia)
  |nU c m =>
   simp only[cV]at hd;exact absurd hu (by lia)
  |jW c m =>
   simp only[cV]at hd;exact absurd hu (by lia)
end
section
variable{X:Cx}{pins:List (ab×Obj)}{σ:St}{H:Hp}{s:ae}
theorem xZ(I:Inv X pins σ H s){m:Nat}{A:aS}{ds es:List D}{vs us:List V}{its its2:List aa}(hn:jX ds<=m)(hn':jX es<=m)(hu:A.in1.units + m < bu)(r1:bI X.K H ds vs)(r2:bI X.K H es us)(a1:Vals vs its)(a2:Vals us its2) :
  ∀j (h1:j < its.toArray.size) (h2:j < its2.toArray.size),nI A.in1 s its.toArray[j] its2.toArray[j] (xQ (ds.getD j .non) (es.getD j .non)) :=
 Er I (fun a b c d e f g=>akY I m a b c d e f g) hn hn' hu r1 r2 a1 a2
open SeqAt in
theorem akZ(I:Inv X pins σ H s){n:Nat}{d d':D}{v v':V}{u u':aa}{A:aS}(hd:cV d<=n)(hd':cV d'<=n)(hu:A.units + n < bu)(r:Rep X.K H d v)(r':Rep X.K H d' v')(e:RelV v u)(e':RelV v' u'):RcAt A s u u' (xQ d d'):=by
 have hu0:A.units < bu:=by lia
 cases d with
 |non =>
  rw[bT.mp r]at e;cases e;cases d' with
  |non =>
   rw[bT.mp r']at e';cases e';exact RcAt.none_none
  |bl b =>
   rw[bL.mp r']at e';cases e';exact RcAt.none_bool b
  |int b =>
   rw[aM.mp r']at e';obtain⟨t',rfl⟩:=e';exact RcAt.none_int b t'
  |str b =>
   rw[bY.mp r']at e';obtain⟨t',rfl⟩:=e';exact RcAt.none_str b t'
  |tup es =>
   obtain⟨b,us,rfl,q',rr'⟩:=bA.mp r';cases e';obtain⟨its2,jF,t2,_⟩:=I.tuple q';exact RcAt.none_tuple t2 hu0
  |lst es =>
   obtain⟨b,us,rfl,q',rr'⟩:=aY.mp r';cases e';obtain⟨its2,jF,t3,_⟩:=I.list q';have t2:=t3.isList;exact RcAt.none_list t2 hu0
  |nU c m =>
   simp only[cV]at hd';exact absurd hu (by lia)
  |jW c m =>
   simp only[cV]at hd';exact absurd hu (by lia)
 |bl x =>
  rw[bL.mp r]at e;cases e;cases d' with
  |non =>
   rw[bT.mp r']at e';cases e';exact RcAt.bool_none x
  |bl b =>
   rw[bL.mp r']at e';cases e';exact RcAt.bool_bool x b
  |int b =>
   rw[aM.mp r']at e';obtain⟨t',rfl⟩:=e';exact RcAt.bool_int x b t'
  |str b =>
   rw[bY.mp r']at e';obtain⟨t',rfl⟩:=e';exact RcAt.bool_str x b t'
  |tup es =>
   obtain⟨b,us,rfl,q',rr'⟩:=bA.mp r';cases e';obtain⟨its2,jF,t2,_⟩:=I.tuple q';exact RcAt.bool_tuple x t2 hu0
  |lst es =>
   obtain⟨b,us,rfl,q',rr'⟩:=aY.mp r';cases e';obtain⟨its2,jF,t3,_⟩:=I.list q';have t2:=t3.isList;exact RcAt.bool_list x t2 hu0
  |nU c m =>
   simp only[cV]at hd';exact absurd hu (by lia)
  |jW c m =>
   simp only[cV]at hd';exact absurd hu (by lia)
 |int x =>
  rw[aM.mp r]at e;obtain⟨t0,rfl⟩:=e;cases d' with
  |non =>
   rw[bT.mp r']at e';cases e';exact RcAt.int_none x t0
  |bl b =>
   rw[bL.mp r']at e';cases e';exact RcAt.int_bool x t0 b
  |int b =>
   rw[aM.mp r']at e';obtain⟨t',rfl⟩:=e';exact RcAt.int_int x t0 b t'
  |str b =>
   rw[bY.mp r']at e';obtain⟨t',rfl⟩:=e';exact RcAt.int_str x t0 b t'
  |tup es =>
   obtain⟨b,us,rfl,q',rr'⟩:=bA.mp r';cases e';obtain⟨its2,jF,t2,_⟩:=I.tuple q';exact RcAt.int_tuple x t0 t2 hu0
  |lst es =>
   obtain⟨b,us,rfl,q',rr'⟩:=aY.mp r';cases e';obtain⟨its2,jF,t3,_⟩:=I.list q';have t2:=t3.isList;exact RcAt.int_list x t0 t2 hu0
  |nU c m =>
   simp only[cV]at hd';exact absurd hu (by lia)
  |jW c m =>
   simp only[cV]at hd';exact absurd hu (by lia)
 |str x =>
  rw[bY.mp r]at e;obtain⟨t0,rfl⟩:=e;cases d' with
  |non =>
   rw[bT.mp r']at e';cases e';exact RcAt.str_none x t0
  |bl b =>
   rw[bL.mp r']at e';cases e';exact RcAt.str_bool x t0 b
  |int b =>
   rw[aM.mp r']at e';obtain⟨t',rfl⟩:=e';exact RcAt.str_int x t0 b t'
  |str b =>
   rw[bY.mp r']at e';obtain⟨t',rfl⟩:=e';exact RcAt.str_str x t0 b t'
  |tup es =>
   obtain⟨b,us,rfl,q',rr'⟩:=bA.mp r';cases e';obtain⟨its2,jF,t2,_⟩:=I.tuple q';exact RcAt.str_tuple x t0 t2 hu0
  |lst es =>
   obtain⟨b,us,rfl,q',rr'⟩:=aY.mp r';cases e';obtain⟨its2,jF,t3,_⟩:=I.list q';have t2:=t3.isList;exact RcAt.str_list x t0 t2 hu0
  |nU c m =>
   simp only[cV]at hd';exact absurd hu (by lia)
  |jW c m =>
   simp only[cV]at hd';exact absurd hu (by lia)
 |tup ds =>
  obtain⟨a,vs,rfl,q,rr⟩:=bA.mp r;cases e;obtain⟨its,av,t,_⟩:=I.tuple q;cases d' with
  |non =>
   rw[bT.mp r']at e';cases e';exact RcAt.tuple_none t hu0
  |bl b =>
   rw[bL.mp r']at e';cases e';exact RcAt.tuple_bool b t hu0
  |int b =>
   rw[aM.mp r']at e';obtain⟨t',rfl⟩:=e';exact RcAt.tuple_int b t' t hu0
  |str b =>
   rw[bY.mp r']at e';obtain⟨t',rfl⟩:=e';exact RcAt.tuple_str b t' t hu0
  |tup es =>
   obtain⟨b,us,rfl,q',rr'⟩:=bA.mp r';cases e';obtain⟨its2,jF,t2,_⟩:=I.tuple q';obtain⟨m,rfl⟩:∃m,n=m + 1:=⟨n - 1,by simp only[cV]at hd;lia⟩
   have hn:jX ds<=m:=by simp only[cV]at hd;lia
   have hn':jX es<=m:=by simp only[cV]at hd';lia
   have items:=xZ I hn hn' (show A.in1.units + m < bu by show A.units + 1 + m < _;lia) rr rr' av jF;have h:=RcAt.tuples (A:=A) t t2 hu0 items;rw[cK,cK,<- av.length,<- jF.length,<- rr.length,<- rr'.length,eN]at h;exact h
  |lst es =>
   obtain⟨b,us,rfl,q',rr'⟩:=aY.mp r';cases e';obtain⟨its2,jF,t3,_⟩:=I.list q';have t2:=t3.isList;exact RcAt.tuple_list t t2 hu0
  |nU c m =>
   simp only[cV]at hd';exact absurd hu (by lia)
  |jW c m =>
   simp only[cV]at hd';exact absurd hu (by lia)
 |lst ds =>
  obtain⟨a,vs,rfl,q,rr⟩:=aY.mp r;cases e;obtain⟨its,av,t1,_⟩:=I.list q;have t:=t1.isList;cases d' with
  |non =>
   rw[bT.mp r']at e';cases e';exact RcAt.list_none t hu0
  |bl b =>
   rw[bL.mp r']at e';cases e';exact RcAt.list_bool b t hu0
  |int b =>
   rw[aM.mp r']at e';obtain⟨t',rfl⟩:=e';exact RcAt.list_int b t' t hu0
  |str b =>
   rw[bY.mp r']at e';obtain⟨t',rfl⟩:=e';exact RcAt.list_str b t' t hu0
  |tup es =>
   obtain⟨b,us,rfl,q',rr'⟩:=bA.mp r';cases e';obtain⟨its2,jF,t2,_⟩:=I.tuple q';exact RcAt.list_tuple t t2 hu0
  |lst es =>
   obtain⟨b,us,rfl,q',rr'⟩:=aY.mp r';cases e';obtain⟨its2,jF,t3,_⟩:=I.list q';have t2:=t3.isList;obtain⟨m,rfl⟩:∃m,n=m + 1:=⟨n - 1,by simp only[cV]at hd;lia⟩
   have hn:jX ds<=m:=by simp only[cV]at hd;lia
   have hn':jX es<=m:=by simp only[cV]at hd';lia
   have items:=xZ I hn hn' (show A.in1.units + m < bu by show A.units + 1 + m < _;lia) rr rr' av jF;by_cases hl:its.toArray.size=its2.toArray.size
   ·have h:=RcAt.lists (A:=A) t t2 hl hu0 items;rw[cK,<- av.length,<- rr.length]at h;have hl':ds.length=es.length:=by rw[rr.length,rr'.length,av.length,jF.length];simpa using hl
    have e1:=eN ds es;rw[hl',tj]at e1;simp only[beq_self_eq_true,pT]at e1;rw[hl',e1]at h;exact h
   ·have h:=RcAt.lists_lengths (A:=A) t t2 (by simpa using hl) hu0;have hl':ds.length≠es.length:=by rw[rr.length,rr'.length,av.length,jF.length];simpa using hl
    have e1:=eN ds es;rw[show(ds.length == es.length)=false by simpa using hl',n8]at e1;rw[show xQ (.lst ds) (.lst es)=false by rw[xQ,<- e1]];exact h
  |nU c m =>
   simp only[cV]at hd';exact absurd hu (by lia)
  |jW c m =>
   simp only[cV]at hd';exact absurd hu (by lia)
 |nU c m =>
  simp only[cV]at hd;exact absurd hu (by lia)
 |jW c m =>
  simp only[cV]at hd;exact absurd hu (by lia)
open SeqAt in
theorem adQ(I:Inv X pins σ H s){n:Nat}{d d':D}{v v':V}{u u':aa}{A:aS}(hd:cV d<=n)(hd':cV d'<=n)(hu:A.units + n < bu)(r:Rep X.K H d v)(r':Rep X.K H d' v')(e:RelV v u)(e':RelV v' u'):RcNeAt A s u u' (!xQ d d'):=by
 have hu0:A.units < bu:=by lia
 cases d with
 |non =>
  rw[bT.mp r]at e;cases e;cases d' with
  |non =>
   rw[bT.mp r']at e';cases e';exact RcNeAt.none_none
  |bl b =>
   rw[bL.mp r']at e';cases e';exact RcNeAt.none_bool b
  |int b =>
   rw[aM.mp r']at e';obtain⟨t',rfl⟩:=e';exact RcNeAt.none_int b t'
  |str b =>
   rw[bY.mp r']at e';obtain⟨t',rfl⟩:=e';exact RcNeAt.none_str b t'
  |tup es =>
   obtain⟨b,us,rfl,q',rr'⟩:=bA.mp r';cases e';obtain⟨its2,jF,t2,_⟩:=I.tuple q';exact RcNeAt.none_tuple t2 hu0
  |lst es =>
   obtain⟨b,us,rfl,q',rr'⟩:=aY.mp r';cases e';obtain⟨its2,jF,t3,_⟩:=I.list q';have t2:=t3.isList;exact RcNeAt.none_list t2 hu0
  |nU c m =>
   simp only[cV]at hd';exact absurd hu (by lia)
  |jW c m =>
   simp only[cV]at hd';exact absurd hu (by lia)
 |bl x =>
  rw[bL.mp r]at e;cases e;cases d' with
  |non =>
   rw[bT.mp r']at e';cases e';exact RcNeAt.bool_none x
  |bl b =>
   rw[bL.mp r']at e';cases e';exact RcNeAt.bool_bool x b
  |int b =>
   rw[aM.mp r']at e';obtain⟨t',rfl⟩:=e';exact RcNeAt.bool_int x b t'
  |str b =>
   rw[bY.mp r']at e';obtain⟨t',rfl⟩:=e';exact RcNeAt.bool_str x b t'
  |tup es =>
   obtain⟨b,us,rfl,q',rr'⟩:=bA.mp r';cases e';obtain⟨its2,jF,t2,_⟩:=I.tuple q';exact RcNeAt.bool_tuple x t2 hu0
  |lst es =>
   obtain⟨b,us,rfl,q',rr'⟩:=aY.mp r';cases e';obtain⟨its2,jF,t3,_⟩:=I.list q';have t2:=t3.isList;exact RcNeAt.bool_list x t2 hu0
  |nU c m =>
   simp only[cV]at hd';exact absurd hu (by lia)
  |jW c m =>
   simp only[cV]at hd';exact absurd hu (by lia)
 |int x =>
  rw[aM.mp r]at e;obtain⟨t0,rfl⟩:=e;cases d' with
  |non =>
   rw[bT.mp r']at e';cases e';exact RcNeAt.int_none x t0
  |bl b =>
   rw[bL.mp r']at e';cases e';exact RcNeAt.int_bool x t0 b
  |int b =>
   rw[aM.mp r']at e';obtain⟨t',rfl⟩:=e';exact RcNeAt.int_int x t0 b t'
  |str b =>
   rw[bY.mp r']at e';obtain⟨t',rfl⟩:=e';exact RcNeAt.int_str x t0 b t'
  |tup es =>
   obtain⟨b,us,rfl,q',rr'⟩:=bA.mp r';cases e';obtain⟨its2,jF,t2,_⟩:=I.tuple q';exact RcNeAt.int_tuple x t0 t2 hu0
  |lst es =>
   obtain⟨b,us,rfl,q',rr'⟩:=aY.mp r';cases e';obtain⟨its2,jF,t3,_⟩:=I.list q';have t2:=t3.isList;exact RcNeAt.int_list x t0 t2 hu0
  |nU c m =>
   simp only[cV]at hd';exact absurd hu (by lia)
  |jW c m =>
   simp only[cV]at hd';exact absurd hu (by lia)
 |str x =>
  rw[bY.mp r]at e;obtain⟨t0,rfl⟩:=e;cases d' with
  |non =>
   rw[bT.mp r']at e';cases e';exact RcNeAt.str_none x t0
  |bl b =>
   rw[bL.mp r']at e';cases e';exact RcNeAt.str_bool x t0 b
  |int b =>
   rw[aM.mp r']at e';obtain⟨t',rfl⟩:=e';exact RcNeAt.str_int x t0 b t'
  |str b =>
   rw[bY.mp r']at e';obtain⟨t',rfl⟩:=e';exact RcNeAt.str_str x t0 b t'
  |tup es =>
   obtain⟨b,us,rfl,q',rr'⟩:=bA.mp r';cases e';obtain⟨its2,jF,t2,_⟩:=I.tuple q';exact RcNeAt.str_tuple x t0 t2 hu0
  |lst es =>
   obtain⟨b,us,rfl,q',rr'⟩:=aY.mp r';cases e';obtain⟨its2,jF,t3,_⟩:=I.list q';have t2:=t3.isList;exact RcNeAt.str_list x t0 t2 hu0
  |nU c m =>
   simp only[cV]at hd';exact absurd hu (by lia)
  |jW c m =>
   simp only[cV]at hd';exact absurd hu (by lia)
 |tup ds =>
  obtain⟨a,vs,rfl,q,rr⟩:=bA.mp r;cases e;obtain⟨its,av,t,_⟩:=I.tuple q;cases d' with
  |non =>
   rw[bT.mp r']at e';cases e';exact RcNeAt.tuple_none t hu0
  |bl b =>
   rw[bL.mp r']at e';cases e';exact RcNeAt.tuple_bool b t hu0
  |int b =>
   rw[aM.mp r']at e';obtain⟨t',rfl⟩:=e';exact RcNeAt.tuple_int b t' t hu0
  |str b =>
   rw[bY.mp r']at e';obtain⟨t',rfl⟩:=e';exact RcNeAt.tuple_str b t' t hu0
  |tup es =>
   obtain⟨b,us,rfl,q',rr'⟩:=bA.mp r';cases e';obtain⟨its2,jF,t2,_⟩:=I.tuple q';obtain⟨m,rfl⟩:∃m,n=m + 1:=⟨n - 1,by simp only[cV]at hd;lia⟩
   have hn:jX ds<=m:=by simp only[cV]at hd;lia
   have hn':jX es<=m:=by simp only[cV]at hd';lia
   have items:=xZ I hn hn' (show A.in1.units + m < bu by show A.units + 1 + m < _;lia) rr rr' av jF;have h:=RcNeAt.tuples (A:=A) t t2 hu0 items;rw[cK,cK,<- av.length,<- jF.length,<- rr.length,<- rr'.length,eN]at h;exact h
  |lst es =>
   obtain⟨b,us,rfl,q',rr'⟩:=aY.mp r';cases e';obtain⟨its2,jF,t3,_⟩:=I.list q';have t2:=t3.isList;exact RcNeAt.tuple_list t t2 hu0
  |nU c m =>
   simp only[cV]at hd';exact absurd hu (by lia)
  |jW c m =>
   simp only[cV]at hd';exact absurd hu (by lia)
 |lst ds =>
  obtain⟨a,vs,rfl,q,rr⟩:=aY.mp r;cases e;obtain⟨its,av,t1,_⟩:=I.list q;have t:=t1.isList;cases d' with
  |non =>
   rw[bT.mp r']at e';cases e';exact RcNeAt.list_none t hu0
  |bl b =>
   rw[bL.mp r']at e';cases e';exact RcNeAt.list_bool b t hu0
  |int b =>
   rw[aM.mp r']at e';obtain⟨t',rfl⟩:=e';exact RcNeAt.list_int b t' t hu0
  |str b =>
   rw[bY.mp r']at e';obtain⟨t',rfl⟩:=e';exact RcNeAt.list_str b t' t hu0
  |tup es =>
   obtain⟨b,us,rfl,q',rr'⟩:=bA.mp r';cases e';obtain⟨its2,jF,t2,_⟩:=I.tuple q';exact RcNeAt.list_tuple t t2 hu0
  |lst es =>
   obtain⟨b,us,rfl,q',rr'⟩:=aY.mp r';cases e';obtain⟨its2,jF,t3,_⟩:=I.list q';have t2:=t3.isList;obtain⟨m,rfl⟩:∃m,n=m + 1:=⟨n - 1,by simp only[cV]at hd;lia⟩
   have hn:jX ds<=m:=by simp only[cV]at hd;lia
   have hn':jX es<=m:=by simp only[cV]at hd';lia
   have items:=xZ I hn hn' (show A.in1.units + m < bu by show A.units + 1 + m < _;lia) rr rr' av jF;by_cases hl:its.toArray.size=its2.toArray.size
   ·have h:=RcNeAt.lists (A:=A) t t2 hl hu0 items;rw[cK,<- av.length,<- rr.length]at h;have hl':ds.length=es.length:=by rw[rr.length,rr'.length,av.length,jF.length];simpa using hl
    have e1:=eN ds es;rw[hl',tj]at e1;simp only[beq_self_eq_true,pT]at e1;rw[hl',e1]at h;exact h
   ·have h:=RcNeAt.lists_lengths (A:=A) t t2 (by simpa using hl) hu0;have hl':ds.length≠es.length:=by rw[rr.length,rr'.length,av.length,jF.length];simpa using hl
    have e1:=eN ds es;rw[show(ds.length == es.length)=false by simpa using hl',n8]at e1;rw[show xQ (.lst ds) (.lst es)=false by rw[xQ,<- e1]];exact h
  |nU c m =>
   simp only[cV]at hd';exact absurd hu (by lia)
  |jW c m =>
   simp only[cV]at hd';exact absurd hu (by lia)
 |nU c m =>
  simp only[cV]at hd;exact absurd hu (by lia)
 |jW c m =>
  simp only[cV]at hd;exact absurd hu (by lia)
end
def Es(W:Wi)(σ:St)(G H:Hp)(r:Rs Bool)(Q:Bool->Hp->Prop):Prop :=
 match r with
 | .ok b=>∀H' G',Ext G H G' H'->Q b H'
 | .ex c n=>∀H' G',Ext G H G' H'->W c n σ H'
 | .no=>False
def tT(K:ai)(B:Bs)(W:Wi)(f:au->Rs Bool):TT:=fun σ H Q=>∃ρ G,SR K B σ H ρ G/\Es W σ G H (f ρ) Q
def ST(X:Cx)(B:Bs)(W:Wi)(e:ag)(f:au->Rs Bool):Prop:=PT X e (tT X.K B W f)
def SW(X:Cx)(B:Bs)(W:Wi)(e:ag)(f:au->Rs Bool):Prop:=PW X e (tT X.K B W f)
def ajQ(K:ai)(W:Wi)(σ:St)(G H:Hp)(r:Rs (List D))(Q:List V->Hp->Prop):Prop :=
 match r with
 | .ok ds=>∀vs H' G',Ext G H G' H'->bI K G' ds vs->Q vs H'
 | .ex c n=>∀H' G',Ext G H G' H'->W c n σ H'
 | .no=>False
def tAF(K:ai)(B:Bs)(W:Wi)(f:au->Rs (List D)):TA:=fun σ H Q=>∃ρ G,SR K B σ H ρ G/\ajQ K W σ G H (f ρ) Q
def SA(X:Cx)(B:Bs)(W:Wi)(es:List ag)(f:au->Rs (List D)):Prop:=PA X es (tAF X.K B W f)
theorem PW.imp{X:Cx}{e:ag}{t t':TT}(h:PW X e t)(i:∀σ H Q,t' σ H Q->t σ H Q):PW X e t':=fun wh pins s σ H Q I q=>h wh pins s σ H Q I (i σ H Q q)
def toB:D->Rs Bool
 | .bl b=>.ok b
 |_=>.no
def fT(f:au->Rs D):au->Rs Bool:=fun ρ=>(f ρ).bind toB
def aqC(a b:au->Rs Bool):au->Rs Bool:=fun ρ=>(a ρ).bind fun x=>if x=true then b ρ else .ok false
def fOr(a b:au->Rs Bool):au->Rs Bool:=fun ρ=>(a ρ).bind fun x=>if x=true then .ok true else b ρ
def tW(a:au->Rs Bool):au->Rs Bool:=fun ρ=>(a ρ).bind fun x=>.ok (!x)
def ao(a:au->Rs D)(r:au->Rs (List D)):au->Rs (List D):=fun ρ=>(a ρ).bind fun x=>(r ρ).bind fun xs=>.ok (x::xs)
def aR:au->Rs (List D):=fun _=>.ok []
def fA(a:au->Rs (List D))(g:List D->Rs D):au->Rs D:=fun ρ=>(a ρ).bind g
section
variable{X:Cx}{K:ai}{B:Bs}{W:Wi}{σ:St}{G H:Hp}{ρ:au}
theorem Es.ext{r:Rs Bool}{Q:Bool->Hp->Prop}{G' H':Hp}(e:Ext G H G' H')(h:Es W σ G H r Q):Es W σ G' H' r Q:=by
 cases r with
 |ok d=>exact fun Sx G'' e'=>h Sx G'' (e.trans e')
 |ex c n=>exact fun Sx G'' e'=>h Sx G'' (e.trans e')
 |no=>exact h
theorem adS{f:au->Rs D}{Q:Bool->Hp->Prop}(h:tT K B W (fT f) σ H Q):tF K B W f σ H fun x H1=>∃c,x=.bl c/\Q c H1:=by
 obtain⟨ρ,G,s,p⟩:=h;refine⟨ρ,G,s,?_⟩;unfold fT at p;cases e:f ρ with
 |ok d =>
  rw[e]at p;cases d with
  |bl b=>exact fun v H' G' e r=>⟨b,bL.mp r,p H' G' e⟩
  |_=>exact p.elim
 |ex c n=>rw[e]at p;exact p
 |no=>rw[e]at p;exact p
theorem lM{e:ag}{f:au->Rs D}(h:SE X B W e f)(he:∀whole,isTrue e X.env whole=(do let v <- whole;kG e.pos;d3 [v] (truthy v)):=by intro _;rfl):ST X B W e (fT f) :=
 PT.imp (akz h he) fun _ _ _ h=>adS h
theorem MN{a b:ag}{op:jb}{pos:Pos}{r:R2}{g:D->D->Rs D}{fa fb:au->Rs D}(ho:wg X (fv op) r)(hg:Sy X.K r g)(ha:SE X B W a fa)(hb:SE X B W b fb)(hm:iL op b=false) :
  ST X B W (.Compare a [op] [b] pos) (fT (bW g fa fb)):=by
 refine PT.imp (Mw ho ha hb hm) fun σ H Q h=>?_;exact En hg (adS h)
theorem Yb{a b:ag}{op:jb}{pos:Pos}{r:R2}{g:D->D->Rs D}{fa fb:au->Rs D}(ho:wg X (fv op) r)(hg:Sy X.K r g)(ha:SE X B W a fa)(hb:SE X B W b fb)(hm:iL op b=false) :
  SE X B W (.Compare a [op] [b] pos) (bW g fa fb):=PE.imp (aah ho ha hb hm) fun _ _ _ h=>En hg h
theorem MP{a:ag}{pos:Pos}{fa:au->Rs Bool}(ha:ST X B W a fa):SW X B W (.BoolOp .Or [a] pos) fa:=akA ha
theorem Kz{a b:ag}{rest:List ag}{pos:Pos}{fa fb:au->Rs Bool}(ha:ST X B W a fa)(hb:SW X B W (.BoolOp .Or (b::rest) pos) fb):SW X B W (.BoolOp .Or (a::b::rest) pos) (fOr fa fb):=by
 refine PW.imp (anp ha hb) fun σ H Q ⟨ρ,G,s,p⟩=>⟨ρ,G,s,?_⟩
 unfold fOr at p;cases e:fa ρ with
 |ok x =>
  rw[e]at p;intro H' G' ee;cases x with
  |true=>rw[if_pos rfl];exact(show Es W σ G H (.ok true) Q from p) H' G' ee
  |false=>rw[if_neg (by simp)];exact⟨ρ,G',s.ext ee,Es.ext ee (show Es W σ G H (fb ρ) Q from p)⟩
 |ex c n=>rw[e]at p;exact p
 |no=>rw[e]at p;exact p
theorem ahF{e:ag}{f:au->Rs Bool}(h:SW X B W e f):ST X B W e f:=PW.pt h
theorem tY{a:ag}{pos:Pos}{fa:au->Rs Bool}(ha:ST X B W a fa):ST X B W (.UnaryOp .Not a pos) (tW fa):=by
 refine PT.imp (akC ha) fun σ H Q ⟨ρ,G,s,p⟩=>⟨ρ,G,s,?_⟩
 unfold tW at p;cases e:fa ρ with
 |ok x=>rw[e]at p;exact p
 |ex c n=>rw[e]at p;exact p
 |no=>rw[e]at p;exact p
def KC(a b:au->Rs D):au->Rs D:=fun ρ=>(a ρ).bind fun x=>(toB x).bind fun c=>if c=true then b ρ else .ok (.bl false)
def aqD(a b:au->Rs D):au->Rs D:=fun ρ=>(a ρ).bind fun x=>(toB x).bind fun c=>if c=true then .ok (.bl true) else b ρ
def adT(a:au->Rs D):au->Rs D:=fun ρ=>(a ρ).bind fun x=>(toB x).bind fun c=>.ok (.bl !c)
theorem adU{op}{a:ag}{pos:Pos}{fa:au->Rs D}(ha:SE X B W a fa):SE X B W (.BoolOp op [a] pos) fa:=akD ha
theorem adV{a b:ag}{rest:List ag}{pos:Pos}{fa fb:au->Rs D}(ha:SE X B W a fa)(hb:SE X B W (.BoolOp .And (b::rest) pos) fb):SE X B W (.BoolOp .And (a::b::rest) pos) (KC fa fb):=by
 refine PE.imp (akE ha hb) fun σ H Q h=>?_;obtain⟨ρ,G,s,p⟩:=vB (k:=fun ρ x=>(toB x).bind fun c=>if c=true then fb ρ else .ok (.bl false)) h;refine⟨ρ,G,s,p.mono fun v H1 ⟨ρ1,G1,d,s1,r,q⟩=>?_⟩;cases d with
 |bl c =>
  refine⟨c,bL.mp r,?_⟩;cases c with
  |true=>rw[if_pos rfl];exact⟨ρ1,G1,s1,q⟩
  |false=>rw[if_neg (by simp)];exact Post.ok s1 q (bL.mpr rfl)
 |_=>exact q.elim
theorem ala{a:ag}{pos:Pos}{fa:au->Rs D}(ha:SE X B W a fa):SE X B W (.UnaryOp .Not a pos) (adT fa):=by
 refine PE.imp (akF ha) fun σ H Q h=>?_;obtain⟨ρ,G,s,p⟩:=vB (k:=fun ρ x=>(toB x).bind fun c=>.ok (.bl !c)) h;refine⟨ρ,G,s,p.mono fun v H1 ⟨ρ1,G1,d,s1,r,q⟩=>?_⟩;cases d with
 |bl c=>exact⟨c,bL.mp r,Post.ok s1 q (bL.mpr rfl)⟩
 |_=>exact q.elim
theorem aK:SA X B W [] aR:=PA.imp jr fun σ H Q ⟨ρ,G,s,p⟩=>p [] H G s.wL (bD.mpr rfl)
theorem ak{e:ag}{es:List ag}{fe:au->Rs D}{fs:au->Rs (List D)}(ha:SE X B W e fe)(hr:SA X B W es fs)(hs:ba (e::es) X.env=(false,a_ e X.env)::ba es X.env:=by rfl):SA X B W (e::es) (ao fe fs):=by
 refine PA.imp (dY ha hr hs) fun σ H Q ⟨ρ,G,s,p⟩=>⟨ρ,G,s,?_⟩
 unfold ao at p;cases e1:fe ρ with
 |ok d =>
  rw[e1]at p;intro v H1 G1 x1 r1;refine⟨ρ,G1,s.ext x1,?_⟩;have p':ajQ X.K W σ G H ((fs ρ).bind fun xs=>.ok (d::xs)) Q:=p;cases e2:fs ρ with
  |ok ds =>
   rw[e2]at p';intro vs H2 G2 x2 r2;exact p' (v::vs) H2 G2 (x1.trans x2) (aQ.mpr ⟨v,vs,rfl,r1.mono x2.gg,r2⟩)
  |ex c n=>rw[e2]at p';exact fun H2 G2 x2=>p' H2 G2 (x1.trans x2)
  |no=>rw[e2]at p';exact p'
 |ex c n=>rw[e1]at p;exact p
 |no=>rw[e1]at p;exact p
def sZ(K:ai)(r:List V->Hp->VK->Prop)(g:List D->Rs D):Prop :=
 ∀(B:Bs) (W:Wi) (σ:St) (ρ:au) (G H:Hp) (ds:List D) (vs:List V) (Q:VK),SR K B σ H ρ G->bI K G ds vs->Post K W σ G H (g ds) Q->r vs H Q
theorem aas{t:au->Rs (List D)}{g:List D->Rs D}{r:List V->Hp->VK->Prop}{Q:VK}(hg:sZ K r g)(h:tF K B W (fA t g) σ H Q):tAF K B W t σ H fun vs H1=>r vs H1 Q:=by
 obtain⟨ρ,G,s,p⟩:=h;refine⟨ρ,G,s,?_⟩;unfold fA at p;cases e:t ρ with
 |ok ds=>rw[e]at p;exact fun vs H1 G1 x r=>hg B W σ ρ G1 H1 ds vs Q (s.ext x) r (Post.ext x p)
 |ex c n=>rw[e]at p;exact p
 |no=>rw[e]at p;exact p
def dJ:List D->Rs D:=fun ds=>if ds.length<=1000 then .ok (.tup ds) else .no
def yc:List D->Rs D:=fun ds=>if ds.length<=1000 then .ok (.lst ds) else .no
theorem Et{n:Nat}(h:n<=1000):n<=sizeLine:=fR (abF h)
theorem eU{es:List ag}{x1}{pos:Pos}{f:au->Rs (List D)}(h:SA X B W es f):SE X B W (.Tuple es x1 pos) (fA f dJ):=by
 refine PE.imp (adH h) fun σ H Q q=>aas (r:=fun xs H1 Q=>xs.length<=sizeLine/\∀p,H1 p=none->Q (.ref p) (upd H1 p (.tup xs))) ?_ q;intro B W σ ρ G H ds vs Q s r p;unfold dJ at p;by_cases hl:ds.length<=1000
 ·rw[if_pos hl]at p;refine⟨by rw[<- r.length];exact Et hl,fun a ha=>?_⟩;have x:=xX (xs:=vs) s.en.gh s.en.tp ha;exact p _ _ _ x (bA.mpr ⟨a,vs,rfl,.of bH,r.mono x.gg⟩)
 ·rw[if_neg hl]at p;exact p.elim
theorem wM{es:List ag}{pos:Pos}{f:au->Rs (List D)}(h:SA X B W es f):SE X B W (.List es pos) (fA f yc):=by
 refine PE.imp (XF h) fun σ H Q q=>aas (r:=fun xs H1 Q=>xs.length<=sizeLine/\∀p,H1 p=none->Q (.ref p) (upd H1 p (.lst xs))) ?_ q;intro B W σ ρ G H ds vs Q s r p;unfold yc at p;by_cases hl:ds.length<=1000
 ·rw[if_pos hl]at p;refine⟨by rw[<- r.length];exact Et hl,fun a ha=>?_⟩;have x:=rA (xs:=vs) s.en.gh s.en.tp ha;exact p _ _ _ x (aY.mpr ⟨a,vs,rfl,.of bH,r.mono x.gg⟩)
 ·rw[if_neg hl]at p;exact p.elim
def fH:D->D->Rs D
 | .tup ds,.int i=>match Du ds i with|some d=>.ok d|none=>.no
 | .lst ds,.int i=>match Du ds i with|some d=>.ok d|none=>.no
 |_,_=>.no
theorem Eu{ds:List D}{vs:List V}{i:Int}{d:D}(r:bI K G ds vs)(h:Du ds i=some d):∃v,Du vs i=some v/\Rep K G d v:=by
 unfold Du at h ⊢;rw[<- r.length];cases e:Kv ds.length i with
 |none=>rw[e]at h;cases h
 |some j=>rw[e]at h;exact r.get (i:=j) h
theorem adW:Sy K (rIx K) fH:=by
 intro B W σ ρ G H x y v u Q s rx ry p;cases y <;> first|(cases x <;> exact p.elim)|skip
 rename_i i;cases x with
 |tup ds =>
  simp only[fH]at p;obtain⟨a,vs,rfl,q,rr⟩:=bA.mp rx;cases e:Du ds i with
  |none=>rw[e]at p;exact p.elim
  |some d =>
   rw[e]at p;obtain⟨w,e2,rw'⟩:=Eu rr e;exact .inr (.inl ⟨a,vs,i,w,rfl,aM.mp ry,Same.gW s.en.gh q,e2,Post.ok s p rw'⟩)
 |lst ds =>
  simp only[fH]at p;obtain⟨a,vs,rfl,q,rr⟩:=aY.mp rx;cases e:Du ds i with
  |none=>rw[e]at p;exact p.elim
  |some d =>
   rw[e]at p;obtain⟨w,e2,rw'⟩:=Eu rr e;exact .inl ⟨a,vs,i,w,rfl,aM.mp ry,s.en.gh.seq q,e2,Post.ok s p rw'⟩
 |_=>exact p.elim
theorem cF{a b:ag}{pos:Pos}{fa fb:au->Rs D}(ha:SE X B W a fa)(hb:SE X B W b fb)(hs:xV b:=by intro _ _;rfl):SE X B W (.Subscript a b pos) (bW fH fa fb) :=
 PE.imp (aan XR ha hb hs) fun _ _ _ h=>En adW h
instance (i j:Int):Decidable (XD i j):=by unfold XD;exact inferInstance
instance (i j:Int):Decidable (adE i j):=by unfold adE;exact inferInstance
def CDB(i j:Int):Prop:=0 < j/\j < 2 ^ 200
instance (i j:Int):Decidable (CDB i j):=by unfold CDB;exact inferInstance
theorem CDB.py{i j:Int}(h:CDB i j):cv.divisionGoesByPylong i j=false:=by
 refine PyProof.noPylong_of_log2 ?_;have h1:j.natAbs < 2 ^ 200:=by have:=h.1;have:=h.2;lia
 have h2:j.natAbs.log2 < 200:=(Nat.log2_lt (by have:=h.1;lia)).mpr h1;lia
theorem adX:wg X (hV .FloorDiv) (rI CDB fun i j=>.int (i / j)):=opI fun i j _ _ _ _ _ hc q=>by have h1:=hc.1;rw[<- Int.fdiv_eq_ediv_of_nonneg i (by lia)]at q;exact PyProof.Rows.floordiv_int (by lia) q (.inl hc.py)
def iT:=gI0 fun i j=>D.int (i - j)
def nG:=gI XD fun i j=>D.int (i * j)
def adY:=gI CDB fun i j=>D.int (i / j)
instance (i j:Int):Decidable ((fun(_:Int) (j:Int)=>0 < j) i j):=inferInstanceAs (Decidable (0 < j))
def Cy:=gI (fun _ j=>0 < j) fun i j=>D.int (i % j)
def Td:=gI adE fun i j=>D.int (i ^ j.toNat)
variable{a b:ag}{pos:Pos}{fa fb:au->Rs D}
theorem pW(ha:SE X B W a fa)(hb:SE X B W b fb):SE X B W (.BinOp a .Sub b pos) (bW iT fa fb):=Ky adF (Eo fun _ _ _=>aM.mpr rfl) ha hb
theorem tZ(ha:SE X B W a fa)(hb:SE X B W b fb):SE X B W (.BinOp a .Mult b pos) (bW nG fa fb):=Ky adG (SJ fun _ _ _=>aM.mpr rfl) ha hb
theorem alb(ha:SE X B W a fa)(hb:SE X B W b fb):SE X B W (.BinOp a .FloorDiv b pos) (bW adY fa fb):=Ky adX (SJ fun _ _ _=>aM.mpr rfl) ha hb
theorem Ew(ha:SE X B W a fa)(hb:SE X B W b fb):SE X B W (.BinOp a .Mod b pos) (bW Cy fa fb):=Ky akM (SJ fun _ _ _=>aM.mpr rfl) ha hb
theorem adZ(ha:SE X B W a fa)(hb:SE X B W b fb):SE X B W (.BinOp a .Pow b pos) (bW Td fa fb):=Ky akN (SJ fun _ _ _=>aM.mpr rfl) ha hb
def ahG:D->Rs D
 | .int i=>.ok (.int (-i))
 |_=>.no
theorem alc(ha:SE X B W a fa):SE X B W (.UnaryOp .USub a pos) (fun ρ=>(fa ρ).bind ahG):=by
 refine PE.imp (anD akO ha) fun σ H Q h=>?_;obtain⟨ρ,G,s,p⟩:=vB (k:=fun _=>ahG) h;refine⟨ρ,G,s,p.mono fun v H1 ⟨ρ1,G1,d,s1,r,q⟩=>?_⟩;cases d with
 |int i=>exact⟨i,aM.mp r,Post.ok s1 q (aM.mpr rfl)⟩
 |_=>exact q.elim
def dh:D->D->Rs D
 | .int i,.int j=>.ok (.int (i + j))
 | .lst a,.lst b=>if a.length + b.length<=1000000 then .ok (.lst (a++b)) else .no
 |_,_=>.no
theorem sz6{n:Nat}(h:n<=1000000):n<=sizeLine:=cz h (by rw[d8];decide)
end
section
variable{X:Cx}{K:ai}{B:Bs}{W:Wi}{σ:St}{G H:Hp}{ρ:au}{a b:ag}{pos:Pos}{fa fb:au->Rs D}
def aea(K:ai):R2:=fun x y H Q=>∃l b xs zs,x=.ref l/\y=.ref b/\tL K H l xs/\tL K H b zs/\xs.length + zs.length<=sizeLine/\∀p,H p=none->Q (.ref p) (upd H p (.lst (xs++zs)))
open PyProof.Rows in
theorem ahH:wg X (hV .Add) (aea X.K):=by
 intro pins s σ H x y v u Q I rx ry h;obtain⟨l,b,xs,zs,rfl,rfl,hH,hB,hz,q⟩:=h;cases rx;cases ry;obtain⟨vs,r,pl,_⟩:=I.list hH;obtain⟨ws,r2,pl2,_⟩:=I.list hB;obtain⟨⟨cls,dd,data,sl⟩,ho,hc,n,hd⟩:=pl.isList;obtain⟨⟨cls2,dd2,data2,sl2⟩,ho2,hc2,n2,hd2⟩:=pl2.isList;simp only at hc hd hc2 hd2;subst hc hd hc2 hd2;have e:vs.toArray++ws.toArray=(vs++ws).toArray:=by simp
 have l1:=r.length;have l2:=r2.length;refine concat_meets ⟨_,ho,rfl⟩ ⟨_,ho2,rfl⟩ noFill_list_add seq_list_add PySem.F.slot_list_add PySem.F.entry_list_add (PySem.F.args_list_add_2 _ _) (list_addW l b vs.toArray ws.toArray n n2 dd dd2 sl sl2 (by simp only[cK];lia)) ⟨ho,ho2,?_⟩;rw[e];exact⟨.ref _,_,I.anR (t':=s.toks) (r.append r2) (by rw[dy];lia),rfl,q _ I.fresh⟩
theorem aat:wg X (hV .Add) (fun x y H Q=>rI0 (fun i j=>V.int (i + j)) x y H Q∨aea X.K x y H Q):=akL.or ahH
theorem Te:Sy K (fun x y H Q=>rI0 (fun i j=>V.int (i + j)) x y H Q∨aea K x y H Q) dh:=by
 intro B W σ ρ G H x y v u Q s rx ry p;cases x with
 |int i =>
  cases y with
  |int j=>exact .inl ⟨i,j,aM.mp rx,aM.mp ry,Post.ok s p (aM.mpr rfl)⟩
  |_=>exact p.elim
 |lst ds =>
  cases y with
  |lst es =>
   simp only[dh]at p;by_cases hl:ds.length + es.length<=1000000
   ·rw[if_pos hl]at p;obtain⟨a,vs,rfl,q,r⟩:=aY.mp rx;obtain⟨b,us,rfl,q',r'⟩:=aY.mp ry;refine .inr ⟨a,b,vs,us,rfl,rfl,s.en.gh.seq q,s.en.gh.seq q',by rw[<- r.length,<- r'.length];exact sz6 hl,fun c hc=>?_⟩;have x:=rA (xs:=vs++us) s.en.gh s.en.tp hc;exact p _ _ _ x (aY.mpr ⟨c,vs++us,rfl,.of bH,(r.append r').mono x.gg⟩)
   ·rw[if_neg hl]at p;exact p.elim
  |_=>exact p.elim
 |_=>cases y <;> exact p.elim
theorem gM(ha:SE X B W a fa)(hb:SE X B W b fb):SE X B W (.BinOp a .Add b pos) (bW dh fa fb):=Ky aat Te ha hb
def toI:D->Rs Int
 | .int i=>.ok i
 |_=>.no
def Cz(xs:List D)(lo hi:Option Int):List D:=(xs.drop (HT.nD xs.length 0 lo)).take (HT.nD xs.length xs.length hi - HT.nD xs.length 0 lo)
theorem aeb{ds:List D}{vs:List V}{lo hi:Option Int}(r:bI K G ds vs):bI K G (Cz ds lo hi) (XQ vs lo hi):=by unfold Cz XQ;rw[r.length];exact(r.drop _).take _
def gSl(lo hi:Option Int):D->Rs D
 | .lst ds=>.ok (.lst (Cz ds lo hi))
 |_=>.no
def anT(W:Wi)(σ:St)(G H:Hp)(r:Rs (Option Int))(Q:Option Int->Hp->Prop):Prop :=
 match r with
 | .ok b=>∀H' G',Ext G H G' H'->Q b H'
 | .ex c n=>∀H' G',Ext G H G' H'->W c n σ H'
 | .no=>False
def tO(K:ai)(B:Bs)(W:Wi)(f:au->Rs (Option Int)):TO:=fun σ H Q=>∃ρ G,SR K B σ H ρ G/\anT W σ G H (f ρ) Q
def SO(X:Cx)(B:Bs)(W:Wi)(e:Option ag)(f:au->Rs (Option Int)):Prop:=PO X e (tO X.K B W f)
def abG:au->Rs (Option Int):=fun _=>.ok none
def fP(f:au->Rs D):au->Rs (Option Int):=fun ρ=>(f ρ).bind fun d=>(toI d).bind fun i=>.ok (some i)
theorem PO.imp{e:Option ag}{t t':TO}(h:PO X e t)(i:∀σ H Q,t' σ H Q->t σ H Q):PO X e t':=fun pins s σ H Q I q=>h pins s σ H Q I (i σ H Q q)
theorem aau:SO X B W none abG:=PO.imp ahz fun σ H Q ⟨ρ,G,s,p⟩=>p H G s.wL
theorem aav{e:ag}{f:au->Rs D}(h:SE X B W e f):SO X B W (some e) (fP f):=by
 refine PO.imp (ahA h) fun σ H Q ⟨ρ,G,s,p⟩=>⟨ρ,G,s,?_⟩
 unfold fP at p;cases e1:f ρ with
 |ok d =>
  rw[e1]at p;cases d with
  |int i=>exact fun w H' G' e r'=>⟨i,aM.mp r',p H' G' e⟩
  |_=>exact p.elim
 |ex c n=>rw[e1]at p;exact p
 |no=>rw[e1]at p;exact p
def fSl(fe:au->Rs D)(fl fh:au->Rs (Option Int)):au->Rs D:=fun ρ=>(fe ρ).bind fun x=>(fl ρ).bind fun l=>(fh ρ).bind fun h=>gSl l h x
variable{x:Str}{p:Pos}{e:ag}{es:List ag}{id T:String}{r:List V->Hp->VK->Prop}{g:List D->Rs D}{fs:au->Rs (List D)}
theorem yg(hc:iR X (.builtin id) r) (hd:sZ X.K r g) (hg:Gl X x) (hm:X.mg x=none) (hv:hG x=some (.builtin id)) (ha:SA X B W (e::es) fs) (hn:x≠"__name__":=by decide) (hdb:(x == ("__debug__":Str))=false:=by decide)
  (he:ba (e::es) X.env=(false,a_ e X.env)::ba es X.env:=by rfl) (hpl:(di pos (ba es X.env)).any (·.1)=false:=by rfl):SE X B W (.Call (.Name x p) (e::es) [] pos) (fA fs g) :=
 PE.imp (qu hc hg hm hv ha hn hdb he hpl) fun _ _ _ h=>aas hd h
theorem KD(hc:iR X (.type T) r) (hd:sZ X.K r g) (hg:Gl X x) (hm:X.mg x=none) (hv:hG x=some (.type T)) (ha:SA X B W (e::es) fs) (hn:x≠"__name__":=by decide) (hdb:(x == ("__debug__":Str))=false:=by decide)
  (he:ba (e::es) X.env=(false,a_ e X.env)::ba es X.env:=by rfl) (hpl:(di pos (ba es X.env)).any (·.1)=false:=by rfl):SE X B W (.Call (.Name x p) (e::es) [] pos) (fA fs g) :=
 PE.imp (vm hc hg hm hv ha hn hdb he hpl) fun _ _ _ h=>aas hd h
def vX:List D->Rs D
 | [.lst ds]=>.ok (.int ds.length)
 | [.tup ds]=>.ok (.int ds.length)
 |_=>.no
theorem ald:sZ K (fun xs H Q=>∃p ys,xs=[.ref p]/\(tL K H p ys∨pR K H p ys)/\Q (.int ys.length) H) vX:=by
 intro B W σ ρ G H ds vs Q s r p
 match ds,p with
 | [.lst ds],p =>
  obtain⟨v,vs',rfl,r1,r2⟩:=aQ.mp r;obtain⟨a,us,rfl,q,rr⟩:=aY.mp r1;rw[bD.mp r2];refine⟨a,us,rfl,.inl (s.en.gh.seq q),Post.ok s p ?_⟩;rw[<- rr.length];exact aM.mpr rfl
 | [.tup ds],p =>
  obtain⟨v,vs',rfl,r1,r2⟩:=aQ.mp r;obtain⟨a,us,rfl,q,rr⟩:=bA.mp r1;rw[bD.mp r2];refine⟨a,us,rfl,.inr (Same.gW s.en.gh q),Post.ok s p ?_⟩;rw[<- rr.length];exact aM.mpr rfl
 | [],p=>exact p.elim
 | [.non],p=>exact p.elim
 | [.bl _],p=>exact p.elim
 | [.int _],p=>exact p.elim
 | [.str _],p=>exact p.elim
 | [.nU _ _],p=>exact p.elim
 | [.jW _ _],p=>exact p.elim
 |_::_::_,p=>exact(by simp only[vX]at p;exact p.elim)
theorem wN(hm:X.mg "len"=none) (ha:SE X B W e fa) (hg:Gl X "len":=by rfl) (he:ba [e] X.env=[(false,a_ e X.env)]:=by rfl):SE X B W (.Call (.Name "len" p) [e] [] pos) (fA (ao fa aR) vX) :=
 yg xW ald hg hm PySem.boot_len (ak ha aK he)  (by decide) (by decide) he rfl
def jt:List D->Rs D
 | [.lst ds]=>.ok (.tup ds)
 | [.tup ds]=>.ok (.tup ds)
 |_=>.no
theorem Tf:sZ K (fun xs H Q=>∃p ys,xs=[.ref p]/\((tL K H p ys/\∀l,H l=none->Q (.ref l) (upd H l (.tup ys)))∨(pR K H p ys/\Q (.ref p) H))) jt:=by
 intro B W σ ρ G H ds vs Q s r p
 match ds,p with
 | [.lst ds],p =>
  obtain⟨v,vs',rfl,r1,r2⟩:=aQ.mp r;obtain⟨a,us,rfl,q,rr⟩:=aY.mp r1;rw[bD.mp r2];refine⟨a,us,rfl,.inl ⟨s.en.gh.seq q,fun c hc=>?_⟩⟩;have x:=xX (xs:=us) s.en.gh s.en.tp hc;exact p _ _ _ x (bA.mpr ⟨c,us,rfl,.of bH,rr.mono x.gg⟩)
 | [.tup ds],p =>
  obtain⟨v,vs',rfl,r1,r2⟩:=aQ.mp r;obtain⟨a,us,rfl,q,rr⟩:=bA.mp r1;rw[bD.mp r2];exact⟨a,us,rfl,.inr ⟨Same.gW s.en.gh q,Post.ok s p r1⟩⟩
 | [],p=>exact p.elim
 | [.non],p=>exact p.elim
 | [.bl _],p=>exact p.elim
 | [.int _],p=>exact p.elim
 | [.str _],p=>exact p.elim
 | [.nU _ _],p=>exact p.elim
 | [.jW _ _],p=>exact p.elim
 |_::_::_,p=>exact(by simp only[jt]at p;exact p.elim)
open PyProof.Rows in
theorem Nb:iR X (.builtin "divmod") (fun xs H Q=>∃i j,xs=[.int i,.int j]/\CDB i j/\∀p,H p=none->Q (.ref p) (upd H p (.tup [.int (i / j),.int (i % j)]))):=by intro pins s σ H xs us Q I r h;obtain⟨i,j,rfl,hc,q⟩:=h;have h1:=hc.1;obtain⟨u,w',rfl,⟨t,rfl⟩,⟨t',rfl⟩⟩:=anJ r;refine divmod_int (by lia) ?_ (.inl hc.py);rw[Int.fdiv_eq_ediv_of_nonneg i (by lia),Int.fmod_eq_emod_of_nonneg i (by lia)];have hn:H s.heap.objs.size=none:=I.hok.fresh (bo _);refine⟨.ref s.heap.objs.size,_,?_,rfl,q _ hn⟩;refine I.laid (fun b o e=>cb _ e) (bo _) ⟨by simp only[cy,fw];rw[d8];decide,[.int (i / j) s.toks,.int (i % j) (s.toks + 1)],.cons ⟨_,rfl⟩ (.cons ⟨_,rfl⟩ .nil),?_⟩;exact⟨_,cS s.heap rfl,rfl,0,rfl⟩
def gDm:List D->Rs D
 | [.int i,.int j]=>if CDB i j then .ok (.tup [.int (i / j),.int (i % j)]) else .no
 |_=>.no
theorem anU:sZ K (fun xs H Q=>∃i j,xs=[.int i,.int j]/\CDB i j/\∀p,H p=none->Q (.ref p) (upd H p (.tup [.int (i / j),.int (i % j)]))) gDm:=by
 intro B W σ ρ G H ds vs Q s r p;unfold gDm at p;split at p
 ·rename_i i j;obtain⟨v,vs',rfl,r1,r2⟩:=aQ.mp r;obtain⟨v2,vs'',rfl,r3,r4⟩:=aQ.mp r2;rw[aM.mp r1,aM.mp r3,bD.mp r4];by_cases hc:CDB i j
  ·rw[if_pos hc]at p;refine⟨i,j,rfl,hc,fun c hc=>?_⟩;have x:=xX (xs:=[.int (i / j),.int (i % j)]) s.en.gh s.en.tp hc;exact p _ _ _ x (bA.mpr ⟨c,_,rfl,.of bH,aQ.mpr ⟨_,_,rfl,aM.mpr rfl,.one (aM.mpr rfl)⟩⟩)
  ·rw[if_neg hc]at p;exact p.elim
 ·exact p.elim
end
inductive Ou where
 |nx (ρ:au)|rt (d:D)|bk (ρ:au)|ct (ρ:au)|ex (c:Str) (n:Int) (ρ:au)|no|rx (d:D) (ρ:au)|rl (ds:List D)
def cO(K:ai)(B:Bs)(W:Wi)(G:Hp)(o:Ou)(De:Ends):Prop :=
 match o with
 | .nx ρ'=>∀σ' H' G',SR K B σ' H' ρ' G'->Same G G'->De.nx σ' H'
 | .bk ρ'=>∀σ' H' G',SR K B σ' H' ρ' G'->Same G G'->De.bk σ' H'
 | .ct ρ'=>∀σ' H' G',SR K B σ' H' ρ' G'->Same G G'->De.ct σ' H'
 | .rt d=>∀v H' G',Ext B.1 B.2 G' H'->Same G G'->Rep K G' d v->De.rt v H'
 | .ex c n ρ'=>∀σ' H' G',SR K B σ' H' ρ' G'->Same G G'->W c n σ' H'
 | .no=>False
 | .rx d ρ'=>∀v σ' H' G',SR K B σ' H' ρ' G'->Same G G'->Rep K G' d v->De.rt v H'
 | .rl ds=>∀a ws H' G',Ext B.1 B.2 G' H'->Same G G'->G' a=none->B.2 a=none->H' a=some (.lst ws)->bI K G' ds ws->De.rt (.ref a) H'
def tS(K:ai)(B:Bs)(W:Wi)(g:au->Ou):TS:=fun De σ H=>∃ρ G,SR K B σ H ρ G/\cO K B W G (g ρ) De
def SS(X:Cx)(B:Bs)(W:Wi)(st:bj)(g:au->Ou):Prop:=PS X st (tS X.K B W g)
def wk(X:Cx)(B:Bs)(W:Wi)(st:List bj)(g:au->Ou):Prop:=Xw X st (tS X.K B W g)
def aec(o:Ou)(k:au->Ou):Ou:=match o with
 | .nx ρ=>k ρ
 |o=>o
def oR{α:Type}(r:Rs α)(ρ:au)(k:α->Ou):Ou:=match r with
 | .ok a=>k a
 | .ex c n=>.ex c n ρ
 | .no=>.no
section
variable{X:Cx}{K:ai}{B:Bs}{W:Wi}{σ:St}{G G' H:Hp}{ρ:au}{De De':Ends}
theorem cO.same{o:Ou}(h:cO K B W G o De)(e:Same G G'):cO K B W G' o De:=by
 cases o with
 |nx ρ'=>exact fun σ' H' G'' s q=>h σ' H' G'' s (e.trans q)
 |bk ρ'=>exact fun σ' H' G'' s q=>h σ' H' G'' s (e.trans q)
 |ct ρ'=>exact fun σ' H' G'' s q=>h σ' H' G'' s (e.trans q)
 |rt d=>exact fun v H' G'' x q=>h v H' G'' x (e.trans q)
 |ex c n ρ'=>exact fun σ' H' G'' s q=>h σ' H' G'' s (e.trans q)
 |no=>exact h
 |rx d ρ'=>exact fun v σ' H' G'' s q=>h v σ' H' G'' s (e.trans q)
 |rl ds=>exact fun a ws H' G'' s q=>h a ws H' G'' s (e.trans q)
theorem jg{r:Rs D}{k:D->Ou}{Q:VK}(s:SR K B σ H ρ G)(p:cO K B W G (oR r ρ k) De)(h:∀d v H' G',r=.ok d->Ext G H G' H'->Rep K G' d v->cO K B W G' (k d) De->Q v H'):Post K W σ G H r Q:=by
 cases r with
 |ok d=>exact fun v H' G' e r=>h d v H' G' rfl e r (cO.same p e.gg)
 |ex c n=>exact fun H' G' e=>p σ H' G' (s.ext e) e.gg
 |no=>exact p
theorem ale:wk X B W [] .nx:=Xw.imp ahs fun De σ H ⟨ρ,G,s,p⟩=>p σ H G s (.refl _)
theorem ahI{st:bj}{rest:List bj}{g k:au->Ou}(h1:SS X B W st g)(h2:wk X B W rest k):wk X B W (st::rest) (fun ρ=>aec (g ρ) k):=by
 refine Xw.imp (adA h1 h2) fun De σ H ⟨ρ,G,s,p⟩=>⟨ρ,G,s,?_⟩
 dsimp only at p;cases e:g ρ with
 |nx ρ'=>rw[e]at p;exact fun σ' H' G' s' q=>⟨ρ',G',s',cO.same (show cO X.K B W G (k ρ') De from p) q⟩
 |bk ρ'=>rw[e]at p;exact p
 |ct ρ'=>rw[e]at p;exact p
 |rt d=>rw[e]at p;exact p
 |ex c n ρ'=>rw[e]at p;exact p
 |no=>rw[e]at p;exact p
 |rx d ρ'=>rw[e]at p;exact p
 |rl ds=>rw[e]at p;exact p
theorem alf{st:bj}{g:au->Ou}(h1:SS X B W st g):wk X B W [st] g:=aht h1
theorem alg{e:ag}{pos}{f:au->Rs D}(h:SE X B W e f):SS X B W (.Return (some e) pos) (fun ρ=>oR (f ρ) ρ .rt) :=
 PS.imp (Xx h) fun De σ H ⟨ρ,G,s,p⟩=>⟨ρ,G,s,jg s p fun d v H' G' _ e r q=>q v H' G' (s.en.trans e) (.refl _) r⟩
theorem anV{c:ag}{a b:List bj}{pos:Pos}{fc:au->Rs Bool}{ga gb:au->Ou}(hc:ST X B W c fc)(ha:wk X B W a ga)(hb:wk X B W b gb):SS X B W (.If c a b pos) (fun ρ=>oR (fc ρ) ρ fun x=>if x=true then ga ρ else gb ρ):=by
 refine PS.imp (ajI hc ha hb) fun De σ H ⟨ρ,G,s,p⟩=>⟨ρ,G,s,?_⟩
 dsimp only at p;cases e:fc ρ with
 |ok x =>
  rw[e]at p;intro H' G' ee;have p':cO X.K B W G (if x=true then ga ρ else gb ρ) De:=p;cases x with
  |true=>rw[if_pos rfl]at p' ⊢;exact⟨ρ,G',s.ext ee,p'.same ee.gg⟩
  |false=>rw[if_neg (by simp)]at p' ⊢;exact⟨ρ,G',s.ext ee,p'.same ee.gg⟩
 |ex c n=>rw[e]at p;exact fun H' G' ee=>p σ H' G' (s.ext ee) ee.gg
 |no=>rw[e]at p;exact p
abbrev Tg:=D->au->Option au
def tG(K:ai)(B:Bs)(h:Tg):TG:=fun v σ H Q=>∃ρ G d,SR K B σ H ρ G/\Rep K G d v/\∃ρ',h d ρ=some ρ'/\∀σ',SR K B σ' H ρ' G->Q σ' H
def tGs(K:ai)(B:Bs)(h:List D->au->Option au):TGs:=fun vs σ H Q=>∃ρ G ds,SR K B σ H ρ G/\bI K G ds vs/\∃ρ',h ds ρ=some ρ'/\∀σ',SR K B σ' H ρ' G->Q σ' H
def SG(X:Cx)(B:Bs)(tg:ag)(h:Tg):Prop:=PG X tg (tG X.K B h)
def SGs(X:Cx)(B:Bs)(tg:List ag)(h:List D->au->Option au):Prop:=PGs X tg (tGs X.K B h)
theorem PG.imp{e:ag}{t t':TG}(h:PG X e t)(i:∀v σ H Q,t' v σ H Q->t v σ H Q):PG X e t':=fun pins s σ H v u Q I r q=>h pins s σ H v u Q I r (i v σ H Q q)
theorem PGs.imp{e:List ag}{t t':TGs}(h:PGs X e t)(i:∀v σ H Q,t' v σ H Q->t v σ H Q):PGs X e t':=fun pins s σ H v u Q I r q=>h pins s σ H v u Q I r (i v σ H Q q)
def aU(i:Nat):Tg:=fun d ρ=>some (ρ.set i (.fz d))
def jY:List D->au->Option au:=fun ds ρ=>match ds with|[]=>some ρ|_=>none
def bR(h:Tg)(k:List D->au->Option au):List D->au->Option au:=fun ds ρ=>match ds with|d::ds=>(h d ρ).bind (k ds)|[]=>none
def ju(n:Nat)(k:List D->au->Option au):Tg:=fun d ρ=>match d with|.tup ds=>if ds.length=n then k ds ρ else none|_=>none
theorem ahJ{i:Nat}{x:Str}{pos:Pos}(hN:X.N.Nodup)(hi:X.N[i]?=some x)(hx:Mu X.env.scope x)(hf:X.fn x=true∨X.env.scope.names.lookup x=some .local:=by first|exact .inl rfl|exact .inr rfl|assumption):SG X B (.Name x pos) (aU i) :=
 PG.imp (aae hN hi hx hf) fun v σ H Q ⟨ρ,G,d,s,r,ρ',e,q⟩=>by cases e;exact q _ (s.set r)
theorem jZ:SGs X B [] jY:=PGs.imp aaf fun v σ H Q ⟨ρ,G,ds,s,r,ρ',e,q⟩=>by
 cases ds with
 |nil=>cases e;exact⟨bD.mp r,q _ s⟩
 |cons d ds=>cases e
theorem cG{e:ag}{es:List ag}{h:Tg}{k:List D->au->Option au}(h1:SG X B e h)(h2:SGs X B es k)(hs:(d4 (e::es) X.env).map (·.2)=assign e X.env::(d4 es X.env).map (·.2):=by rfl):SGs X B (e::es) (bR h k) :=
 PGs.imp (Ej h1 h2 hs) fun v σ H Q ⟨ρ,G,ds,s,r,ρ',e,q⟩=>by
  cases ds with
  |nil=>cases e
  |cons d ds =>
   obtain⟨w,ws,rfl,r1,r2⟩:=aQ.mp r;unfold bR at e;dsimp only at e;cases e1:h d ρ with
   |none=>rw[e1]at e;cases e
   |some ρ1 =>
    rw[e1]at e;exact⟨w,ws,rfl,ρ,G,d,s,r1,ρ1,e1,fun σ1 s1=>⟨ρ1,G,ds,s1,r2,ρ',e,q⟩⟩
theorem ou{es:List ag}{k:Nat}{pos:Pos}{n:Nat}{h:List D->au->Option au}(hc:X.calm=true)(hh:SGs X B es h)
  (hn:(d4 es X.env).length=n:=by rfl) (hst:(d4 es X.env).findIdx? (·.1)=none:=by rfl):SG X B (.Tuple es k pos) (ju n h) :=
 PG.imp (adB hc hh hn hst) fun v σ H Q ⟨ρ,G,d,s,r,ρ',e,q⟩=>by
  cases d with
  |tup ds =>
   unfold ju at e;dsimp only at e;by_cases hl:ds.length=n
   ·simp only[if_pos hl]at e;obtain⟨a,vs,rfl,q1,rr⟩:=bA.mp r;exact⟨a,vs,rfl,Same.gW s.en.gh q1,by rw[<- rr.length];exact hl,ρ,G,ds,s,rr,ρ',e,q⟩
   ·simp only[if_neg hl]at e;cases e
  |_=>cases e
def oO(o:Option au):Ou:=match o with|some ρ=>.nx ρ|none=>.no
theorem alh{tg e:ag}{pos:Pos}{f:au->Rs D}{h:Tg}(he:SE X B W e f)(hg:SG X B tg h)(hs:kH [tg] e pos.line X.env=pure false:=by rfl)(hw:kK [tg] e X.env=pure none:=by rfl)
  (h1:(d4 [tg] X.env).map (·.2)=[assign tg X.env]:=by rfl):SS X B W (.Assign [tg] e pos) (fun ρ=>oR (f ρ) ρ fun d=>oO (h d ρ)) :=
 PS.imp (Mv he hg hs hw h1) fun De σ H ⟨ρ,G,s,p⟩=>⟨ρ,G,s,jg s p fun d v H' G' _ e r q=>by
  cases e1:h d ρ with
  |none=>rw[e1]at q;exact q.elim
  |some ρ'=>rw[e1]at q;exact⟨ρ,G',d,s.ext e,r,ρ',e1,fun σ' s'=>q σ' H' G' s' (.refl _)⟩⟩
theorem ali{i:Nat}{x:Str}{e:ag}{pos pos':Pos}{f:au->Rs D}(hN:X.N.Nodup)(hi:X.N[i]?=some x)(hx:Mu X.env.scope x)(he:SE X B W e f)(hs:eL e (some (.Name x pos')) pos.line X.env=pure false:=by rfl)(hf:X.fn x=true∨X.env.scope.names.lookup x=some .local:=by first|exact .inl rfl|exact .inr rfl|assumption) :
  SS X B W (.Assign [.Name x pos'] e pos) (fun ρ=>oR (f ρ) ρ fun d=>.nx (ρ.set i (.fz d))) :=
 PS.imp (zM hN hi hx he hs hf) fun De σ H ⟨ρ,G,s,p⟩=>⟨ρ,G,s,jg s p fun d v H' G' _ e r q=>q _ H' G' ((s.ext e).set r) (.refl _)⟩
theorem SR.aed(h:SR K B σ H ρ G){i:Nat}{z:Sl}{o:HO}{p:ab}(w:z.own=true)(r:tV K G p z o)(hp:H p=none)(hz:∀ds,z≠.op ds:=by intro _ h;cases h):SR K B (σ.set i (some (.ref p))) (upd H p o) (ρ.set i z) G:=by
 have x:=aar (o:=o) h.en.gh h.en.tp (fun xs e=>by subst e;exact r.tup) hp;have h':=h.ext x;have uc:∀{j:Nat}{y:Sl},(ρ.set i z)[j]?=some y->(i=j/\y=z/\i < ρ.length)∨(i≠j/\ρ[j]?=some y):=fun {j y} q=>by
  by_cases e:i=j
  ·subst e;have hl:i < ρ.length:=by have:=(dC.mp q).1;simpa using this
   rw[dE hl]at q;cases q;exact .inl ⟨rfl,rfl,hl⟩
  ·rw[de e]at q;exact .inr ⟨e,q⟩
 refine⟨h'.en,by simp[h.len],fun j d q=>?_,fun j y q wy=>?_,fun j k y y' a q1 w1 q2 w2 q3 q4=>?_,fun j ds a q1 q2=>?_,h'.co⟩
 ·rcases uc q with ⟨_,e,_⟩|⟨e,q⟩
  ·rw[<- e]at w;cases w
  ·rw[de e];exact h'.fz j d q
 ·rcases uc q with ⟨e,e2,hl⟩|⟨e,q⟩
  ·subst e;subst e2;exact⟨p,o,dE (by rw[<- h.len];exact hl),bH,h.en.gh.free hp,h.en.hh.free hp,r⟩
  ·rw[de e];exact h'.own j y q wy
 ·have fresh:∀{l:Nat}{y:Sl},ρ[l]?=some y->y.own=true->σ[l]?≠some (some (.ref p)):=fun {l y} q wy z=>by
   obtain⟨a,vs',h1,h2,_⟩:=h.own l y q wy;rw[h1]at z;have:a=p:=by injection z with z;injection z with z;injection z
   rw[this,hp]at h2;cases h2
  rcases uc q1 with ⟨e1,_,l1⟩|⟨n1,z1⟩
  ·rcases uc q2 with ⟨e2,_⟩|⟨n2,z2⟩
   ·exact e1.symm.trans e2
   ·subst e1;rw[dE (by rw[<- h.len];exact l1)]at q3;have:a=p:=by injection q3 with z;injection z with z;injection z with z;exact z.symm
    subst this;rw[de n2]at q4;exact(fresh z2 w2 q4).elim
  ·rcases uc q2 with ⟨e2,_,l2⟩|⟨n2,z2⟩
   ·subst e2;rw[dE (by rw[<- h.len];exact l2)]at q4;have:a=p:=by injection q4 with z;injection z with z;injection z with z;exact z.symm
    subst this;rw[de n1]at q3;exact(fresh z1 w1 q3).elim
   ·rw[de n1]at q3;rw[de n2]at q4;exact h.ap j k y y' a z1 w1 z2 w2 q3 q4
 ·rcases uc q1 with ⟨_,e,_⟩|⟨e,q⟩
  ·exact absurd e.symm (hz ds)
  ·rw[de e]at q2;exact h.tie j ds a q q2
theorem SR.aee(h:SR K B σ H ρ G){i:Nat}{ds:List D}{vs:List V}{p:ab}(r:bI K G ds vs)(hp:H p=none):SR K B (σ.set i (some (.ref p))) (upd H p (.lst vs)) (ρ.set i (.ow ds)) G:=h.aed rfl ⟨vs,rfl,r⟩ hp
theorem SR.yh(h:SR K B σ H ρ G){i:Nat}{y z:Sl}{o:HO}{a:ab}(q:ρ[i]?=some y)(wy:y.own=true)(ha:σ[i]?=some (some (.ref a)))(wz:z.own=true)(r:tV K G a z o)(hz:∀ds,z=.op ds->∃es,y=.op es:=by intro _ h;cases h):SR K B σ (upd H a o) (ρ.set i z) G:=by
 obtain⟨a',o0,e1,h2,h3,h4,h5⟩:=h.own i y q wy;have ea:a'=a:=by rw[e1]at ha;injection ha with z;injection z with z;injection z
 subst ea;have hl:i < ρ.length:=(dC.mp q).1;have uc:∀{j:Nat}{x:Sl},(ρ.set i z)[j]?=some x->(i=j/\x=z)∨(i≠j/\ρ[j]?=some x):=fun {j x} q=>by
  by_cases e:i=j
  ·subst e;rw[dE hl]at q;cases q;exact .inl ⟨rfl,rfl⟩
  ·rw[de e]at q;exact .inr ⟨e,q⟩
 have ne:∀b o,G b=some o->b≠a':=fun b o z w=>by rw[w,h3]at z;cases z
 refine⟨⟨h.en.gg,fun b o z=>?_,fun b o z=>?_,fun b xs z=>?_,h.en.nw⟩,by simp[h.len],fun j d z'=>?_,fun j x z' wx=>?_,fun j k x x' c z1 w1 z2 w2 z3 z4=>?_,fun j ds c z1 z2=>?_,h.co.upd h2 h5.tab⟩
 ·rw[bh (bf z h4)];exact h.en.hh b o z
 ·rw[bh (ne b o z)];exact h.en.gh b o z
 ·by_cases w:b=a'
  ·subst w;rw[bH]at z;cases z;exact r.tup.elim
  ·rw[bh w]at z;exact h.en.tp b xs z
 ·rcases uc z' with ⟨_,e⟩|⟨_,z'⟩
  ·rw[<- e]at wz;cases wz
  ·exact h.fz j d z'
 ·rcases uc z' with ⟨e,e2⟩|⟨e,z'⟩
  ·subst e;subst e2;exact⟨a',o,ha,bH,h3,h4,r⟩
  ·obtain⟨b,us,w1,w2,w3,w4,w5⟩:=h.own j x z' wx;have hne:b≠a':=fun w=>by subst w;exact e (h.ap i j y x b q wy z' wx ha w1)
   exact⟨b,us,w1,by rw[bh hne];exact w2,w3,w4,w5⟩
 ·rcases uc z1 with ⟨e1,_⟩|⟨_,z1⟩ <;> rcases uc z2 with ⟨e2,_⟩|⟨_,z2⟩
  ·exact e1.symm.trans e2
  ·subst e1;exact h.ap i k y x' c q wy z2 w2 z3 z4
  ·subst e2;exact h.ap j i x y c z1 w1 q wy z3 z4
  ·exact h.ap j k x x' c z1 w1 z2 w2 z3 z4
 ·rcases uc z1 with ⟨e1,e2⟩|⟨_,z1⟩
  ·subst e1;obtain⟨es,e3⟩:=hz ds e2.symm;rw[e3]at q;exact h.tie i es c q z2
  ·exact h.tie j ds c z1 z2
theorem SR.write(h:SR K B σ H ρ G){i:Nat}{ds es:List D}{vs:List V}{a:ab}(q:ρ[i]?=some (.ow ds))(ha:σ[i]?=some (some (.ref a)))(r:bI K G es vs):SR K B σ (upd H a (.lst vs)) (ρ.set i (.ow es)) G:=h.yh q rfl ha rfl ⟨vs,rfl,r⟩
def Ik(i:Nat)(ρ:au):au:=match ρ[i]? with|some (.ow ds)=>ρ.set i (.fz (.lst ds))|_=>ρ
theorem SR.Ik(h:SR K B σ H ρ G)(i:Nat):∃G',Same G G'/\SR K B σ H (Ik i ρ) G':=by
 unfold Vl.Ik;split
 ·rename_i ds q;obtain⟨a,vs,e1,h2,h3,h4,h5⟩:=h.ow i ds q;have hl:i < ρ.length:=(dC.mp q).1;have gg:Same G (upd G a (.lst vs)):=fun b o z=>by rw[bh (bf z h3)];exact z
  refine⟨upd G a (.lst vs),gg,⟨h.en.gg.trans gg,h.en.hh,fun b o z=>?_,fun b xs z=>?_,fun b o z w=>?_⟩,by simp[h.len],fun j d z=>?_,fun j fs z wz=>?_,fun j k fs gs c z1 w1 z2 w2 z3 z4=>?_,fun j es c z1 z2=>?_,h.co⟩
  ·by_cases w:b=a
   ·subst w;rw[bH]at z;cases z;exact h2
   ·rw[bh w]at z;exact h.en.gh b o z
  ·by_cases w:b=a
   ·subst w;rw[h2]at z;cases z
   ·rw[bh w];exact h.en.tp b xs z
  ·rw[bh (bf z h4)];exact h.en.nw b o z w
  ·by_cases e:i=j
   ·subst e;rw[dE hl]at z;cases z;exact⟨_,e1,aY.mpr ⟨a,vs,rfl,.of bH,h5.mono gg⟩⟩
   ·rw[de e]at z;obtain⟨v,w1,w2⟩:=h.fz j d z;exact⟨v,w1,w2.mono gg⟩
  ·by_cases e:i=j
   ·subst e;rw[dE hl]at z;cases z;cases wz
   ·rw[de e]at z;obtain⟨b,us,w1,w2,w3,w4,w5⟩:=h.own j fs z wz;have hne:b≠a:=fun w=>by subst w;exact e (h.ap i j _ fs b q rfl z wz e1 w1)
    exact⟨b,us,w1,w2,by rw[bh hne];exact w3,w4,w5.mono gg⟩
  ·have nj:i≠j:=fun e=>by subst e;rw[dE hl]at z1;cases z1;cases w1
   have nk:i≠k:=fun e=>by subst e;rw[dE hl]at z2;cases z2;cases w2
   rw[de nj]at z1;rw[de nk]at z2;exact h.ap j k fs gs c z1 w1 z2 w2 z3 z4
  ·have nj:i≠j:=fun e=>by subst e;rw[dE hl]at z1;cases z1
   rw[de nj]at z1;exact h.tie j es c z1 z2
 ·exact⟨G,.refl _,h⟩
theorem ahK{st:List bj}{g:au->Ou}(i:Nat)(h:wk X B W st g):wk X B W st (fun ρ=>g (Ik i ρ)) :=
 Xw.imp h fun De σ H ⟨ρ,G,s,p⟩=>let ⟨G',gg,s'⟩:=s.Ik i;⟨_,G',s',cO.same p gg⟩
theorem alj{i:Nat}{x:Str}{es:List ag}{pos pos' lp:Pos}{f:au->Rs (List D)}(hN:X.N.Nodup)(hi:X.N[i]?=some x)(hx:Mu X.env.scope x)(he:SA X B W es f)(hs:eL (.List es lp) (some (.Name x pos')) pos.line X.env=pure false:=by rfl)(hf:X.fn x=true∨X.env.scope.names.lookup x=some .local:=by first|exact .inl rfl|exact .inr rfl|assumption) :
  SS X B W (.Assign [.Name x pos'] (.List es lp) pos) (fun ρ=>oR (f ρ) ρ fun ds=>if ds.length<=1000 then .nx (ρ.set i (.ow ds)) else .no):=by
 refine PS.imp (zM hN hi hx (XF he) hs hf) fun De σ H ⟨ρ,G,s,p⟩=>⟨ρ,G,s,?_⟩
 dsimp only at p;cases e:f ρ with
 |ok ds =>
  rw[e]at p;have p':cO X.K B W G (if ds.length<=1000 then .nx (ρ.set i (.ow ds)) else .no) De:=p;by_cases hl:ds.length<=1000
  ·rw[if_pos hl]at p';exact fun vs H' G' x r=>⟨by rw[<- r.length];exact Et hl,fun c hc=>p' _ _ G' ((s.ext x).aee r hc) x.gg⟩
  ·rw[if_neg hl]at p';exact p'.elim
 |ex c n=>rw[e]at p;exact fun H' G' x=>p σ H' G' (s.ext x) x.gg
 |no=>rw[e]at p;exact p
end
def cP(h:Tg)(gb:au->Ou):List D->au->Ou
 | [],ρ=>.nx ρ
 |d::ds,ρ=>match h d ρ with
  |none=>.no
  |some ρ1=>match gb ρ1 with
   | .nx ρ2=>cP h gb ds ρ2
   | .ct ρ2=>cP h gb ds ρ2
   | .bk ρ2=>.nx ρ2
   |o=>o
def WF:Wi:=fun _ _ _ _=>False
section
variable{X:Cx}{K:ai}{B:Bs}{W:Wi}{σ:St}{G G' H:Hp}{ρ:au}{De De':Ends}
theorem yj{h:Tg}{gb:au->Ou}{d:D}{ds:List D}{v:V}{Pv:St->Hp->Prop}(s:SR K B σ H ρ G)(r:Rep K G d v)(p:cO K B W G (cP h gb (d::ds) ρ) De)
  (hP:∀σ' H' ρ' G',SR K B σ' H' ρ' G'->Same G G'->cO K B W G' (cP h gb ds ρ') De->Pv σ' H') :
  tG K B h v σ H fun σ2 H2=>tS K B W gb { De with nx:=Pv,ct:=Pv,bk:=De.nx } σ2 H2:=by
 unfold cP at p;cases e:h d ρ with
 |none=>rw[e]at p;exact p.elim
 |some ρ1 =>
  rw[e]at p;refine⟨ρ,G,d,s,r,ρ1,e,fun σ1 s1=>⟨ρ1,G,s1,?_⟩⟩;dsimp only at p;cases e2:gb ρ1 with
  |nx ρ2=>rw[e2]at p;exact fun σ' H' G' s' q=>hP σ' H' ρ2 G' s' q (cO.same p q)
  |ct ρ2=>rw[e2]at p;exact fun σ' H' G' s' q=>hP σ' H' ρ2 G' s' q (cO.same p q)
  |bk ρ2=>rw[e2]at p;exact p
  |rt d=>rw[e2]at p;exact p
  |ex c n ρ2=>rw[e2]at p;exact p
  |no=>rw[e2]at p;exact p
  |rx d ρ2=>rw[e2]at p;exact p
  |rl ds=>rw[e2]at p;exact p
def KH(h:Tg)(gb:au->Ou)(f:au->Rs D):au->Ou:=fun ρ=>oR (f ρ) ρ fun d=>match d with|.lst ds=>cP h gb ds ρ|_=>.no
def ud(h:Tg)(gb:au->Ou)(f:au->Rs D):au->Ou:=fun ρ=>oR (f ρ) ρ fun d=>match d with|.tup ds=>cP h gb ds ρ|_=>.no
def Ey(h:Tg)(gb:au->Ou)(f:au->Rs D):au->Ou:=fun ρ=>oR (f ρ) ρ fun d=>match d with|.int n=>if-(2 ^ 62)<=n/\n < 2 ^ 62 then cP h gb ((bE n.toNat).map fun(i:Nat)=>.int i) ρ else .no|_=>.no
def Ez(h:Tg)(gb:au->Ou)(fs:au->Rs (List D)):au->Ou:=fun ρ=>oR (fs ρ) ρ fun ds=>match ds with
 | [.int m,.int n]=>if (-(2 ^ 62)<=m/\m < 2 ^ 62/\-(2 ^ 62)<=n/\n < 2 ^ 62) then cP h gb ((bE (n - m).toNat).map fun(i:Nat)=>.int (m + i)) ρ else .no|_=>.no
theorem Nf{tg iter:ag}{body:List bj}{pos:Pos}{f:au->Rs D}{h:Tg}{gb:au->Ou}(hp:kL (ar X.prog X.w) X.A X.env X.xe)(hc:X.calm=true)(hi:SE X B W iter f)(hg:SG X B tg h)(hb:wk X B W body gb)
  (hs:∀x,f6 iter X.env x=pure x:=by intro _;rfl):SS X B W (.For tg iter body [] pos) (KH h gb f):=by
 refine PS.imp (zO hp hc (aag hi) hg hb hs) fun De σ H fZ=>?_;obtain⟨ρ,G,s,p⟩:=fZ;refine⟨ρ,G,s,jg s p fun d v H1 G1 _ e r p1=>?_⟩;cases d with
 |lst ds =>
  obtain⟨a,vs,rfl,q,rr⟩:=aY.mp r;refine⟨a,rfl,⟨vs,e.gh.seq q⟩,adD (fun i σ H=>∃ρ G,SR X.K B σ H ρ G/\tL X.K G a vs/\bI X.K G ds vs/\cO X.K B W G (cP h gb (ds.drop i) ρ) De) ⟨ρ,G1,s.ext e,q,rr,by simpa using p1⟩ (fun i σ H _ ⟨ρ,G,s,q,_⟩=>s.en.gh.seq q) ?_ ?_⟩
  ·rintro i x σ2 H2 hx ⟨ρ2,G2,s2,q2,r2,p2⟩;obtain⟨d,hd,rd⟩:=r2.get' hx;have hl:=(dC.mp hd).1;rw[iP hl,(dC.mp hd).2]at p2;exact yj s2 rd p2 fun σ' H' ρ' G' s' q' p'=>⟨ρ',G',s',q'.seq q2,r2.mono q',p'⟩
  ·rintro σ2 H2 ⟨ρ2,G2,s2,q2,r2,p2⟩;rw[<- r2.length,pV]at p2;exact p2 σ2 H2 G2 s2 (.refl _)
 |_=>exact p1.elim
theorem pA{tg iter:ag}{body:List bj}{pos:Pos}{f:au->Rs D}{h:Tg}{gb:au->Ou}(hp:kL (ar X.prog X.w) X.A X.env X.xe)(hc:X.calm=true)(hi:SE X B W iter f)(hg:SG X B tg h)(hb:wk X B W body gb)
  (hs:∀x,f6 iter X.env x=pure x:=by intro _;rfl):SS X B W (.For tg iter body [] pos) (ud h gb f):=by
 refine PS.imp (zO hp hc (adC hi) hg hb hs) fun De σ H fZ=>?_;obtain⟨ρ,G,s,p⟩:=fZ;refine⟨ρ,G,s,jg s p fun d v H1 G1 _ e r p1=>?_⟩;cases d with
 |tup ds =>
  obtain⟨a,vs,rfl,q,rr⟩:=bA.mp r;refine⟨a,rfl,⟨vs,Same.gW e.gh q⟩,ahw (fun i σ H=>∃ρ G,SR X.K B σ H ρ G/\pR X.K G a vs/\bI X.K G ds vs/\cO X.K B W G (cP h gb (ds.drop i) ρ) De) ⟨ρ,G1,s.ext e,q,rr,by simpa using p1⟩ (fun i σ H _ ⟨ρ,G,s,q,_⟩=>Same.gW s.en.gh q) ?_ ?_⟩
  ·rintro i x σ2 H2 hx ⟨ρ2,G2,s2,q2,r2,p2⟩;obtain⟨d,hd,rd⟩:=r2.get' hx;have hl:=(dC.mp hd).1;rw[iP hl,(dC.mp hd).2]at p2;exact yj s2 rd p2 fun σ' H' ρ' G' s' q' p'=>⟨ρ',G',s',Same.gW q' q2,r2.mono q',p'⟩
  ·rintro σ2 H2 ⟨ρ2,G2,s2,q2,r2,p2⟩;rw[<- r2.length,pV]at p2;exact p2 σ2 H2 G2 s2 (.refl _)
 |_=>exact p1.elim
theorem wO{h:Tg}{gb:au->Ou}{lo:Int}{n:Nat}(s:SR K B σ H ρ G)(p:cO K B W G (cP h gb ((bE n).map fun(i:Nat)=>.int (lo + i)) ρ) De) :
  ∃W0:Nat->Nat->St->Hp->Prop,(∃m,W0 0 m σ H)/\∀i m σ H,W0 i m σ H ->
   ((Itr lo n).stop i H/\De.nx σ H)∨((Itr lo n).go i H/\∃N:St->Hp->Prop,(∀σ' H',N σ' H'->∃m',m' < m/\W0 (i + 1) m' σ' H')/\∀x H',(Itr lo n).yld i H x H'->tG K B h x σ H' fun σ2 H2=>tS K B W gb { De with nx:=N,ct:=N,bk:=De.nx } σ2 H2):=by
 refine aby (fun i σ H=>∃ρ G,SR K B σ H ρ G/\cO K B W G (cP h gb (((bE n).map fun(i:Nat)=>D.int (lo + i)).drop i) ρ) De) ⟨ρ,G,s,by simpa using p⟩ ?_ ?_
 ·rintro i σ2 H2 hi ⟨ρ2,G2,s2,p2⟩;have hl:i < ((bE n).map fun(i:Nat)=>D.int (lo + i)).length:=by simpa using hi
  rw[iP hl]at p2;rw[show((bE n).map fun(i:Nat)=>D.int (lo + i))[i]=D.int (lo + i) by simp]at p2;exact yj s2 (aM.mpr rfl) p2 fun σ' H' ρ' G' s' q' p'=>⟨ρ',G',s',p'⟩
 ·rintro σ2 H2 ⟨ρ2,G2,s2,p2⟩;rw[ml (by simp)]at p2;exact p2 σ2 H2 G2 s2 (.refl _)
theorem Ng{tg e:ag}{body:List bj}{pos p1 p2:Pos}{f:au->Rs D}{h:Tg}{gb:au->Ou}(hp:kL (ar X.prog X.w) X.A X.env X.xe) (hc:X.calm=true) (hm:X.mg "range"=none) (hi:SE X B W e f) (hg:SG X B tg h) (hb:wk X B W body gb)
  (hgl:Gl X "range":=by rfl) (hst:ba [e] X.env=[(false,a_ e X.env)]:=by rfl)
  (hs:∀x,f6 (.Call (.Name "range" p1) [e] [] p2) X.env x=pure x:=by intro _;rfl):SS X B W (.For tg (.Call (.Name "range" p1) [e] [] p2) body [] pos) (Ey h gb f):=by
 refine PS.imp (zO hp hc (Ko hgl hm (dY hi jr (by rw[hst];rfl)) hst) hg hb hs) fun De σ H fZ=>?_;obtain⟨ρ,G,s,p⟩:=fZ;refine⟨ρ,G,s,jg s p fun d v H1 G1 _ e r p1=>?_⟩;cases d with
 |int n =>
  dsimp only at p1;by_cases c:-(2 ^ 62)<=n/\n < 2 ^ 62
  ·rw[if_pos c]at p1;refine⟨n,by rw[aM.mp r],c.1,c.2,wO (s.ext e) ?_⟩;simpa using p1
  ·rw[if_neg c]at p1;exact p1.elim
 |_=>exact p1.elim
theorem aef{tg e e':ag}{body:List bj}{pos p1 p2:Pos}{f f':au->Rs D}{h:Tg}{gb:au->Ou}(hp:kL (ar X.prog X.w) X.A X.env X.xe) (hc:X.calm=true) (hm:X.mg "range"=none) (hi:SE X B W e f) (hi':SE X B W e' f') (hg:SG X B tg h) (hb:wk X B W body gb)
  (hgl:Gl X "range":=by rfl) (hst:ba [e,e'] X.env=[(false,a_ e X.env),(false,a_ e' X.env)]:=by rfl) (hst2:ba [e'] X.env=[(false,a_ e' X.env)]:=by rfl)
  (hs:∀x,f6 (.Call (.Name "range" p1) [e,e'] [] p2) X.env x=pure x:=by intro _;rfl):SS X B W (.For tg (.Call (.Name "range" p1) [e,e'] [] p2) body [] pos) (Ez h gb (ao f (ao f' aR))):=by
 refine PS.imp (zO hp hc (abw hgl hm (ak hi (ak hi' aK (by rw[hst2];rfl)) (by rw[hst,hst2])) hst hst2) hg hb hs) fun De σ H fZ=>?_;obtain⟨ρ,G,s,p⟩:=fZ;refine⟨ρ,G,s,?_⟩;unfold Ez at p;cases e1:ao f (ao f' aR) ρ with
 |ok ds =>
  rw[e1]at p;intro vs H1 G1 e r;have p1:=cO.same p e.gg;simp only[oR]at p1;split at p1
  ·rename_i m n;obtain⟨v,vs',rfl,r1,r2⟩:=aQ.mp r;obtain⟨v2,vs'',rfl,r3,r4⟩:=aQ.mp r2;rw[aM.mp r1,aM.mp r3,bD.mp r4];by_cases c:(-(2 ^ 62)<=m/\m < 2 ^ 62/\-(2 ^ 62)<=n/\n < 2 ^ 62)
   ·rw[if_pos c]at p1;exact⟨m,n,rfl,c,wO (s.ext e) p1⟩
   ·rw[if_neg c]at p1;exact p1.elim
  ·exact p1.elim
 |ex c n=>rw[e1]at p;exact fun H' G' x=>p σ H' G' (s.ext x) x.gg
 |no=>rw[e1]at p;exact p
def aeg:Ou->Ou
 | .ex _ _ _=>.no
 |o=>o
theorem abH{o:Ou}(p:cO K B W G (aeg o) De):cO K B WF G o De:=by
 cases o with
 |ex c n ρ=>exact p.elim
 |_=>exact p
theorem PS.nox{st:bj}{t:TS}(h:PS X.nox st t):PS X st t:=fun pins s σ H D I hw =>
 d6 (h pins s σ H D (I.wish _) hw) (fun _ _ q=>q.tR) fun _ _ z=>f_ z
theorem alm{st:bj}{g:au->Ou}(h:SS X.nox B WF st g):SS X B W st (fun ρ=>aeg (g ρ)) :=
 PS.imp (PS.nox h) fun De σ H ⟨ρ,G,s,p⟩=>⟨ρ,G,s,abH p⟩
def zig(n:Int):Nat:=if 0<=n then 2 * n.toNat else 2 * (-n).toNat + 1
def Dv(c:Str)(n:Int):aa:=.str c (zig n)
def RP(K:ai)(G H:Hp)(Q:VK)(E:XK)(r:Rs D):Prop:=match r with
 | .ok d=>∀v H' G',Ext G H G' H'->Rep K G' d v->Q v H'
 | .ex c n=>∀H' G',Ext G H G' H'->E (Dv c n) none H'
 | .no=>False
def spV(K:ai)(k:Nat)(g:List D->Rs D):Sp:=fun vs H Q E=>vs.length=k/\∃G ds,Ex0 K G H/\bI K G ds vs/\RP K G H Q E (g ds)
def gB:Ou->Rs D
 | .nx _=>.ok .non
 | .rt d=>.ok d
 | .ex c n _=>.ex c n
 |_=>.no
def EY{α:Type}:Rs α->Rs α
 | .ex _ _=>.no
 |o=>o
def bG(N:List Str)(ds:List D):au:=ds.map .fz++gy (N.length - ds.length) .no
theorem Fb{N:List Str}{ds:List D}{vs:List V}(e:Ex0 K G H)(r:bI K G ds vs):SR K ⟨G,H,0⟩ (L2.start N vs) H (bG N ds) G:=by
 have aeh:∀(i:Nat) (z:Sl),(bG N ds)[i]?=some z->z.own=true->False:=fun i z q w=>by
  unfold bG at q;by_cases hi:i < (ds.map Sl.fz).length
  ·rw[f9 hi,cw]at q;cases e1:ds[i]? with
   |none=>rw[e1]at q;cases q
   |some d=>rw[e1]at q;cases q;cases w
  ·rw[gE (by lia),kc]at q;split at q <;> cases q;cases w
 refine⟨e.toExt,?_,fun i d q=>?_,fun i z q w=>(aeh i z q w).elim,fun i j z z' a q w=>(aeh i z q w).elim,fun i ds a q=>(aeh i _ q rfl).elim,e.co⟩
 ·unfold bG L2.start;simp[r.length]
 ·unfold bG at q;unfold L2.start;by_cases hi:i < (ds.map Sl.fz).length
  ·rw[f9 hi,cw]at q;cases e1:ds[i]? with
   |none=>rw[e1]at q;cases q
   |some d' =>
    rw[e1]at q;cases q;obtain⟨v,h1,h2⟩:=r.get e1;refine⟨v,?_,h2⟩;rw[f9 (by rw[cf,<- r.length];simpa using hi),cw,h1];rfl
  ·rw[gE (by lia),kc]at q;split at q <;> cases q
theorem Ti{o:Ou}{Q:VK}{E:XK}(h:RP K B.1 B.2 Q E (gB o)):cO K B (fun c n _ H'=>E (Dv c n) none H') G o { nx:=fun _ H'=>Q .non H',rt:=Q }:=by
 cases o with
 |nx ρ'=>exact fun σ' H' G' s q=>h .non H' G' s.en (bT.mpr rfl)
 |rt d=>exact fun v H' G' x q r=>h v H' G' x r
 |ex c n ρ'=>exact fun σ' H' G' s q=>h H' G' s.en
 |bk _=>exact h.elim
 |ct _=>exact h.elim
 |no=>exact h.elim
 |rx _ _=>exact h.elim
 |rl _=>exact h.elim
section
variable{P:aE}{w:az}{mg:Str->Option aa}{base:Heap}{x qual:Str}{st:bj}{f:ab}{fd:ck}{N ps:List Str}{k:Nat}
end
end
theorem Nh{prog:aE}{w:az}{A:aS}{s:ae}{R:Result->ae->Prop}{elt target iter:ag}{ifs:List ag}{scope:Scope}{pos:Pos}{it acc:aa}{env:Env}(J:Nat->ae->Prop)
  (turn:∀k t,J k t->ah (ar prog w) A (d7 it) (fun o t1=>match o with
   |none=>R (.ok .next) t1
   |some x=>ah (ar prog w) A (o9 target it x) (fun _ t2=>ah (ar prog w) A (assign target env x) (fun _ t3 =>
     ah (ar prog w) A (forIn ifs true fun c go=>if go=true then do { let y <- isTrue c env (a_ c env);pure (ForInStep.yield y) } else pure (ForInStep.yield go)) (fun yes t4 =>
      if yes=true then ah (ar prog w) A (a_ elt env) (fun y t5 =>
       ah (ar prog w) A (call (.builtin "list.append") [acc,y]) (fun _ t6=>∃j,j < k/\J j t6) (fun _ _=>False) t5) (fun _ _=>False) t4
      else ∃j,j < k/\J j t4) (fun _ _=>False) t3) (fun _ _=>False) t2) (fun _ _=>False) t1) (fun _ _=>False) t)
  (n:Nat) (h:J n s):f7 (ar prog w) A (.compLoop (.ListComp elt [⟨target,iter,ifs,0⟩] scope pos) 0 it acc env) R s:=by
 refine codeAny_loop rfl J (fun k t hJ=>?_) n h;show ah _ A (Sem.onRaise (compTurn (.ListComp elt [⟨target,iter,ifs,0⟩] scope pos) 0 it acc env) (fun x=>do noteFrame x env;theTreesLotGoes x)) _ _ t;refine wpAny_noted ?_;rw[compTurn_list];refine af (sF (af (d6 (turn k t hJ) (fun o t1 g1=>?_) fun _ _ z=>z.elim)));cases o with
 |none=>exact ax g1
 |some x =>
  refine af (d6 g1 (fun _ t2 g2=>?_) fun _ _ z=>z.elim);refine af (d6 g2 (fun _ t3 g3=>af (d6 g3 (fun yes t4 g4=>?_) fun _ _ z=>z.elim)) fun _ _ z=>z.elim);cases yes with
  |true=>exact af (af (d6 g4 (fun y t5 g5=>af (d6 g5 (fun _ t6 g6=>ax (ax ⟨rfl,g6⟩)) fun _ _ z=>z.elim)) fun _ _ z=>z.elim))
  |false=>exact ax ⟨rfl,g4⟩
abbrev kh(X:Cx)(N:List Str)(s₀:ae)(H₀:Hp)(sc:Scope)(cl:List (Str×ab))(C:ab)(ex:List ab)(pins:List (ab×Obj)):Cx where
 prog:=X.prog
 w:=X.w
 K:=X.K
 mg:=X.mg
 base:=X.base
 A:=X.A
 N:=N
 s₀:=s₀
 H₀:=H₀
 env:=compEnvC sc cl C X.env
 outer:=X.stack
 stack:=X.stack
 ex:=ex
 fn:=fun _=>false
 calm:=X.calm
 pn:=X.pn++pins
 xe:=fun _ _=>False
def gj(sc:Scope)(env:Env):List (Str×ab):=sc.names.foldl (fun cs y=>if y.2 == .free then (y.1,(env.cells.lookup y.1).getD 0)::cs else cs) []
theorem tu{sc:Scope}{env:Env}(h:∀y∈sc.names,y.2=.free->∃c,env.cells.lookup y.1=some c):closureFor sc env=pure (gj sc env):=by
 unfold closureFor gj;have key:∀(l:List (Str×d9)) (cs:List (Str×ab)),(∀y∈l,y.2=.free->∃c,env.cells.lookup y.1=some c) ->
   (forIn l cs (fun(x:Str×d9) (r:List (Str×ab))=>if (x.2 == d9.free)=true then do let a <- cellOf env x.1;pure (ForInStep.yield ((x.1,a)::r)) else pure (ForInStep.yield r)):Sem (List (Str×ab))) =
    pure (l.foldl (fun cs y=>if y.2 == .free then (y.1,(env.cells.lookup y.1).getD 0)::cs else cs) cs):=by
  intro l
  induction l with
  |nil=>intro cs _;rfl
  |cons y l ih =>
   intro cs hl;rw[List.forIn_cons,kQ];by_cases hk:(y.2 == d9.free)=true
   ·obtain⟨c,hc⟩:=hl y dA (by simpa using hk);rw[if_pos hk,if_pos hk];unfold cellOf;rw[hc];exact ih _ fun z hz=>hl z (dS _ hz)
   ·rw[if_neg hk,if_neg hk];exact ih _ fun z hz=>hl z (dS _ hz)
 have:=key sc.names [] h;simp only[]at this ⊢;rw[this];rfl
theorem aei{sc:Scope}{env:Env}:∀y∈gj sc env,(∃k∈sc.names,k.1=y.1/\k.2=.free)/\y.2=(env.cells.lookup y.1).getD 0:=by
 unfold gj;have key:∀(l:List (Str×d9)) (cs:List (Str×ab)) (y:Str×ab),y∈l.foldl (fun cs y=>if y.2 == .free then (y.1,(env.cells.lookup y.1).getD 0)::cs else cs) cs ->
   y∈cs∨((∃k∈l,k.1=y.1/\k.2=.free)/\y.2=(env.cells.lookup y.1).getD 0):=by
  intro l
  induction l with
  |nil=>intro cs y h;exact .inl h
  |cons z l ih =>
   intro cs y h;rw[kQ]at h;rcases ih _ y h with h|⟨⟨k,hk,e⟩,e2⟩
   ·by_cases hz:(z.2 == d9.free)=true
    ·rw[if_pos hz]at h;rcases bP.mp h with e|h
     ·subst e;exact .inr ⟨⟨z,dA,rfl,by simpa using hz⟩,rfl⟩
     ·exact .inl h
    ·rw[if_neg hz]at h;exact .inl h
   ·exact .inr ⟨⟨k,dS _ hk,e⟩,e2⟩
 intro y hy;rcases key sc.names [] y hy with h|h
 ·cases h
 ·exact h
theorem yp{sc:Scope}{env:Env}{n:Str}(h:(n,d9.free)∈sc.names):∃c,(gj sc env).lookup n=some c:=by
 have key:∀(l:List (Str×d9)) (cs:List (Str×ab)),((n,d9.free)∈l∨∃c,cs.lookup n=some c)->∃c,(l.foldl (fun cs y=>if y.2 == .free then (y.1,(env.cells.lookup y.1).getD 0)::cs else cs) cs).lookup n=some c:=by
  intro l
  induction l with
  |nil =>
   intro cs h;rcases h with h|h
   ·cases h
   ·exact h
  |cons z l ih =>
   intro cs h;rw[kQ];refine ih _ ?_;rcases h with h|⟨c,hc⟩
   ·rcases bP.mp h with e|h
    ·subst e;refine .inr ⟨(env.cells.lookup n).getD 0,?_⟩;rw[if_pos (by rfl),mo]
    ·exact .inl h
   ·right;by_cases hz:(z.2 == d9.free)=true
    ·rw[if_pos hz];by_cases e:n=z.1
     ·subst e;exact⟨_,mo⟩
     ·exact⟨c,by rw[j3,show(n == z.1)=false by simpa using e];exact hc⟩
    ·rw[if_neg hz];exact⟨c,hc⟩
 exact key sc.names [] (.inl h)
section
variable{X:Cx}{pins:List (ab×Obj)}{σ:St}{H:Hp}{s:ae}
theorem oA{sc:Scope}{env:Env}{x:Str}{k:d9}(h:(relabel sc env).names.lookup x=some k):(∃k',sc.names.lookup x=some k'/\(k'=k∨(k'=.free/\k=.cell))):=by
 have key:∀l:List (Str×d9),tm x (l.map fun(n,k)=>if (k == .free && env.scope.kind == .function && env.kindOf n == some .cell) then (n,d9.cell) else (n,k))=some k ->
   ∃k',l.lookup x=some k'/\(k'=k∨(k'=.free/\k=.cell)):=by
  intro l
  induction l with
  |nil=>intro h;cases h
  |cons y l ih =>
   intro h;obtain⟨n,kk⟩:=y;rw[cn]at h;by_cases e:(x == n)=true
   ·refine⟨kk,by rw[j3,e],?_⟩;dsimp only at h;split at h
    ·rename_i hc;rw[j3,e]at h;have h':d9.cell=k:=c9 h;exact .inr ⟨by simp only[jv,beq_iff_eq]at hc;exact hc.1.1,h'.symm⟩
    ·rw[j3,e]at h;exact .inl (c9 h)
   ·have e':(x == n)=false:=by simpa using e
    obtain⟨k',a,b⟩:=ih (by
     dsimp only at h;split at h <;> (rw[j3,e']at h;exact h))
    exact⟨k',by rw[j3,e'];exact a,b⟩
 exact key sc.names h
structure wQ (X:Cx)(sc:Scope)(N:List Str)(nt:Nat)(caps:List Nat):Prop where
 kind:sc.kind=.function
 Ni:∀y∈sc.names,y.2≠.cell
 fr:∀y∈sc.names,y.2=.free->X.env.kindOf y.1=some .cell∨X.env.kindOf y.1=some .free
 len:N.length=nt + caps.length
 cap:∀(j i:Nat) (x:Str),caps[j]?=some i->N[nt + j]?=some x->X.N[i]?=some x/\sc.names.lookup x=some .free
theorem wQ.cells{sc:Scope}{N:List Str}{nt:Nat}{caps:List Nat}(c:wQ X sc N nt caps)(I:Inv X pins σ H s):∀y∈sc.names,y.2=.free->∃a,X.env.cells.lookup y.1=some a :=
 fun y hy hf=>I.ok.has y.1 (c.fr y hy hf)
theorem wQ.cl{sc:Scope}{N:List Str}{nt:Nat}{caps:List Nat}(c:wQ X sc N nt caps)(I:Inv X pins σ H s){x:Str}{a:ab}(h:(gj sc X.env).lookup x=some a):X.env.cells.lookup x=some a:=by have hm:=gz h;obtain⟨⟨k,hk,e1,e2⟩,e3⟩:=aei _ hm;obtain⟨b,hb⟩:=c.cells I k hk e2;rw[e1]at hb;dsimp only at e3 hb;rw[hb]at e3;rw[hb,e3];rfl
def uf(nt:Nat)(caps:List Nat)(σ:St):St:=gy nt none++caps.map fun i=>(σ[i]?).getD none
theorem Yc{sc:Scope}{N:List Str}{nt:Nat}{caps:List Nat}{fp:List ab}{h':Heap}{tk:Nat}(c:wQ X sc N nt caps)(I:Inv X pins σ H s)(hfp:∀b∈fp,qY X pins H b/\b < s.heap.objs.size)
  (hn:h'.Ns s.heap.objs.size fun _=>none) (hk:∀b o,s.heap.get? b=some o->h'.get? b=some o) :
  Inv (kh X N s H sc (gj sc X.env) s.heap.objs.size fp pins) [] (uf nt caps σ) H { s with heap:=h',toks:=tk }:=by
 have clX:∀{x:Str}{a:ab},(gj sc X.env).lookup x=some a->X.env.cells.lookup x=some a:=fun h=>c.cl I h;have stk:∀b,b≠X.env.locals->b∉X.fs->b∉qp X.stack:=fun b h1 h2 h3=>(bP.mp (I.wJ b h3)).elim h1 h2;refine⟨⟨I.ok.mod,c.kind,I.ok.glob,I.ok.blt,bo _,fun x y a h1 h2=>I.ok.inj x y a (clX h1) (clX h2),fun x hx=>?_,fun x a hf=>absurd (show false=true from hf) tq,I.ok.hd,I.ok.frames,.inl rfl,fun b hb=>⟨b_ (hfp b hb).2,fun x a ha=>(hfp b hb).1.2.2.2.2.1 x a (clX ha)⟩,
  fun b o e=>I.bs b o e,cz I.ok.bsz I.sz,fun b o e hb=>?_,fun b hb=>stk b (hfp b hb).1.2.1 (hfp b hb).1.2.2.1,I.stack,I.Ds⟩,
  rfl,I.bare,Un.kept hk,⟨_,hn,fun i x v h1 h2 h3=>?_⟩,fun x a ha=>?_,I.hok.fresh (bo _),fun x a ha=>I.sW x a (clX ha),fun p hp=>?_,I.hok.kept hk,?_⟩
 ·-- has
  have hx':(relabel sc X.env).names.lookup x=some .cell∨(relabel sc X.env).names.lookup x=some .free:=hx;have:sc.names.lookup x=some .free:=by
   rcases hx' with hx'|hx'
   ·obtain⟨k',h1,h2⟩:=oA hx';rcases h2 with h2|⟨h2,_⟩
    ·subst h2;exact(c.Ni _ (gz h1) rfl).elim
    ·rw[h1,h2]
   ·obtain⟨k',h1,h2⟩:=oA hx';rcases h2 with h2|⟨h2,e⟩
    ·rw[h1,h2]
    ·cases e
  exact yp (gz this)
 ·-- abu
  obtain⟨_,_,_,h4,_⟩:=(hfp b hb).1;rcases h4 with h4|h4
  ·exact I.ok.abu b o e h4
  ·exact absurd (et (bq e) (cz I.ok.bsz h4)) (gu _)
 ·-- loc
  unfold uf at h2;by_cases hi:i < (gy nt (none:Option V)).length
  ·rw[f9 hi,kc]at h2;split at h2 <;> cases h2
  ·rw[gE (by lia),cw]at h2;rw[nV]at h2 hi;cases e:caps[i - nt]? with
   |none=>rw[e]at h2;cases h2
   |some k =>
    rw[e]at h2;have h2':(σ[k]?).getD none=some v:=c9 h2;have hs:σ[k]?=some (some v):=by
     cases e3:σ[k]? with
     |none=>rw[e3]at h2';cases h2'
     |some z=>rw[e3]at h2';exact congrArg some h2'
    obtain⟨hX,hl0⟩:=c.cap (i - nt) k x e (by rw[show nt + (i - nt)=i by lia];exact h1);have hf:(x,d9.free)∈sc.names:=gz hl0;obtain⟨m,_,hl⟩:=I.loc;have hkind:=c.fr _ hf rfl;obtain⟨u,r,l⟩:=hl k x v hX hs (by rcases hkind with q|q;exact .inr (.inl q);exact .inr (.inr q));refine⟨u,r,.inr ⟨?_,?_⟩⟩
    ·have h3':(relabel sc X.env).names.lookup x=some .local∨(relabel sc X.env).names.lookup x=some .cell∨(relabel sc X.env).names.lookup x=some .free:=h3;rcases h3' with q|q|q
     ·obtain⟨k',a1,a2⟩:=oA q;exfalso;rw[hl0]at a1;cases a1;rcases a2 with a2|⟨_,a2⟩ <;> cases a2
     ·exact .inl q
     ·exact .inr q
    ·obtain⟨cc,hcc⟩:=yp (env:=X.env) hf;refine⟨cc,hcc,?_⟩;rcases l with ⟨q,_⟩|⟨_,c2,hc2,z⟩
     ·rcases hkind with q'|q' <;> (rw[q]at q';cases q')
     ·rw[clX hcc]at hc2;cases hc2;obtain⟨o,ho,hd⟩:=z;exact⟨o,hk _ _ ho,hd⟩
 ·obtain⟨v,o,ho,hd⟩:=I.cell x a (clX ha);exact⟨v,o,hk _ _ ho,hd⟩
 ·rw[hW]at hp;obtain⟨e,n,ne,nf,d⟩:=I.pin p hp;exact⟨hk _ _ e,n,b_ (bq e),stk _ ne nf,d⟩
 ·unfold uf;rw[dy,nV,cf];exact c.len.symm
end
def Yl(K:ai)(J:It)(ds:List D)(G:Hp):Prop:=∀(i:Nat) (G1 H1:Hp),Same G G1->Ext G1 H1 G1 H1 ->
 (∀d,ds[i]?=some d->J.go i H1/\∀x H2,J.yld i H1 x H2->∃G2,Ext G1 H1 G2 H2/\Rep K G2 d x)/\(ds.length<=i->J.stop i H1)
def aej(K:ai)(W:Wi)(σ:St)(G H:Hp)(r:Rs (List D))(R:It->Hp->Prop):Prop :=
 match r with
 | .ok ds=>∀J H' G',Ext G H G' H'->Yl K J ds G'->R J H'
 | .ex c n=>∀H' G',Ext G H G' H'->W c n σ H'
 | .no=>False
def tI(K:ai)(B:Bs)(W:Wi)(f:au->Rs (List D)):TI:=fun σ H R=>∃ρ G,SR K B σ H ρ G/\aej K W σ G H (f ρ) R
def SI(X:Cx)(B:Bs)(W:Wi)(tg iter:ag)(f:au->Rs (List D)):Prop:=PI X tg iter (tI X.K B W f)
def asL:D->Rs (List D)
 | .lst ds=>.ok ds
 |_=>.no
def Xr:D->Rs (List D)
 | .tup ds=>.ok ds
 |_=>.no
section
variable{X:Cx}{K:ai}{B:Bs}{W:Wi}{σ:St}{G H:Hp}{ρ:au}{tg iter:ag}{f:au->Rs D}
theorem PI.imp{t t':TI}(h:PI X tg iter t)(i:∀σ H R,t' σ H R->t σ H R):PI X tg iter t':=fun pins s σ H R I q=>h pins s σ H R I (i σ H R q)
theorem aln{a:ab}{ds:List D}{vs:List V}(q:pR K G a vs)(r:bI K G ds vs):Yl K (Itt K a) ds G:=by intro i G1 H1 gg e;have q1:=Same.gW e.gh (Same.gW gg q);refine⟨fun d hd=>?_,fun hl=>⟨vs,q1,by rw[<- r.length];exact hl⟩⟩;obtain⟨v,hv,rv⟩:=r.get hd;refine⟨⟨vs,v,q1,hv⟩,fun x H2 y=>?_⟩;obtain⟨e2,y⟩:=y;subst e2;have:=y vs q1;rw[hv]at this;cases this;exact⟨G1,e,rv.mono gg⟩
theorem Dw{as:D->Rs (List D)}{r:Rs D}{R:It->Hp->Prop}{Q:VK}(p:aej K W σ G H (r.bind as) R)(h:∀d v H' G' ds,as d=.ok ds->Ext G H G' H'->Rep K G' d v->(∀J Sx G'',Ext G' H' G'' Sx->Yl K J ds G''->R J Sx)->Q v H')(hn:∀d c n,as d≠.ex c n):Post K W σ G H r Q:=by
 cases r with
 |ok d =>
  intro v H' G' e rv;have p':aej K W σ G H (as d) R:=p;cases e1:as d with
  |ok ds=>rw[e1]at p';exact h d v H' G' ds e1 e rv fun J Sx G'' e' y=>p' J Sx G'' (e.trans e') y
  |ex c n=>exact(hn d c n e1).elim
  |no=>rw[e1]at p';exact p'.elim
 |ex c n=>exact p
 |no=>exact p
theorem ahM(hi:SE X B W iter f):SI X B W tg iter (fun ρ=>(f ρ).bind asL):=by
 refine PI.imp (aag hi) fun σ H R ⟨ρ,G,s,p⟩=>⟨ρ,G,s,Dw p (fun d v H' G' ds e1 e rv k=>?_) (fun d c n z=>by cases d <;> cases z)⟩
 cases d with
 |lst es =>
  cases e1;obtain⟨a,vs,rfl,q,rr⟩:=aY.mp rv;refine⟨a,rfl,⟨vs,e.gh.seq q⟩,k _ H' G' (.refl e.gh e.tp) ?_⟩;intro i G1 H1 gg e';have q1:=e'.gh.seq (gg.seq q);refine⟨fun d hd=>?_,fun hl=>⟨vs,q1,by rw[<- rr.length];exact hl⟩⟩;obtain⟨v,hv,rv⟩:=rr.get hd;refine⟨⟨vs,v,q1,hv⟩,fun x H2 y=>?_⟩;obtain⟨e2,y⟩:=y;subst e2;have:=y vs q1;rw[hv]at this;cases this;exact⟨G1,e',rv.mono gg⟩
 |_=>cases e1
theorem alo(hi:SE X B W iter f):SI X B W tg iter (fun ρ=>(f ρ).bind Xr):=by
 refine PI.imp (adC hi) fun σ H R ⟨ρ,G,s,p⟩=>⟨ρ,G,s,Dw p (fun d v H' G' ds e1 e rv k=>?_) (fun d c n z=>by cases d <;> cases z)⟩
 cases d with
 |tup es =>
  cases e1;obtain⟨a,vs,rfl,q,rr⟩:=bA.mp rv;exact⟨a,rfl,⟨vs,Same.gW e.gh q⟩,k _ H' G' (.refl e.gh e.tp) (aln q rr)⟩
 |_=>cases e1
def Tj(ρ:au):Prop:=∀(i:Nat) (z:Sl),ρ[i]?=some z->z.own=true->False
def rB(h:Tg):Prop:=∀d ρ ρ',Tj ρ->h d ρ=some ρ'->Tj ρ'
def dZ(nt:Nat)(caps:List Nat)(ρ:au):au:=gy nt .no++caps.map fun i=>match ρ[i]? with|some (.fz d)=>.fz d|_=>.no
def jG(h:Tg)(ft:au->Rs Bool)(fe:au->Rs D):List D->au->Rs (List D)
 | [],_=>.ok []
 |d::ds,ρ=>match h d ρ with
  |none=>.no
  |some ρ1=>(ft ρ1).bind fun b=>if b=true then (fe ρ1).bind fun y=>(jG h ft fe ds ρ1).bind fun ys=>.ok (y::ys) else jG h ft fe ds ρ1
theorem rC{nt:Nat}{caps:List Nat}{ρ:au}:Tj (dZ nt caps ρ):=fun i z q w=>by
 unfold dZ at q;by_cases hi:i < (gy nt Sl.no).length
 ·rw[f9 hi,kc]at q;split at q <;> cases q;cases w
 ·rw[gE (by lia),cw]at q;cases e:caps[i - (gy nt Sl.no).length]? with
  |none=>rw[e]at q;cases q
  |some k =>
   rw[e]at q;have q':(match ρ[k]? with|some (.fz d)=>Sl.fz d|_=>.no)=z:=c9 q;split at q' <;> (subst q';cases w)
theorem ahN{nt:Nat}{caps:List Nat}{p:ab}(s:SR K B σ H ρ G)(hp:H p=none):SR K ⟨G,H,0⟩ (uf nt caps σ) (upd H p (.lst [])) (dZ nt caps ρ) G:=by
 refine⟨MJ s.en.gh s.en.tp hp,by simp[uf,dZ],fun i d q=>?_,fun i z q w=>(rC i z q w).elim,fun i j z z' a q w=>(rC i z q w).elim,fun i ds a q=>(rC i _ q rfl).elim,s.co.same (MJ s.en.gh s.en.tp hp).hh⟩;unfold dZ at q;unfold uf;by_cases hi:i < nt
 ·rw[f9 (by simpa using hi),kc]at q;split at q <;> cases q
 ·rw[gE (by simpa using hi),cw,nV]at q;rw[gE (by simpa using hi),cw,nV];cases e:caps[i - nt]? with
  |none=>rw[e]at q;cases q
  |some k =>
   rw[e]at q;have q':(match ρ[k]? with|some (.fz d)=>Sl.fz d|_=>.no)=.fz d:=c9 q;cases e2:ρ[k]? with
   |none=>rw[e2]at q';cases q'
   |some z =>
    rw[e2]at q';cases z with
    |fz d' =>
     cases q';obtain⟨v,h1,h2⟩:=s.fz k _ e2;exact⟨v,by simp[h1],h2⟩
    |no=>cases q'
    |ow _=>cases q'
    |od _=>cases q'
    |op _=>cases q'
theorem SR.off{p:ab}{vs us:List V}(s:SR K B σ H ρ G)(hn:Tj ρ)(hp:H p=some (.lst vs))(g:G p=none)(b:B.2 p=none):SR K B σ (upd H p (.lst us)) ρ G:=by
 refine⟨⟨s.en.gg,fun c o z=>?_,fun c o z=>?_,fun c xs z=>?_,s.en.nw⟩,s.len,s.fz,fun i z q w=>(hn i z q w).elim,fun i j z z' a q w=>(hn i z q w).elim,fun i ds a q=>(hn i _ q rfl).elim,s.co.upd hp (fun _ z=>by cases z)⟩
 ·rw[bh (bf z b)];exact s.en.hh c o z
 ·rw[bh (bf z g)];exact s.en.gh c o z
 ·by_cases w:c=p
  ·subst w;rw[bH]at z;cases z
  ·rw[bh w]at z;exact s.en.tp c xs z
def dw(h:Tg)(ft:au->Rs Bool)(fe:au->Rs D)(nt:Nat)(caps:List Nat)(f:au->Rs (List D)):au->Rs D:=fun ρ =>
 (f ρ).bind fun ds=>EY ((jG h ft fe ds (dZ nt caps ρ)).bind fun ys=>if ys.length<=1000000 then .ok (.lst ys) else .no)
theorem Nj{prog:aE}{w:az}{A:aS}{E:aa->ae->Prop}{s:ae}{env:Env}{Q:Bool->ae->Prop}(h:Q true s) :
  ah (ar prog w) A (forIn ([]:List ag) true fun c r=>if r=true then do let ok <- isTrue c env (a_ c env);pure (ForInStep.yield ok) else pure (ForInStep.yield r)) Q E s:=by
 simp only[List.forIn_nil];exact ax h
theorem KJ{elt:ag}{ifs:List ag}{sc:Scope}{pos:Pos}{N:List Str}{nt:Nat}{caps:List Nat}{h:Tg}{ft:au->Rs Bool}{fe:au->Rs D}{fi:au->Rs (List D)}
  (c:wQ X sc N nt caps) (hc:X.calm=true) (hnames:∀y∈sc.names,y.2=.local->sc.names.lookup y.1=some .local) (hi:SI X B W tg iter fi) (hno:rB h)
  (ht:∀s₀ H₀ C ex pins B',SG (kh X N s₀ H₀ sc (gj sc X.env) C ex pins) B' tg h)
  (hif:(ifs=[]/\ft=fun _=>.ok true)∨∃c,ifs=[c]/\∀s₀ H₀ C ex pins B',ST (kh X N s₀ H₀ sc (gj sc X.env) C ex pins) B' WF c ft)
  (he:∀s₀ H₀ C ex pins B',SE (kh X N s₀ H₀ sc (gj sc X.env) C ex pins) B' WF elt fe)
  (hs:∀x,f6 iter X.env x=pure x)
  {use:Option (aa->Sem Unit)}{QQ:aa->ae->Prop}{pins:List (ab×Obj)}{s:ae}{σ:St}{H G:Hp}{ρ:au}(I:Inv X pins σ H s) (sr:SR X.K B σ H ρ G)
  (p:match dw h ft fe nt caps fi ρ with
   | .ok d=>∀(D' C:ab) (H' G':Hp) (s5:ae) (fl:Flow),Ext G H G' H'->Rep X.K G' d (.ref D')->(∃m,s5.heap.Ns C m)->qY X pins H' C->(∀h',eK C s5.heap h'->Inv X pins σ H' { s5 with heap:=h' })->p7 (ar X.prog X.w) X.A X.xe use QQ (.ref D') C (.ok fl) s5
   | .ex c n=>∀H' G',Ext G H G' H'->W c n σ H'
   | .no=>False) :
  ah (ar X.prog X.w) X.A (comprehension (.ListComp elt [⟨tg,iter,ifs,0⟩] sc pos) sc X.env (firstIterPos [⟨tg,iter,ifs,0⟩] pos) (newList []) (firstAsync [⟨tg,iter,ifs,0⟩]) (firstIter [⟨tg,iter,ifs,0⟩] X.env) use) QQ X.xe s:=by
 refine wpAny_comprehension_free (use:=use) (cl:=gj sc X.env) rfl hs (tu (c.cells I)) c.kind hnames ?_;show ah (ar X.prog X.w) X.A (a_ iter X.env) _ X.xe s;refine d6 (hi pins s σ H (fun J H2=>∃G2 ds,Ext G H G2 H2/\Yl X.K J ds G2/\∃YS,jG h ft fe ds (dZ nt caps ρ)=.ok YS/\YS.length<=1000000/\∀(D' C:ab) (H' G':Hp) (s5:ae) (fl:Flow),Ext G H G' H'->Rep X.K G' (.lst YS) (.ref D')->(∃m,s5.heap.Ns C m)->qY X pins H' C->(∀h',eK C s5.heap h'->Inv X pins σ H' { s5 with heap:=h' })->p7 (ar X.prog X.w) X.A X.xe use QQ (.ref D') C (.ok fl) s5) I ⟨ρ,G,sr,?_⟩) (fun v s1 h1=>d6 h1 (fun itv s2 h2=>?_) fun _ _ z=>z) fun _ _ z=>z
 ·unfold dw at p;cases e:fi ρ with
  |ok ds =>
   rw[e]at p;have p2:match EY ((jG h ft fe ds (dZ nt caps ρ)).bind fun ys=>if ys.length<=1000000 then .ok (.lst ys) else .no) with
    | .ok d=>∀(D' C:ab) (H' G':Hp) (s5:ae) (fl:Flow),Ext G H G' H'->Rep X.K G' d (.ref D')->(∃m,s5.heap.Ns C m)->qY X pins H' C->(∀h',eK C s5.heap h'->Inv X pins σ H' { s5 with heap:=h' })->p7 (ar X.prog X.w) X.A X.xe use QQ (.ref D') C (.ok fl) s5
    | .ex c n=>∀H' G',Ext G H G' H'->W c n σ H'
    | .no=>False:=p
   refine fun J H' G' x y=>⟨G',ds,x,y,?_⟩
   cases e:jG h ft fe ds (dZ nt caps ρ) with
   |ok YS =>
    rw[e]at p2;by_cases hl:YS.length<=1000000
    ·simp only[Rs.bind,if_pos hl,EY]at p2;exact⟨YS,rfl,hl,p2⟩
    ·simp only[Rs.bind,if_neg hl,EY]at p2
   |ex c n=>rw[e]at p2;exact p2.elim
   |no=>rw[e]at p2;exact p2.elim
  |ex c n=>rw[e]at p;exact p
  |no=>rw[e]at p;exact p
 obtain⟨it,fp,tn,J,H2,e,I2,T,st2,f2,G2,ds,x2,yl,YS,hYS,hlen,hQ⟩:=h2;subst e;refine eM (wpAny_newFunctionEnv c.Ni (by intro y hy;simp at hy) (fun h₁ hns₁ hsb₁=>?_) c.kind);have hD2:H2 s2.heap.objs.size=none:=I2.fresh;have I3:=I2.anR (ys:=[]) (its:=[]) (t':=s2.toks) .nil (by simp);have sr2:SR X.K B σ H2 ρ G2:=sr.ext x2;have fpl:∀b∈fp,b < s2.heap.objs.size:=fun b hb=>by obtain⟨o,ho,_⟩:=T.obj 0 _ st2 b hb;exact bq ho
 have hk:∀b o,(s2.heap.push { cls:=.type "list",data:=.seq ([]:List aa).toArray }).get? b=some o->h₁.get? b=some o:=fun b o z =>
  (hsb₁.2 b (b_ (bq z))).trans (cb _ z)
 have anY:∀b∈fp,qY X pins (upd H2 s2.heap.objs.size (.lst [])) b/\b < (s2.heap.push { cls:=.type "list",data:=.seq ([]:List aa).toArray }).objs.size:=fun b hb=>by
  obtain⟨g1,g2⟩:=f2 b hb;refine⟨⟨?_,g2⟩,?_⟩
  ·rw[bh (b_ (fpl b hb))];exact g1
  ·rw[n9];exact ki (fpl b hb)
 have IY:=Yc (h':=h₁) (tk:=s2.toks + ([]:List (Str×aa)).length) c I3 anY hns₁ hk;generalize hC:(s2.heap.push { cls:=.type "list",data:=.seq ([]:List aa).toArray }).objs.size=C at *;have srY:=ahN (nt:=nt) (caps:=caps) sr2 hD2;have stk:∀b,b≠X.env.locals->b∉X.fs->b∉qp X.stack:=fun b h1 h2 h3=>(bP.mp (I2.wJ b h3)).elim h1 h2;have hCl:s2.heap.objs.size + 1=C:=by rw[<- hC,n9]
 have stat:∀{H':Hp},(∀b∈fp,H' b=none)->∀b∈fp,qY (kh X N { s2 with heap:=s2.heap.push { cls:=.type "list",data:=.seq ([]:List aa).toArray },toks:=s2.toks } (upd H2 s2.heap.objs.size (.lst [])) sc (gj sc X.env) C fp pins) [] H' b:=fun {H'} hn b hb=>by
  obtain⟨_,g2,g3,g4,g5,g6⟩:=f2 b hb;refine⟨hn b hb,?_,stk b g2 g3,.inl hb,fun x a ha=>g5 x a (c.cl I2 ha),fun p hp=>?_⟩
  ·show b≠C;exact b_ (hCl▸ki (fpl b hb))
  ·rw[hW]at hp;exact g6 p hp
 let Y:=kh X N { s2 with heap:=s2.heap.push { cls:=.type "list",data:=.seq ([]:List aa).toArray },toks:=s2.toks } (upd H2 s2.heap.objs.size (.lst [])) sc (gj sc X.env) C fp pins
 let D':=s2.heap.objs.size
 let Jn:Nat->ae->Prop:=fun n s4=>∃(i:Nat) (ρ':au) (σ':St) (H' G':Hp) (yds:List D) (yvs:List V) (rest:List D),Inv Y [] σ' H' s4/\tn i s4.heap/\(∀b∈fp,H' b=none)/\SR X.K ⟨G2,H2,0⟩ σ' H' ρ' G'/\Tj ρ'/\H' D'=some (.lst yvs)/\G' D'=none /\
  bI X.K G' yds yvs/\i<=ds.length/\n=ds.length - i/\jG h ft fe (ds.drop i) ρ'=.ok rest/\yds++rest=YS
 have loop:∀(n:Nat) (s4:ae),Jn n s4->f7 (ar X.prog X.w) X.A (.compLoop (.ListComp elt [⟨tg,iter,ifs,0⟩] sc pos) 0 (.ref it) (.ref D') Y.env) (p7 (ar X.prog X.w) X.A X.xe use QQ (.ref D') C) s4:=by
  intro n0 s40 h0;refine Nh (J:=Jn) ?_ n0 h0;rintro n s4 ⟨i,ρ',σ',H',G',yds,yvs,rest,I4,KN,fr4,sr4,no4,hD4,hG4,ry4,hi4,rfl,hcd,hY⟩;by_cases hlt:i < ds.length
  ·obtain⟨yes,_⟩:=yl i G' H' sr4.en.gg sr4.wL;obtain⟨go,yields⟩:=yes ds[i] (by simp[hlt]);rw[iP hlt]at hcd;unfold jG at hcd;cases eh:h ds[i] ρ' with
   |none=>rw[eh]at hcd;cases hcd
   |some ρ1 =>
    rw[eh]at hcd;dsimp only at hcd;refine jc (T.item Y rfl rfl rfl hc i [] s4 σ' H' (fun _ _=>False) I4 (stat fr4) KN go) fun r s5 fZ=>?_;obtain⟨u,hr,h5⟩:=fZ;subst hr;refine jc h5 fun _ s6 fZ=>?_;obtain⟨x,H6,I6,r6,y6,st6,fr6⟩:=fZ;obtain⟨G6,e6,aqI⟩:=yields x H6 y6;have sr6:=sr4.ext e6;have I6':=I6.pinned (stat fr6) (T.obj _ _ st6);refine jc (ht _ _ _ _ _ ⟨G2,H2,0⟩ _ s6 σ' H6 x u (fun σ7 H7=>H7=H6/\SR X.K ⟨G2,H2,0⟩ σ7 H6 ρ1 G6) I6' r6 ⟨ρ',G6,ds[i],sr6,aqI,ρ1,eh,fun σ7 z=>⟨rfl,z⟩⟩) fun _ s7 fZ=>?_;obtain⟨σ7,H7,I7,eH7,sr7⟩:=fZ;subst eH7;have no7:=hno _ _ _ no4 eh;have again:∀{σ8:St}{H8:Hp}{s8:ae},Inv Y ([]++zN fp s6.heap) σ8 H8 s8->Inv Y [] σ8 H8 s8/\tn (i + 1) s8.heap/\∀b∈fp,H8 b=none:=fun {σ8 H8 s8} I8=>by refine⟨I8.xR,T.keep _ _ _ st6 fun b hb o e=>(I8.pin (b,o) (eA _ (eA _ (qZ hb e)))).1,fun b hb=>?_⟩;obtain⟨o,e,d⟩:=T.obj _ _ st6 b hb;exact(I8.pin (b,o) (eA _ (eA _ (qZ hb e)))).2.1
    obtain⟨b,hb,hcd⟩:∃b,ft ρ1=.ok b/\(if b=true then (fe ρ1).bind fun y=>(jG h ft fe (ds.drop (i + 1)) ρ1).bind fun ys=>.ok (y::ys) else jG h ft fe (ds.drop (i + 1)) ρ1)=.ok rest:=by
     cases e:ft ρ1 with
     |ok b=>rw[e]at hcd;exact⟨b,rfl,hcd⟩
     |ex c n=>rw[e]at hcd;cases hcd
     |no=>rw[e]at hcd;cases hcd
    have test:ah (ar X.prog X.w) X.A (forIn ifs true fun c r=>if r=true then do let ok <- isTrue c Y.env (a_ c Y.env);pure (ForInStep.yield ok) else pure (ForInStep.yield r)) (TP Y ([]++zN fp s6.heap) σ7 fun b' H8=>b'=b/\∃G8,Ext G6 H7 G8 H8) (fun _ _=>False) s7:=by
     rcases hif with ⟨e1,e2⟩|⟨cc,e1,hst⟩
     ·subst e1 e2;cases hb;exact Nj ⟨H7,I7,rfl,G6,sr7.wL⟩
     ·subst e1;refine wpAny_tests_one (hst _ _ _ _ _ ⟨G2,H2,0⟩ _ s7 σ7 H7 _ I7 ⟨ρ1,G6,sr7,?_⟩);rw[hb];exact fun H8 G8 e8=>⟨rfl,G8,e8⟩
    refine jc test fun ok s8 fZ=>?_;obtain⟨H8,I8,eb,G8,e8⟩:=fZ;subst eb;have sr8:=sr7.ext e8;have hD8:H8 D'=some (.lst yvs):=e8.hh _ _ (e6.hh _ _ hD4);have hG8:G8 D'=none:=e8.nw _ _ (e6.hh _ _ hD4) (e6.nw _ _ hD4 hG4);have ry8:=(ry4.mono e6.gg).mono e8.gg;cases ok with
    |true =>
     rw[if_pos rfl]at hcd ⊢;obtain⟨y,ys,hy,hys,hr⟩:∃y ys,fe ρ1=.ok y/\jG h ft fe (ds.drop (i + 1)) ρ1=.ok ys/\rest=y::ys:=by
      cases e:fe ρ1 with
      |ok y =>
       rw[e]at hcd;have hcd':((jG h ft fe (ds.drop (i + 1)) ρ1).bind fun ys=>Rs.ok (y::ys))=.ok rest:=hcd;cases e3:jG h ft fe (ds.drop (i + 1)) ρ1 with
       |ok ys=>rw[e3]at hcd';cases hcd';exact⟨y,ys,rfl,rfl,rfl⟩
       |ex c n=>rw[e3]at hcd';cases hcd'
       |no=>rw[e3]at hcd';cases hcd'
      |ex c n=>rw[e]at hcd;cases hcd
      |no=>rw[e]at hcd;cases hcd
     subst hr;refine jc (he _ _ _ _ _ ⟨G2,H2,0⟩ _ s8 σ7 H8 (fun v H9=>∃G9,Ext G8 H8 G9 H9/\Rep X.K G9 y v) I8 ⟨ρ1,G8,sr8,?_⟩) fun u9 s9 ⟨v9,H9,I9,r9,G9,e9,aqO⟩=>?_
     ·rw[hy];exact fun v H9 G9 e9 r=>⟨G9,e9,r⟩
     have hD9:=e9.hh _ _ hD8;have hG9:=e9.nw _ _ hD8 hG8;have ryl:=ry8.length;have hYl:yds.length < 1000000:=by have:=congrArg eT hY;rw[dy,cy]at this;lia
     refine jc (abC (X:=Y) _ s9 σ7 H9 (.ref D') [v9] (.ref D') [u9] (fun _ H10=>H10=upd H9 D' (.lst (yvs++[v9]))) I9 rfl (.cons r9 .nil) ⟨D',yvs,v9,rfl,rfl,hD9,by rw[<- ryl];exact et hYl (by rw[d8];decide),rfl⟩) fun _ s10 fZ=>?_;obtain⟨_,H10,I10,_,e10⟩:=fZ;subst e10;obtain⟨J1,J2,J3⟩:=again I10;refine⟨ds.length - (i + 1),by lia,i + 1,ρ1,σ7,_,G9,yds++[y],yvs++[v9],ys,J1,J2,J3,(sr8.ext e9).off no7 hD9 hG9 hD2,no7,bH,hG9,(ry8.mono e9.gg).append (.one aqO),hlt,rfl,hys,by rw[h_];exact hY⟩
    |false =>
     rw[if_neg (by simp)]at hcd ⊢;obtain⟨J1,J2,J3⟩:=again I8;exact⟨ds.length - (i + 1),by lia,i + 1,ρ1,σ7,H8,G8,yds,yvs,rest,J1,J2,J3,sr8,no7,hD8,hG8,ry8,hlt,rfl,hcd,hY⟩
  ·have ei:i=ds.length:=by lia
   subst ei;obtain⟨_,no⟩:=yl ds.length G' H' sr4.en.gg sr4.wL;rw[pV]at hcd;cases hcd;rw[hW]at hY;subst hY;refine jc (T.done Y rfl rfl rfl hc ds.length [] s4 σ' H' (fun _ _=>False) I4 (stat fr4) KN (no (bo _))) fun r s5 fZ=>?_;obtain⟨hr,I5⟩:=fZ;subst hr;obtain⟨m,hm,_⟩:=I5.loc;have ne:∀b o,(s2.heap.push { cls:=.type "list",data:=.seq ([]:List aa).toArray }).get? b=some o->b≠C:=fun b o e z=>by have:=bq e;rw[hC,z]at this;exact gu _ this
   have U:=I5.base;have fC0:H' C=none:=I5.free;have IX:∀h',eK C s5.heap h'->Inv X pins σ H' { s5 with heap:=h' }:=fun h' hs'=>by
    refine I3.call' (ch:=fp) (s':={ s5 with heap:=h' }) I5.os ⟨fun b o e n hb hx=>?_,fun b o e n hb hx=>?_,U.free,fun b o e hx=>?_,U.tups,U.Ef,U.Il⟩ (fun b o e=>?_) I5.bare fun b hb=>?_
    ·exact(hs'.2 b (ne b o e)).trans (U.keep b o e n hb hx)
    ·obtain⟨sl,q⟩:=U.slot b o e n hb hx;exact⟨sl,(hs'.2 b (ne b o e)).trans q⟩
    ·obtain⟨o',q⟩:=U.there b o e hx;exact⟨o',(hs'.2 b (ne b o e)).trans q⟩
    ·have fC:H' C=none:=I5.free;refine(I5.hok b o e).stay (fun c' u' hc' q=>(hs'.2 c' ?_).trans q) (fun _ q=>q) (fun _ _ q=>q) fun _ _ q=>q;rintro rfl;rcases hc' with rfl|hc'
     ·rw[fC]at e;cases e
     ·rw[fC]at hc';cases hc'
    ·obtain⟨_,g2,_,g4,g5,g6⟩:=f2 b hb;exact⟨g4,g2,g5,g6⟩
   refine hQ D' C H' (upd G' D' (.lst yvs)) s5 _ ?_ ?_ ⟨m,hm⟩ (I3.Sd (Nat.le_of_eq hC) fC0) IX
   ·have gg:Same G' (upd G' D' (.lst yvs)):=fun b o z=>by rw[bh (bf z hG4)];exact z
    refine⟨(x2.gg.trans sr4.en.gg).trans gg,x2.hh.trans sr4.en.hh,fun b o z=>?_,fun b xs z=>?_,fun b o z w=>?_⟩
    ·by_cases e:b=D'
     ·subst e;rw[bH]at z;cases z;exact hD4
     ·rw[bh e]at z;exact sr4.en.gh b o z
    ·by_cases e:b=D'
     ·subst e;rw[hD4]at z;cases z
     ·rw[bh e];exact sr4.en.tp b xs z
    ·have z2:=x2.hh b o z;rw[bh (bf z2 hD2)];exact sr4.en.nw b o z2 (x2.nw b o z w)
   ·have gg:Same G' (upd G' D' (.lst yvs)):=fun b o z=>by rw[bh (bf z hG4)];exact z
    exact aY.mpr ⟨D',yvs,rfl,.of bH,ry4.mono gg⟩
 have first:∀tk,Jn ds.length { s2 with heap:=h₁,toks:=tk }:=fun tk=>by have IY':Inv Y [] (uf nt caps σ) (upd H2 s2.heap.objs.size (.lst [])) { s2 with heap:=h₁,toks:=tk }:=IY.tok tk;refine⟨0,dZ nt caps ρ,uf nt caps σ,upd H2 D' (.lst []),G2,[],[],YS,IY',T.keep _ _ _ st2 fun b hb o e=>hk b o (cb _ e),fun b hb=>(anY b hb).1.1,srY,rC,bH,sr2.en.gh.free hD2,bD.mpr rfl,eB _,rfl,by simpa using hYS,rfl⟩
 exact codeAny_compStart_list (loop _ _ (first _)) (T.self _ 0 _ _ _ (T.keep _ _ _ st2 fun b hb o e=>hk b o (cb _ e)) (loop _ _ (first _)))
theorem ahO{elt:ag}{ifs:List ag}{sc:Scope}{pos:Pos}{N:List Str}{nt:Nat}{caps:List Nat}{h:Tg}{ft:au->Rs Bool}{fe:au->Rs D}{fi:au->Rs (List D)}
  (c:wQ X sc N nt caps) (hc:X.calm=true) (hnames:∀y∈sc.names,y.2=.local->sc.names.lookup y.1=some .local) (hi:SI X B W tg iter fi) (hno:rB h)
  (ht:∀s₀ H₀ C ex pins B',SG (kh X N s₀ H₀ sc (gj sc X.env) C ex pins) B' tg h)
  (hif:(ifs=[]/\ft=fun _=>.ok true)∨∃c,ifs=[c]/\∀s₀ H₀ C ex pins B',ST (kh X N s₀ H₀ sc (gj sc X.env) C ex pins) B' WF c ft)
  (he:∀s₀ H₀ C ex pins B',SE (kh X N s₀ H₀ sc (gj sc X.env) C ex pins) B' WF elt fe)
  (hs:∀x,f6 iter X.env x=pure x:=by intro _;rfl) :
  SE X B W (.ListComp elt [⟨tg,iter,ifs,0⟩] sc pos) (dw h ft fe nt caps fi):=by
 intro pins s σ H Q I hw;obtain⟨ρ,G,sr,p⟩:=hw;rw[eval_ListComp];refine KJ c hc hnames hi hno ht hif he hs I sr ?_;cases e:dw h ft fe nt caps fi ρ with
 |ok d =>
  rw[e]at p;intro D' C H' G' s5 fl x r ⟨m,hm⟩ _ IX;exact⟨m,hm,fun h' hs'=>⟨.ref D',H',IX h' hs',rfl,p _ _ _ x r⟩⟩
 |ex c n=>rw[e]at p;exact p
 |no=>rw[e]at p;exact p
theorem Fd{i:Nat}{y:Str}{py spos:Pos}{elt:ag}{ifs:List ag}{sc:Scope}{pos:Pos}{N:List Str}{nt:Nat}{caps:List Nat}{h:Tg}{ft:au->Rs Bool}{fe:au->Rs D}{fi:au->Rs (List D)}
  (hN:X.N.Nodup) (hi':X.N[i]?=some y) (hx:Mu X.env.scope y)
  (c:wQ X sc N nt caps) (hc:X.calm=true) (hnames:∀y∈sc.names,y.2=.local->sc.names.lookup y.1=some .local) (hi:SI X B W tg iter fi) (hno:rB h)
  (ht:∀s₀ H₀ C ex pins B',SG (kh X N s₀ H₀ sc (gj sc X.env) C ex pins) B' tg h)
  (hif:(ifs=[]/\ft=fun _=>.ok true)∨∃c,ifs=[c]/\∀s₀ H₀ C ex pins B',ST (kh X N s₀ H₀ sc (gj sc X.env) C ex pins) B' WF c ft)
  (he:∀s₀ H₀ C ex pins B',SE (kh X N s₀ H₀ sc (gj sc X.env) C ex pins) B' WF elt fe)
  (hs:∀x,f6 iter X.env x=pure x) (hsw:eL (.ListComp elt [⟨tg,iter,ifs,0⟩] sc pos) (some (.Name y py)) spos.line X.env=pure true)
  (hf:X.fn y=true∨X.env.scope.names.lookup y=some .local) :
  SS X B W (.Assign [.Name y py] (.ListComp elt [⟨tg,iter,ifs,0⟩] sc pos) spos) (fun ρ=>oR (dw h ft fe nt caps fi ρ) ρ fun d=>.nx (ρ.set i (.fz d))):=by
 intro pins s σ H De I hw;obtain⟨ρ,G,sr,p⟩:=hw;dsimp only at p;rw[exec_Assign_Name_used _ _ _ _ hsw];refine af (sF (af ?_));show ah _ X.A (do let _ <- comprehension (.ListComp elt [⟨tg,iter,ifs,0⟩] sc pos) sc X.env _ (newList []) _ _ (some (assign (.Name y py) X.env))) _ _ s;refine af (d6 (KJ (QQ:=fun _ s'=>_) c hc hnames hi hno ht hif he hs I sr ?_) (fun _ s' hq=>ax (ax hq)) fun _ _ e=>e);cases e:dw h ft fe nt caps fi ρ with
 |ok d =>
  rw[e]at p;intro D' C H' G' s5 fl x r ⟨m,hm⟩ fp IX;have I5:Inv X pins σ H' s5:=IX s5.heap (eK.refl C s5.heap);refine wpAny_assign_Name (Kl I5 hN hi' hx (show RelV (.ref D') (.ref D') from rfl) (fun s6 I6 ⟨a,hs6,ha⟩=>?_) hf);have hCa:C≠a:=by
   rcases ha with rfl|ha
   ·exact fp.2.1
   ·exact dQ (fp.2.2.2.2.1 _ _ ha)
  refine⟨m,hm.sameBut hs6 hCa,fun h' hs'=>?_⟩;exact⟨_,H',I6.turned (t':=s6.toks) (fun b o hb e=>(hs'.2 b hb).trans e) fp.1 fp.2.1 fp.2.2.2.1 fp.2.2.2.2.1 fp.2.2.2.2.2,p _ _ G' ((sr.ext x).set r) x.gg⟩
 |ex c n=>rw[e]at p;exact fun H' G' x=>p σ H' G' (sr.ext x) x.gg
 |no=>rw[e]at p;exact p
end
section
variable{X:Cx}{K:ai}{B:Bs}{W:Wi}{σ:St}{G H:Hp}{ρ:au}{a b:ag}{pos p:Pos}{fa fb:au->Rs D}
def aoa(K:ai)(n:Nat):R2:=fun x y H Q=>∃d d',Rep K H d x/\Rep K H d' y/\cV d<=n/\cV d'<=n/\Q (.bl (xQ d d')) H
def alp(K:ai)(n:Nat):R2:=fun x y H Q=>∃d d',Rep K H d x/\Rep K H d' y/\cV d<=n/\cV d'<=n/\Q (.bl (!xQ d d')) H
theorem Nk{n:Nat}(hu:X.A.units + n < bu):wg X (fv .Eq) (aoa X.K n):=by intro pins s σ H x y v u Q I rx ry ⟨d,d',r,r',hd,hd',q⟩;exact akZ I hd hd' hu r r' rx ry X.prog X.w X.xe _ ⟨.bl _,H,I,rfl,q⟩
theorem aek{n:Nat}(hu:X.A.units + n < bu):wg X (fv .NotEq) (alp X.K n):=by intro pins s σ H x y v u Q I rx ry ⟨d,d',r,r',hd,hd',q⟩;exact adQ I hd hd' hu r r' rx ry X.prog X.w X.xe _ ⟨.bl _,H,I,rfl,q⟩
def RM:D->D->Rs D:=fun x y=>if cV x<=8/\cV y<=8 then .ok (.bl (xQ x y)) else .no
def Tn:D->D->Rs D:=fun x y=>if cV x<=8/\cV y<=8 then .ok (.bl (!xQ x y)) else .no
theorem Nm:Sy K (aoa K 8) RM:=by
 intro B W σ ρ G H x y v u Q s rx ry p;unfold RM at p;by_cases h:cV x<=8/\cV y<=8
 ·rw[if_pos h]at p;exact⟨x,y,rx.mono s.en.gh,ry.mono s.en.gh,h.1,h.2,Post.ok s p (bL.mpr rfl)⟩
 ·rw[if_neg h]at p;exact p.elim
theorem alq:Sy K (alp K 8) Tn:=by
 intro B W σ ρ G H x y v u Q s rx ry p;unfold Tn at p;by_cases h:cV x<=8/\cV y<=8
 ·rw[if_pos h]at p;exact⟨x,y,rx.mono s.en.gh,ry.mono s.en.gh,h.1,h.2,Post.ok s p (bL.mpr rfl)⟩
 ·rw[if_neg h]at p;exact p.elim
theorem dO{k:Nat}(hr:lK k X.A):X.A.units + 8 < bu:=by have:=hr.un;lia
theorem aob(hu:X.A.units + 8 < bu)(ha:SE X B W a fa)(hb:SE X B W b fb):SE X B W (.Compare a [.Eq] [b] pos) (bW RM fa fb):=Yb (Nk hu) Nm ha hb (rm _)
theorem ael(hu:X.A.units + 8 < bu)(ha:SE X B W a fa)(hb:SE X B W b fb):ST X B W (.Compare a [.Eq] [b] pos) (fT (bW RM fa fb)):=MN (Nk hu) Nm ha hb (rm _)
theorem aaw(hu:X.A.units + 8 < bu)(ha:SE X B W a fa)(hb:SE X B W b fb):ST X B W (.Compare a [.NotEq] [b] pos) (fT (bW Tn fa fb)):=MN (aek hu) alq ha hb (rm _)
def gLt:=gI0 fun i j=>D.bl (decide (i < j))
def gLe:=gI0 fun i j=>D.bl (decide (i<=j))
def gGt:=gI0 fun i j=>D.bl (decide (j < i))
def gGe:=gI0 fun i j=>D.bl (decide (j<=i))
theorem aod(ha:SE X B W a fa)(hb:SE X B W b fb):SE X B W (.Compare a [.Lt] [b] pos) (bW gLt fa fb):=Yb anF (Eo fun _ _ _=>bL.mpr rfl) ha hb (rm _)
theorem ajS(ha:SE X B W a fa)(hb:SE X B W b fb):ST X B W (.Compare a [.GtE] [b] pos) (fT (bW gGe fa fb)):=MN anH (Eo fun _ _ _=>bL.mpr rfl) ha hb (rm _)
inductive Ty where
 |int|bool|str|tuple|list|dict
def Ty.nm:Ty->String
 | .int=>"int"|.bool=>"bool"|.str=>"str"|.tuple=>"tuple"|.list=>"list"|.dict=>"dict"
def isD:D->Ty->Bool
 | .int _,.int=>true
 | .bl _,.bool=>true
 | .bl _,.int=>true
 | .str _,.str=>true
 | .tup _,.tuple=>true
 | .lst _,.list=>true
 |_,_=>false
def tyD:D->String
 | .non=>"NoneType"|.bl _=>"bool"|.int _=>"int"|.str _=>"str"|.tup _=>"tuple"|.lst _=>"list"|.nU _ _=>""|.jW _ _=>""
def isX:D->Bool
 | .nU _ _=>true
 | .jW _ _=>true
 |_=>false
theorem aof(d:D)(t:Ty)(hx:isX d=false):PySem.W.kitOne K (.type (tyD d)) (.type t.nm)=some (isD d t):=by
 cases d <;> first|(cases hx;done)|(cases t <;> kernel_rfl)
theorem alr{pins:List (ab×Obj)}{s:ae}{A:aS}{E Q:aa->ae->Prop}{d:D}{v:V}{u:aa}{t:Ty}(I:Inv X pins σ H s)(hx:isX d=false)(r:Rep X.K H d v)(rv:RelV v u)(h:∀tk,Q (.bool (isD d t)) { s with toks:=tk }) :
  ah (ar X.prog X.w) A (call (.builtin "isinstance") [u,.type t.nm]) Q E s:=by
 have e:=aof (K:=X.K) d t hx;cases d with
 |non=>rw[bT.mp r]at rv;cases rv;exact mv PySem.W.kitx_none I.Xq True.intro e (fun z=>nomatch z) h
 |bl y=>rw[bL.mp r]at rv;cases rv;exact mv PySem.W.kitx_bool I.Xq True.intro e (fun z=>nomatch z) h
 |int i=>rw[aM.mp r]at rv;obtain⟨t,rfl⟩:=rv;exact mv PySem.W.kitx_int I.Xq True.intro e (fun z=>nomatch z) h
 |str i=>rw[bY.mp r]at rv;obtain⟨t,rfl⟩:=rv;exact mv PySem.W.kitx_str I.Xq True.intro e (fun z=>nomatch z) h
 |tup ds =>
  obtain⟨a,vs,rfl,q,_⟩:=bA.mp r;cases rv;obtain⟨_,_,⟨o,h1,h2,_⟩,_⟩:=I.tuple q;exact mv PySem.W.kitx_tuple I.Xq ⟨o,h1,h2⟩ e (fun z=>nomatch z) h
 |lst ds =>
  obtain⟨a,vs,rfl,q,_⟩:=aY.mp r;cases rv;obtain⟨_,_,⟨o,n,h1,h2,_⟩,_⟩:=I.list q;exact mv PySem.W.kitx_list I.Xq ⟨o,h1,h2⟩ e (fun z=>nomatch z) h
 |nU c n=>cases hx
 |jW c n=>cases hx
def aqQ(K:ai)(t:Ty):List V->Hp->VK->Prop:=fun xs H Q=>∃v d,xs=[v,.ty t.nm]/\isX d=false/\Rep K H d v/\Q (.bl (isD d t)) H
theorem aem{t:Ty}:iR X (.builtin "isinstance") (aqQ X.K t):=by
 intro pins s σ H xs us Q I r ⟨v,d,e,hx,rd,q⟩;subst e;cases r with
 |cons r1 r2 =>
  cases r2 with
  |cons r3 r4 =>
   cases r4;cases r3;exact alr I hx rd r1 fun tk=>⟨.bl _,H,I.tok tk,rfl,q⟩
def gIs(t:Ty):D->Rs D:=fun d=>if isX d=false then .ok (.bl (isD d t)) else .no
theorem aog{t:Ty}{x:Str}{e:ag}{p1 p2:Pos}{f:au->Rs D}(hm:X.mg "isinstance"=none) (hmt:X.mg x=none) (he:SE X B W e f) (hv:hG x=some (.type t.nm)) (hg:Gl X "isinstance":=by rfl) (hgx:Gl X x:=by rfl)
  (hst:ba [e,.Name x p2] X.env=[(false,a_ e X.env),(false,a_ (.Name x p2) X.env)]:=by rfl) (hst2:ba [.Name x p2] X.env=[(false,a_ (.Name x p2) X.env)]:=by rfl) (hn:x≠"__name__":=by decide) (hd:(x == ("__debug__":Str))=false:=by decide) :
  SE X B W (.Call (.Name "isinstance" p1) [e,.Name x p2] [] pos) (fun ρ=>(f ρ).bind (gIs t)):=by
 refine PE.imp (qu (aem (t:=t)) hg hm PyProof.Rows.boot_isinstance (dY he (dY (ahq (v:=.ty t.nm) hgx hmt hv rfl hn hd) jr (by rw[hst2];rfl)) (by rw[hst,hst2])) (by decide) (by decide) (by rw[hst,hst2]) (by rw[hst2];rfl)) fun σ H Q h=>?_;obtain⟨ρ,G,s,p⟩:=vB (k:=fun _=>gIs t) h;refine⟨ρ,G,s,p.mono fun v H1 ⟨ρ1,G1,d,s1,r,q⟩=>?_⟩;unfold gIs at q;by_cases hx:isX d=false
 ·rw[if_pos hx]at q;exact⟨v,d,rfl,hx,r.mono s1.en.gh,Post.ok s1 q (bL.mpr rfl)⟩
 ·rw[if_neg hx]at q;exact q.elim
def Fe:List D->Option (List Bool)
 | []=>some []
 | .bl b::ds=>(Fe ds).map (b::·)
 |_=>none
theorem Fg:∀{ds:List D}{vs:List V}{bs:List Bool},bI K G ds vs->Fe ds=some bs->vs=bs.map V.bl
 | [],_,bs,r,e=>by cases e;rw[bD.mp r];rfl
 | .bl b::ds,_,bs,r,e=>by
  obtain⟨v,vs',rfl,r1,r2⟩:=aQ.mp r;simp only[Fe]at e;cases e1:Fe ds with
  |none=>rw[e1]at e;cases e
  |some cs=>rw[e1]at e;cases e;rw[bL.mp r1,Fg r2 e1];rfl
 | .non::_,_,_,_,e=>by cases e
 | .int _::_,_,_,_,e=>by cases e
 | .str _::_,_,_,_,e=>by cases e
 | .tup _::_,_,_,_,e=>by cases e
 | .lst _::_,_,_,_,e=>by cases e
 | .nU _ _::_,_,_,_,e=>by cases e
 | .jW _ _::_,_,_,_,e=>by cases e
theorem Fi:∀{bs:List Bool}{us:List aa},Vals (bs.map V.bl) us->us=bs.map aa.bool
 | [],_,.nil=>rfl
 |b::bs,_,.cons r t=>by rw[Fi t];cases r;rfl
theorem abI(bs:List Bool):(bE bs.length).all (fun i=>bs.getD i false)=bs.all id:=by
 induction bs with
 |nil=>rfl
 |cons b bs ih =>
  rw[cy,mh,td,tf,td,<- ih];simp[pS]
theorem Tp{prog:aE}{w:az}{A:aS}(bs:List Bool):TruthOf prog w A (fun i v=>(bs.map aa.bool).toArray[i]?=some v) fun i=>bs.getD i false:=by
 intro i v s Q E hP hQ;have hP':(bs.map aa.bool)[i]?=some v:=by simpa using hP
 rw[cw]at hP';cases e:bs[i]? with
 |none=>rw[e]at hP';cases hP'
 |some b =>
  rw[e]at hP';cases hP';dsimp only at hQ;rw[e_,e]at hQ;exact ls hQ
theorem abJ(hc:X.calm=true):iR X (.builtin "all") (fun xs H Q=>∃(p:ab) (bs:List Bool),xs=[.ref p]/\tL X.K H p (bs.map V.bl)/\Q (.bl (bs.all id)) H):=by
 intro pins s σ H xs us Q I r ⟨p,bs,e,q,k⟩;subst e;obtain⟨u,rfl,rx⟩:=r.one;cases rx;obtain⟨its,rv,pl,_⟩:=I.list q;have ei:=Fi rv;subst ei;refine call_all_walk (o_ pl.isList ?_);refine⟨_,_,_,_,_,_,fun i=>bs.getD i false,rfl,n_ (by show X.A.handled=none;exact I.ok.hd hc) _ p (b_ (by obtain⟨o,_,e,_⟩:=pl;exact bq e)) (bs.map aa.bool).toArray,⟨⟨_,cS _ rfl,rfl,rfl⟩,pl.isList.push _⟩,Tp bs,fun h' tk hk=>?_⟩;have e:(bE (bs.map aa.bool).toArray.size).all (fun i=>bs.getD i false)=bs.all id:=by rw[cK,cf];exact abI bs
 rw[e];refine⟨.bl _,H,I.kept (t':=tk) (h':=h') fun b o z=>hk b o ?_ (cb _ z),rfl,k⟩;intro hb;have:b=s.heap.objs.size:=by simpa using hb
 rw[this]at z;exact absurd (bq z) (gu _)
def Tq:List D->Rs D
 | [.lst ds]=>match Fe ds with|some bs=>.ok (.bl (bs.all id))|none=>.no
 |_=>.no
theorem als:sZ K (fun xs H Q=>∃(p:ab) (bs:List Bool),xs=[.ref p]/\tL K H p (bs.map V.bl)/\Q (.bl (bs.all id)) H) Tq:=by
 intro B W σ ρ G H ds vs Q s r p;unfold Tq at p;split at p
 ·rename_i es;split at p
  ·rename_i bs e;obtain⟨v,vs',rfl,r1,r2⟩:=aQ.mp r;obtain⟨a,us,rfl,q,rr⟩:=aY.mp r1;rw[bD.mp r2];have e2:=Fg rr e;subst e2;exact⟨a,bs,rfl,s.en.gh.seq q,Post.ok s p (bL.mpr rfl)⟩
  ·exact p.elim
 ·exact p.elim
end
theorem Inv.moved{X:Cx}{pins:List (ab×Obj)}{σ:St}{H:Hp}{s:ae}{h':Heap}{t':Nat}(I:Inv X pins σ H s)(ch:List ab)
  (hch:∀b∈ch,X.s₀.heap.get? b=none/\b≠X.env.locals/\(∀x c,X.env.cells.lookup x=some c->c≠b)/\(∀p∈X.pn++pins,p.1≠b)/\H b=none)
  (keep:∀b o,b∉qp X.stack->b∉ch->s.heap.get? b=some o->h'.get? b=some o)
  (slot:∀b o,b∈qp X.stack->s.heap.get? b=some o->∃sl,h'.get? b=some { o with slots:=sl }):Inv X pins σ H { s with heap:=h',toks:=t' }:=by
 have sub:=I.wJ;have sup:∀b∈X.fs,b∈qp X.stack:=fun b hb=>by
  rcases I.ok.stk with e|⟨e,hf⟩
  ·rw[e];exact hb
  ·rw[e];unfold qp;rw[ll,hf];exact dS _ hb
 have neL:∀b o,X.s₀.heap.get? b=some o->b≠X.env.locals:=fun b o e=>b_ (et (bq e) I.ok.above);have nch:∀b o,X.s₀.heap.get? b=some o->b∉ch:=fun b o e z=>by rw[(hch b z).1]at e;cases e
 have any:∀b o,b∉ch->s.heap.get? b=some o->∃sl,h'.get? b=some { o with slots:=sl }:=fun b o hc e=>by
  by_cases hb:b∈qp X.stack
  ·exact slot b o hb e
  ·exact⟨o.slots,keep b o hb hc e⟩
 have lch:X.env.locals∉ch:=fun z=>(hch _ z).2.1 rfl;have cch:∀x c,X.env.cells.lookup x=some c->c∉ch:=fun x c e z=>(hch c z).2.2.1 x c e rfl;have cellK:∀x c v,X.env.cells.lookup x=some c->s.heap.IsCell c v->h'.IsCell c v:=fun x c v e ⟨o,ho,hd⟩=>by obtain⟨sl,q⟩:=any c o (cch x c e) ho;exact⟨_,q,hd⟩
 refine⟨I.ok,I.os,I.bare,⟨fun b o e n hb hx=>?_,fun b o e n hb hx=>?_,I.base.free,fun b o e hx=>?_,I.base.tups,I.base.Ef,I.base.Il⟩,?_,fun x c e=>?_,I.free,I.sW,fun p hp=>?_,fun b o e=>?_,I.len⟩
 ·exact keep b o (fun z=>(bP.mp (sub b z)).elim (neL b o e) hb) (nch b o e) (I.base.keep b o e n hb hx)
 ·obtain⟨sl,q⟩:=I.base.slot b o e n hb hx;obtain⟨sl',q'⟩:=slot b _ (sup b hb) q;exact⟨sl',q'⟩
 ·obtain⟨o',q⟩:=I.base.there b o e hx;obtain⟨sl,q'⟩:=any b o' (nch b o e) q;exact⟨_,q'⟩
 ·obtain⟨m,⟨o,es,ep,ho,r⟩,hl⟩:=I.loc;obtain⟨sl,q⟩:=any _ o lch ho;refine⟨m,⟨_,es,ep,q,r⟩,fun i x v h1 h2 h3=>?_⟩;obtain⟨u,ru,l⟩:=hl i x v h1 h2 h3;refine⟨u,ru,?_⟩;rcases l with l|⟨k,c,e,z⟩
  ·exact .inl l
  ·exact .inr ⟨k,c,e,cellK x c _ e z⟩
 ·obtain⟨v,z⟩:=I.cell x c e;exact⟨v,cellK x c v e z⟩
 ·obtain⟨e,n,ne,nf,d⟩:=I.pin p hp;exact⟨keep _ _ (fun z=>(bP.mp (sub _ z)).elim ne nf) (fun z=>(hch _ z).2.2.2.1 p hp rfl) e,n,ne,nf,d⟩
 ·have tr:∀c u,H c=some u->c∉qp X.stack/\c∉ch:=fun c u z=>⟨fun w=>(by rw[I.Ds c w]at z;cases z),fun w=>(by rw[(hch c w).2.2.2.2]at z;cases z)⟩
  refine(I.hok b o e).stay (fun c u hc q=>?_) (fun _ q=>q) (fun _ _ q=>q) fun _ _ q=>q;rcases hc with hc|hc
  ·subst hc;exact keep c u (tr c _ e).1 (tr c _ e).2 q
  ·exact keep c u (tr c _ hc).1 (tr c _ hc).2 q
def Tr(h:Heap)(H:Hp)(old:Heap)(av:List ab)(ea:ab)(vs:Array aa):Prop:=∃T oT ts,vs[1]?=some (.ref T)/\T≠ea/\h.get? T=some oT/\oT.data=.fields ts/\ts[3]?=some .none/\H T=none/\old.get? T=none/\T∉av
def Fly(K:ai)(old:Heap)(av:List ab)(ea:ab)(c:Str)(n:Int)(h:Heap)(H:Hp)(tr:Bool):Prop :=
 ∃C oe vs a0,pM K b0 c=some (some (.ref C))/\h.get? ea=some oe/\oe.cls=.ref C/\oe.data=.fields vs/\vs[0]?=some a0/\H ea=none/\old.get? ea=none/\ea∉av/\n=0 /\
  (if tr=true then Tr h H old av ea vs else vs[1]?=some .none)
def Ii(P:aE)(w:az)(K:ai):CXT:=fun outer H s E e s'=>∃ea c n H',e=.ref ea/\s'.os=s.os/\p8 s'.gens/\Un (qp outer) [] H H' s.heap s'.heap/\zK P w H' s'.heap/\Fly K s.heap [] ea c n s'.heap H' true/\E (Dv c n) none H'
def ajT(X:Cx)(W:Wi):Prop:=∀pins σ H s ea c n tr,Inv X pins σ H s->Fly X.K X.s₀.heap ((X.pn++pins).map (·.1)) ea c n s.heap H tr->W c n σ H->X.xe (.ref ea) s
section
variable{X:Cx}{pins:List (ab×Obj)}{σ:St}{H:Hp}{s:ae}{ea:ab}{c:Str}{n:Int}{tr:Bool}
theorem alu(I:Inv X pins σ H s){b:ab}{o:Obj}{vs:Array aa}(e:s.heap.get? b=some o)(d:o.data=.fields vs)(hold:X.s₀.heap.get? b=none)(hn:H b=none)(hp:∀p∈X.pn++pins,p.1≠b) :
  X.s₀.heap.get? b=none/\b≠X.env.locals/\(∀x c,X.env.cells.lookup x=some c->c≠b)/\(∀p∈X.pn++pins,p.1≠b)/\H b=none:=by
 refine⟨hold,fun z=>?_,fun x c hc z=>?_,hp,hn⟩
 ·obtain⟨m,⟨o',es,ep,ho,hd,_⟩,_⟩:=I.loc;rw[<- z,e]at ho;cases ho;rw[d]at hd;cases hd
 ·obtain⟨v,o',ho,hd⟩:=I.cell x c hc;rw[z,e]at ho;cases ho;rw[d]at hd;cases hd
theorem Yd{P:aE}{w:az}{H:Hp}{h:Heap}{a:ab}{o:HO}(x:fY P w H h a o):∃u,h.get? a=some u:=by
 induction o with
 |lst xs=>obtain⟨z,its,n,r,e⟩:=x;exact⟨_,e⟩
 |tup xs=>obtain⟨z,its,r,ob,e,c⟩:=x;exact⟨_,e⟩
 |dK kvs=>obtain⟨z,y,vs,r,ob,es,ep,e,c⟩:=x;exact⟨_,e⟩
 |dT kvs=>obtain⟨z,y,xs,r,ob,es,ep,e,c⟩:=x;exact⟨_,e⟩
 |set S n=>obtain⟨ob,es,ep,t,e,c⟩:=x;exact⟨_,e⟩
 |ins C dx fs=>obtain⟨d,z,ne,e,_⟩:=x;exact⟨_,e⟩
 |own y=>obtain⟨ob,e⟩:=x;exact⟨_,e⟩
 |xd fs=>obtain⟨mA,⟨od,es,ep,e,c⟩,r⟩:=x;exact⟨_,e⟩
 |rng lo hi=>obtain⟨t,u,v,e⟩:=x;exact⟨_,e⟩
 |Ik ob u ih=>obtain⟨e,q⟩:=x;exact⟨_,e⟩
 |tbl ps=>exact⟨_,(show h.get? a=some { cls:=.none,data:=.fields ps } from x)⟩
 |tab q=>obtain⟨_,e,_⟩:=x;exact⟨_,e⟩
 |RK q=>obtain⟨_,_,_,e,_⟩:=x;exact⟨_,e⟩
 |met f y=>exact⟨_,(show h.get? a=some (o8 (.ref f) (.ref y)) from x)⟩
 |ext φ=>obtain⟨p,⟨o,e⟩,st⟩:=x;exact⟨_,e⟩
theorem abK(I:Inv X pins σ H s){ch:List ab}{h':Heap}{t':Nat}(hch:∀b∈ch,∃o vs,s.heap.get? b=some o/\o.data=.fields vs/\X.s₀.heap.get? b=none/\H b=none/\b∉(X.pn++pins).map (·.1))
  (st:(j6 s.heap (qp X.stack++ch)).StaysIn h') (up:s.heap.UpToSlots h'):Inv X pins σ H { s with heap:=h',toks:=t' }:=by
 refine Inv.moved I ch (fun b hb=>?_) (fun b o h1 h2 e=>st b o (sC _ e (by rw[du];exact fun z=>z.elim h1 h2))) (fun b o hb e=>?_)
 ·obtain⟨o,vs,e,d,h1,h2,h3⟩:=hch b hb;exact alu I e d h1 h2 fun p hp z=>h3 (c8.mpr ⟨p,hp,z⟩)
 ·obtain⟨_,o',ho,hnf⟩:=I.stack.mem hb;rw[e]at ho;cases ho;exact up b o e hnf
theorem ahP(I:Inv X pins σ H s)(hex:X.ex=[]){ch:List ab}{h':Heap}{T:ab}{oT:Obj}{ts:Array aa}(hch:∀b∈ch,∃o vs,s.heap.get? b=some o/\o.data=.fields vs/\X.s₀.heap.get? b=none/\H b=none/\b∉(X.pn++pins).map (·.1))
  (up:s.heap.UpToSlots h') (hT:h'.get? T=some oT) (dT:oT.data=.fields ts) (hn:(j6 s.heap (qp X.stack++ch)).get? T=none) :
  H T=none/\X.s₀.heap.get? T=none/\T∉(X.pn++pins).map (·.1):=by
 by_cases hc:T∈ch
 ·obtain⟨o,vs,e,d,h1,h2,h3⟩:=hch T hc;exact⟨h2,h1,h3⟩
 have hf:T∉qp X.stack:=fun z=>by obtain⟨_,o',ho,hnf⟩:=I.stack.mem z;obtain⟨sl,q⟩:=up T o' ho hnf;rw[hT]at q;cases q;exact hnf ts dT
 have hs:s.heap.get? T=none:=by
  cases e:s.heap.get? T with
  |none=>rfl
  |some o=>rw[sC _ e (by rw[du];exact fun z=>z.elim hf hc)]at hn;cases hn
 refine⟨?_,?_,fun z=>?_⟩
 ·cases e:H T with
  |none=>rfl
  |some u =>
   obtain⟨o,z⟩:=Yd (I.hok T u e);rw[hs]at z;cases z
 ·cases e:X.s₀.heap.get? T with
  |none=>rfl
  |some o =>
   obtain⟨o',q⟩:=I.base.there T o e (by rw[hex];simp);rw[hs]at q;cases q
 ·obtain⟨p,hp,e⟩:=c8.mp z;have:=(I.pin p hp).1;rw[e,hs]at this;cases this
end
section
variable{X:Cx}{pins:List (ab×Obj)}{σ:St}{H:Hp}{s:ae}{ea:ab}{c:Str}{n:Int}{tr:Bool}
theorem alv(I:Inv X pins σ H s)(F:Fly X.K X.s₀.heap ((X.pn++pins).map (·.1)) ea c n s.heap H tr) :
  ∃ch:List ab,ea∈ch/\(∀b∈ch,∃o vs,s.heap.get? b=some o/\o.data=.fields vs/\X.s₀.heap.get? b=none/\H b=none/\b∉(X.pn++pins).map (·.1)) /\
   ∃C oe vs a0,pM X.K b0 c=some (some (.ref C))/\s.heap.get? ea=some oe/\oe.cls=.ref C/\oe.data=.fields vs/\vs[0]?=some a0/\n=0/\X.s₀.heap.get? ea=none/\H ea=none/\ea∉(X.pn++pins).map (·.1) /\
    (if tr=true then ∃T oT ts,vs[1]?=some (.ref T)/\T∈ch/\T≠ea/\s.heap.get? T=some oT/\oT.data=.fields ts/\ts[3]?=some .none else vs[1]?=some .none):=by
 obtain⟨C,oe,vs,a0,h1,h2,h3,h4,h5,h6,h7,h8,h9,h10⟩:=F;cases tr with
 |false =>
  refine⟨[ea],by simp,fun b hb=>?_,C,oe,vs,a0,h1,h2,h3,h4,h5,h9,h7,h6,h8,h10⟩;obtain rfl:b=ea:=by simpa using hb
  exact⟨oe,vs,h2,h4,h7,h6,h8⟩
 |true =>
  rw[if_pos rfl]at h10;obtain⟨T,oT,ts,t1,t2,t3,t4,t5,t6,t7,t8⟩:=h10;refine⟨[ea,T],by simp,fun b hb=>?_,C,oe,vs,a0,h1,h2,h3,h4,h5,h9,h7,h6,h8,?_⟩
  ·rcases bP.mp hb with rfl|hb
   ·exact⟨oe,vs,h2,h4,h7,h6,h8⟩
   ·obtain rfl:b=T:=by simpa using hb
    exact⟨oT,ts,t3,t4,t7,t6,t8⟩
  ·rw[if_pos rfl];exact⟨T,oT,ts,t1,by simp,t2,t3,t4,t5⟩
theorem ahQ{M:Model}{Q:Unit->ae->Prop}{E:aa->ae->Prop}{outer:List Env}{L:ab}(hst:X.stack=X.env::outer)(hf:X.env.frame=some L)(hex:X.ex=[])(I:Inv X pins σ H s)(F:Fly X.K X.s₀.heap ((X.pn++pins).map (·.1)) ea c n s.heap H tr)
  (hQ:∀h',Inv X pins σ H { s with heap:=h' }->Fly X.K X.s₀.heap ((X.pn++pins).map (·.1)) ea c n h' H true->Q () { s with heap:=h' }):ah M X.A (leaving X.env (.ref ea)) Q E s:=by
 obtain⟨ch,he,hch,C,oe,vs,a0,h1,h2,h3,h4,h5,h9,h7,h6,h8,h10⟩:=alv I F;have hfr:X.A.frames=some (X.env::outer):=by rw[<- hst];exact I.ok.frames
 have hl:s.heap.FunFrames (j6 s.heap (qp X.stack++ch)) (X.env::outer):=by have:=PySem.W.funFrames_hide (as:=qp X.stack++ch) I.stack fun env he b hb=>j7 _ (ja.mpr ⟨env,he,hb⟩);rw[hst]at this ⊢;exact this
 have hkb:(j6 s.heap (qp X.stack++ch)).StaysIn s.heap:=fun b o e=>PySem.W.of_hideAll _ e;have hn:∀b∈ch,(j6 s.heap (qp X.stack++ch)).get? b=none:=fun b hb=>PySem.W.hideAll_none _ (eA _ hb);have gB:∀h',(j6 s.heap (qp X.stack++ch)).StaysIn h'->h'.TracedW (j6 s.heap (qp X.stack++ch)) ea oe.cls a0->s.heap.UpToSlots h'->Q () { s with heap:=h' }:=fun h' k1 k2 k3=>by have I':=abK (t':=s.toks) I hch k1 k3;obtain⟨oe',vs',T,oT,ts,e1,⟨e2,e3⟩,e4,e5,e6,e7,e8,e9,e10⟩:=k2;obtain⟨n1,n2,n3⟩:=ahP I hex hch k3 e8 e9 e6;refine hQ h' I' ⟨C,oe',vs',a0,h1,e1,e2.trans h3,e4,e3,h6,h7,h8,h9,?_⟩;rw[if_pos rfl];exact⟨T,oT,ts,e5,e7,e8,e9,e10,n1,n2,n3⟩
 cases tr with
 |false =>
  rw[if_neg (by decide)]at h10;exact wpAny_leaving_firstW hfr hl hf h2 hkb (hn _ he) h4 h10 h5 fun h' ⟨k1,_,k2,k3⟩=>gB h' k1 k2 k3
 |true =>
  rw[if_pos rfl]at h10;obtain⟨T,oT,ts,t1,t0,t2,t3,t4,t5⟩:=h10;exact wpAny_leaves_onW hfr hf ⟨hkb,hn _ he,hl,oe,vs,T,oT,ts,h2,⟨rfl,h5⟩,h4,t1,hn _ t0,t2,t3,t4,t5⟩ fun h' ⟨k1,_,_,k2⟩ k3=>gB h' k1 k2 k3
end
section
variable{P:aE}{w:az}{K:ai}{mg:Str->Option aa}{base:Heap}{x qual:Str}{st:bj}{f:ab}{fd:ck}{N ps:List Str}{k:Nat}
theorem qx{scope:Scope}{cdv:aa}{A:aS}{outer:List Env}{s:ae}{H:Hp}{E:XK}:ajT (tU (Ii P w K) P w K mg base N qual scope f cdv A outer s H E) (fun c n _ H'=>E (Dv c n) none H'):=by intro pins σ H1 s1 ea c n tr I F w1;refine ahQ (L:=s.heap.objs.size) (outer:=outer) rfl rfl rfl I F fun h' I' F'=>?_;obtain⟨C,oe,vs,a0,h1,h2,h3,h4,h5,h6,h7,h8,h9,h10⟩:=F';refine⟨ea,c,n,H1,rfl,I'.os,I'.bare,I'.base,I'.hok,⟨C,oe,vs,a0,h1,h2,h3,h4,h5,h6,h7,by simp,h9,?_⟩,w1⟩;rw[if_pos rfl]at h10 ⊢;obtain⟨T,oT,ts,t1,t2,t3,t4,t5,t6,t7,t8⟩:=h10;exact⟨T,oT,ts,t1,t2,t3,t4,t5,t6,t7,by simp⟩
end
theorem ahR{a b:Int}(h:zig a=zig b):a=b:=by unfold zig at h;split at h <;> split at h <;> lia
theorem ahS{c c':Str}{n n':Int}(h:Dv c n=Dv c' n'):c=c'/\n=n':=by unfold Dv at h;injection h with h1 h2;exact⟨h1,ahR h2⟩
def yq(X:Cx)(W:Wi):Prop:=∀(pins:List (ab×Obj)) (σ:St) (H:Hp) (s:ae) (e:aa) (s':ae),Inv X pins σ H s ->
 Ii X.prog X.w X.K X.stack H s (fun v _ H'=>∃c n,v=Dv c n/\W c n σ H') e s'->X.xe e s'
theorem cX{X:Cx}:yq X WF:=fun pins σ H s e s' I ⟨ea,c,n,H',_,_,_,_,_,_,_,_,_,w⟩=>w.elim
theorem ug{X:Cx}{W:Wi}(hp:ajT X W)(hex:X.ex=[]):yq X W:=by
 intro pins σ H s e s' I ⟨ea,c,n,H',e1,os,bare,un,hok,F,c0,n0,e2,w⟩;subst e1;obtain⟨rfl,rfl⟩:=ahS e2;have I':Inv X pins σ H' s':=I.call' (ch:=[]) os un hok bare (fun b z=>absurd z (by simp));obtain⟨C,oe,vs,a0,h1,h2,h3,h4,h5,h6,h7,h8,h9,h10⟩:=F;have old:∀b,s.heap.get? b=none->X.s₀.heap.get? b=none:=fun b hb=>by
  cases q:X.s₀.heap.get? b with
  |none=>rfl
  |some o =>
   obtain⟨o',z⟩:=I.base.there b o q (by rw[hex];simp);rw[hb]at z;cases z
 have aoi:∀b,s.heap.get? b=none->b∉(X.pn++pins).map (·.1):=fun b hb z=>by obtain⟨p,hp,e⟩:=c8.mp z;have:=(I.pin p hp).1;rw[e,hb]at this;cases this
 refine hp pins σ H' s' ea c n true I' ⟨C,oe,vs,a0,h1,h2,h3,h4,h5,h6,old _ h7,aoi _ h7,h9,?_⟩ w;rw[if_pos rfl]at h10 ⊢;obtain⟨T,oT,ts,t1,t2,t3,t4,t5,t6,t7,t8⟩:=h10;exact⟨T,oT,ts,t1,t2,t3,t4,t5,t6,old _ t7,aoi _ t7⟩
section
variable{P:aE}{w:az}{K:ai}{mg:Str->Option aa}{base:Heap}{x qual:Str}{st:bj}{f:ab}{fd:ck}{N ps:List Str}{k:Nat}
theorem aoj{g:au->Ou}(F:vW K x qual st f fd)(S:bQ N ps (aD st))
  (hb:∀(cdv:aa) (A:aS) (outer:List Env) (s:ae) (H:Hp) (E:XK) (B:Bs),lK k (A.deeper (mw qual (aD st) s.heap.objs.size f cdv)) ->
   wk (tU (Ii P w K) P w K mg base N qual (aD st) f cdv A outer s H E) B (fun c n _ H'=>E (Dv c n) none H') (bF st) g) :
  Im P w K mg base (Ii P w K) (k + 1) f fd ps (spV K ps.length fun ds=>gB (g (bG N ds))):=by
 obtain⟨oc,od,kV,doc,pm,an,cdv,ct,osl,rfl,lk,hcd⟩:=F.ex;refine aaj lk hcd S (fun vs H Q E h=>h.1) fun A outer s H vs Q E hr h=>?_;obtain⟨_,G,ds,e,r,h⟩:=h;dsimp only at h;exact⟨_,hb cdv A outer s H E ⟨G,H,0⟩ hr,bG N ds,G,Fb e r,Ti (B:=⟨G,H,0⟩) h⟩
end
def bC(n:Nat)(g:List D->Rs D):List D->Rs D:=fun ds=>if ds.length=n then g ds else .no
section
variable{X:Cx}{B:Bs}{W:Wi}
theorem ahT{x:Str}{p pos:Pos}{e:ag}{es:List ag}{fs:au->Rs (List D)}{f:ab}{fd:ck}{ps:List Str}{k n:Nat}{g:List D->Rs D}(F:Im X.prog X.w X.K X.mg X.base (Ii X.prog X.w X.K) k f fd ps (spV X.K n g))(hr:lK k X.A)(hg:Gl X x)(hm:X.mg x=some (.ref f))(hk:gx X.K (.ref f)=true)(hb:Binds X.K fd ps [])
  (hx:yq X W) (ha:SA X B W (e::es) fs) (hdb:(x == ("__debug__":Str))=false:=by decide) (he:ba (e::es) X.env=(false,a_ e X.env)::ba es X.env:=by rfl) (hpl:(di pos (ba es X.env)).any (·.1)=false:=by rfl) :
  SE X B W (.Call (.Name x p) (e::es) [] pos) (fA fs (bC n g)):=by
 intro pins s σ H Q I h;refine nX (aac I hg hm ?_ hdb);have h2:tAF X.K B W fs σ H fun vs H1=>spV X.K n g vs H1 Q fun v _ H'=>∃c n,v=Dv c n/\W c n σ H':=by
  obtain⟨ρ,G,s,p⟩:=h;refine⟨ρ,G,s,?_⟩;unfold fA at p;cases e:fs ρ with
  |ex c n=>rw[e]at p;exact p
  |no=>rw[e]at p;exact p
  |ok ds =>
   rw[e]at p;intro vs H1 G1 x r;have p:=Post.ext x p;unfold bC at p;dsimp only[Rs.bind]at p;by_cases hl:ds.length=n
   ·rw[if_pos hl]at p;refine⟨by rw[<- r.length];exact hl,G1,ds,(s.ext x).ex0,r,?_⟩;cases e1:g ds with
    |ok d=>rw[e1]at p;exact p
    |ex c n=>rw[e1]at p;exact fun H' G' y=>⟨c,n,rfl,p H' G' y⟩
    |no=>rw[e1]at p;exact p.elim
   ·rw[if_neg hl]at p;exact p.elim
 refine PySem.W.callWith_K (h₀:=X.base) I.ok.mod.kin hk (jc (ha pos pins s σ H _ I h2) fun us s1 ⟨vs,H1,I1,r,q⟩=>⟨I1.Xq,?_⟩) he hpl;have hl:(us++[]).length=ps.length:=by rw[hW,<- r.length];exact F.len _ _ _ _ q
 have hbb:=hb s1 us I1.Xq hl;rw[hW]at hbb;refine p9 (me (F.run X.A X.stack s1 H1 ⟨us,[]⟩ us vs Q _ hr I1.env0 hbb r q) fun r s' hq=>?_);cases r with
 |error e=>exact hx pins σ H1 s1 e s' I1 hq
 |ok fl =>
  cases fl with
  |ret u=>exact I1.after hq
  |next=>exact f_ hq
  |brk=>exact f_ hq
  |cont=>exact f_ hq
end
section
variable{X:Cx}{pins:List (ab×Obj)}{σ:St}{H:Hp}{s:ae}{ea:ab}{c:Str}{n:Int}{tr:Bool}
end
section
variable{X:Cx}{pins:List (ab×Obj)}{σ:St}{H:Hp}{s:ae}{ea:ab}
end
end Vl
namespace Vl
open PySem PySem.Spec PySem.Calls PySem.W L2
section
variable{K:ai}
end
section
variable{X:Cx}{B:Bs}{W:Wi}
end
def yr:au->Ou:=fun ρ=>.nx ρ
def bU(g k:au->Ou):au->Ou:=fun ρ=>aec (g ρ) k
def fX(f:au->Rs D):au->Ou:=fun ρ=>oR (f ρ) ρ .rt
def aqS(f:au->Rs D):au->Ou:=fun ρ=>oR (f ρ) ρ fun _=>.nx ρ
def zG(c:au->Rs Bool)(a b:au->Ou):au->Ou:=fun ρ=>oR (c ρ) ρ fun x=>if x=true then a ρ else b ρ
def aeo(f:au->Rs D)(h:Tg):au->Ou:=fun ρ=>oR (f ρ) ρ fun d=>oO (h d ρ)
def kj(i:Nat)(f:au->Rs D):au->Ou:=fun ρ=>oR (f ρ) ρ fun d=>.nx (ρ.set i (.fz d))
def aqT(x:Str)(fs:au->Rs (List D)):au->Ou:=fun ρ=>oR (fs ρ) ρ fun ds=>if ds.length<=1000 then .ex x 0 ρ else .no
def qy(g:au->Ou):au->Ou:=fun ρ=>aeg (g ρ)
def Ye(f:au->Rs D):au->Rs D:=fun ρ=>(f ρ).bind ahG
def fB(f:au->Rs D)(g:D->Rs D):au->Rs D:=fun ρ=>(f ρ).bind g
def fL(f:au->Rs D)(g:D->Rs (List D)):au->Rs (List D):=fun ρ=>(f ρ).bind g
section
variable{X:Cx}{B:Bs}{W:Wi}
theorem gP:wk X B W [] yr:=ale
theorem aW{st:bj}{rest:List bj}{g k:au->Ou}(h1:SS X B W st g)(h2:wk X B W rest k):wk X B W (st::rest) (bU g k):=ahI h1 h2
theorem bw{st:bj}{g:au->Ou}(h1:SS X B W st g):wk X B W [st] g:=alf h1
theorem cM{e:ag}{pos}{f:au->Rs D}(h:SE X B W e f):SS X B W (.Return (some e) pos) (fX f):=alg h
theorem oE{c:ag}{a b:List bj}{pos:Pos}{fc:au->Rs Bool}{ga gb:au->Ou}(hc:ST X B W c fc)(ha:wk X B W a ga)(hb:wk X B W b gb):SS X B W (.If c a b pos) (zG fc ga gb):=anV hc ha hb
theorem alw{tg e:ag}{pos:Pos}{f:au->Rs D}{h:Tg}(he:SE X B W e f)(hg:SG X B tg h)(hs:kH [tg] e pos.line X.env=pure false:=by rfl)(hw:kK [tg] e X.env=pure none:=by rfl)
  (h1:(d4 [tg] X.env).map (·.2)=[assign tg X.env]:=by rfl):SS X B W (.Assign [tg] e pos) (aeo f h):=alh he hg hs hw h1
theorem jw(i:Nat){x:Str}{e:ag}{pos pos':Pos}{f:au->Rs D}(hN:X.N.Nodup)(he:SE X B W e f)(hi:X.N[i]?=some x:=by rfl)(hx:Mu X.env.scope x:=by first|exact Or.inl rfl|exact Or.inr rfl)(hs:eL e (some (.Name x pos')) pos.line X.env=pure false:=by rfl)(hf:X.fn x=true∨X.env.scope.names.lookup x=some .local:=by first|exact .inl rfl|exact .inr rfl|assumption) :
  SS X B W (.Assign [.Name x pos'] e pos) (kj i f):=ali hN hi hx he hs hf
theorem iU{st:bj}{g:au->Ou}(h:SS X.nox B WF st g):SS X B W st (qy g):=alm h
theorem Yg{a:ag}{pos:Pos}{fa:au->Rs D}(ha:SE X B W a fa):SE X B W (.UnaryOp .USub a pos) (Ye fa):=alc ha
theorem rg(i:Nat){x:Str}{pos:Pos}(hN:X.N.Nodup)(hi:X.N[i]?=some x:=by rfl)(hx:Mu X.env.scope x:=by first|exact Or.inl rfl|exact Or.inr rfl)(hf:X.fn x=true∨X.env.scope.names.lookup x=some .local:=by first|exact .inl rfl|exact .inr rfl|assumption):SG X B (.Name x pos) (aU i) :=
 ahJ hN hi hx hf
theorem KQ{t:Ty}{x:Str}{e:ag}{p1 p2 pos:Pos}{f:au->Rs D}(hm:X.mg "isinstance"=none) (hmt:X.mg x=none) (he:SE X B W e f) (hv:hG x=some (.type t.nm)) (hg:Gl X "isinstance":=by rfl) (hgx:Gl X x:=by rfl)
  (hst:ba [e,.Name x p2] X.env=[(false,a_ e X.env),(false,a_ (.Name x p2) X.env)]:=by rfl) (hst2:ba [.Name x p2] X.env=[(false,a_ (.Name x p2) X.env)]:=by rfl) (hn:x≠"__name__":=by decide) (hd:(x == ("__debug__":Str))=false:=by decide) :
  SE X B W (.Call (.Name "isinstance" p1) [e,.Name x p2] [] pos) (fB f (gIs t)):=aog hm hmt he hv hg hgx hst hst2 hn hd
theorem Dy{tg iter:ag}{f:au->Rs D}(hi:SE X B W iter f):SI X B W tg iter (fL f asL):=ahM hi
theorem zQ{tg iter:ag}{f:au->Rs D}(hi:SE X B W iter f):SI X B W tg iter (fL f Xr):=alo hi
theorem aep{e:ag}{p pos:Pos}{fa:au->Rs D}(hc:X.calm=true) (hm:X.mg "all"=none) (ha:SE X B W e fa) (hg:Gl X "all":=by rfl) (he:ba [e] X.env=[(false,a_ e X.env)]:=by rfl):SE X B W (.Call (.Name "all" p) [e] [] pos) (fA (ao fa aR) Tq) :=
 yg (abJ hc) als hg hm rfl (ak ha aK he) (by decide) (by decide) he rfl
theorem abL{e e':ag}{p pos:Pos}{fa fb:au->Rs D}(hm:X.mg "divmod"=none) (ha:SE X B W e fa) (hb:SE X B W e' fb) (hg:Gl X "divmod":=by rfl) (he:ba [e,e'] X.env=[(false,a_ e X.env),(false,a_ e' X.env)]:=by rfl) (he':ba [e'] X.env=[(false,a_ e' X.env)]:=by rfl) :
  SE X B W (.Call (.Name "divmod" p) [e,e'] [] pos) (fA (ao fa (ao fb aR)) gDm) :=
 yg Nb anU hg hm rfl (ak ha (ak hb aK he') (by rw[he,he'])) (by decide) (by decide) (by rw[he,he']) (by rw[he'];rfl)
end
def kE(P:aE)(w:az)(K:ai)(mg:Str->Option aa)(base:Heap)(x:Str)(k n:Nat)(v:List D->Rs D):Prop :=
 ∃f fd ps,Im P w K mg base (Ii P w K) k f fd ps (spV K n v)/\mg x=some (.ref f)/\gx K (.ref f)=true/\Binds K fd ps []
theorem fO{P:aE}{w:az}{K:ai}{mg:Str->Option aa}{base:Heap}{x:Str}{st:bj}{f:ab}{fd:ck}{N ps:List Str}{k:Nat}{g:au->Ou}(F:vW K x x st f fd)(hm:mg x=some (.ref f))(S:bQ N ps (aD st))
  (hbi:∀(kV doc pm:aa) (an:Option ab) (cdv ct:aa) (us:List aa),us.length=ps.length->bindArgs (eW x x (bJ st) (bF st) (aD st) .none kV doc pm an cdv ct) ⟨us,[]⟩=pure (ps.zip us))
  (hb:∀(cdv:aa) (A:aS) (outer:List Env) (s:ae) (H:Hp) (E:XK) (B:Bs),lK k (A.deeper (mw x (aD st) s.heap.objs.size f cdv)) ->
   yq (tU (Ii P w K) P w K mg base N x (aD st) f cdv A outer s H E) (fun c n _ H'=>E (Dv c n) none H') ->
   wk (tU (Ii P w K) P w K mg base N x (aD st) f cdv A outer s H E) B (fun c n _ H'=>E (Dv c n) none H') (bF st) g) :
  kE P w K mg base x (k + 1) ps.length (fun ds=>gB (g (bG N ds))) :=
 ⟨f,fd,ps,aoj F S fun cdv A outer s H E B hr=>hb cdv A outer s H E B hr (ug qx rfl),hm,F.kp,F.binds hbi⟩
section
variable{X:Cx}{B:Bs}{W:Wi}
theorem bN{x:Str}{p pos:Pos}{e:ag}{es:List ag}{fs:au->Rs (List D)}{k n:Nat}{g:List D->Rs D}(O:kE X.prog X.w X.K X.mg X.base x k n g) (hr:lK k X.A) (hx:yq X W) (ha:SA X B W (e::es) fs) (hg:Gl X x:=by rfl) (hdb:(x == ("__debug__":Str))=false:=by decide)
  (he:ba (e::es) X.env=(false,a_ e X.env)::ba es X.env:=by rfl) (hpl:(di pos (ba es X.env)).any (·.1)=false:=by rfl):SE X B W (.Call (.Name x p) (e::es) [] pos) (fA fs (bC n g)):=by
 obtain⟨f,fd,ps,F,hm,hk,hb⟩:=O;exact ahT F hr hg hm hk hb hx ha hdb he hpl
end
def ajU(S sc:Scope)(NX N:List Str)(nt:Nat)(caps:List Nat):Bool :=
 decide (sc.kind=.function) && sc.names.all (fun y=>y.2 != .cell) && sc.names.all (fun y=>y.2 != .free || S.names.lookup y.1 == some .cell || S.names.lookup y.1 == some .free) && decide (N.length=nt + caps.length) &&
  (bE caps.length).all fun j=>match caps[j]?,N[nt + j]? with|some i,some x=>NX[i]? == some x && sc.names.lookup x == some .free|_,_=>true
theorem kI{X:Cx}{sc:Scope}{N:List Str}{nt:Nat}{caps:List Nat}(S:Scope)(NX:List Str)(h:ajU S sc NX N nt caps=true)(hS:X.env.scope=S:=by rfl)(hX:X.N=NX:=by rfl):wQ X sc N nt caps:=by
 unfold ajU at h;simp only[jv,decide_eq_true_eq,iS,bne_iff_ne,p_,beq_iff_eq,ne_eq]at h;obtain⟨⟨⟨⟨h1,h2⟩,h3⟩,h4⟩,h5⟩:=h;refine⟨h1,fun y hy=>h2 y hy,fun y hy hf=>?_,h4,fun j i x e1 e2=>?_⟩
 ·have:=h3 y hy;unfold Env.kindOf;rw[hS];rcases this with (h|h)|h
  ·exact absurd hf h
  ·exact .inl h
  ·exact .inr h
 ·have:=h5 j (by rw[eJ];exact(dC.mp e1).1);rw[e1,e2]at this;simp only[jv,beq_iff_eq]at this;rw[hX];exact this
theorem dR{i:Nat}:rB (aU i):=by
 intro d ρ ρ' no e j ds q;unfold aU at e;cases e;by_cases c:i=j
 ·subst c;have hl:i < ρ.length:=by have:=(dC.mp q).1;simpa using this
  rw[dE hl]at q;cases q;exact fun w=>by cases w
 ·rw[de c]at q;exact no j ds q
def Dz(h:List D->au->Option au):Prop:=∀ds ρ ρ',Tj ρ->h ds ρ=some ρ'->Tj ρ'
theorem Tt:Dz jY:=fun ds ρ ρ' no e=>by
 cases ds with
 |nil=>cases e;exact no
 |cons _ _=>cases e
theorem vC{h:Tg}{k:List D->au->Option au}(h1:rB h)(h2:Dz k):Dz (bR h k):=fun ds ρ ρ' no e=>by
 cases ds with
 |nil=>cases e
 |cons d ds =>
  simp only[bR]at e;cases e1:h d ρ with
  |none=>rw[e1]at e;cases e
  |some ρ1=>rw[e1]at e;exact h2 ds ρ1 ρ' (h1 d ρ ρ1 no e1) e
theorem Tv{n:Nat}{k:List D->au->Option au}(h:Dz k):rB (ju n k):=fun d ρ ρ' no e=>by
 cases d with
 |tup ds =>
  simp only[ju]at e;split at e
  ·exact h ds ρ ρ' no e
  ·cases e
 |_=>cases e
theorem rD{X:Cx}{B:Bs}{W:Wi}{tg iter:ag}{elt:ag}{sc:Scope}{pos:Pos}{N:List Str}{nt:Nat}{caps:List Nat}{h:Tg}{fe:au->Rs D}{fi:au->Rs (List D)}
  (c:wQ X sc N nt caps) (hc:X.calm=true) (hnames:sc.names.all (fun y=>y.2 != .local || sc.names.lookup y.1 == some .local)=true) (hi:SI X B W tg iter fi) (hno:rB h)
  (ht:∀s₀ H₀ C ex pins B',SG (kh X N s₀ H₀ sc (gj sc X.env) C ex pins) B' tg h)
  (he:∀s₀ H₀ C ex pins B',SE (kh X N s₀ H₀ sc (gj sc X.env) C ex pins) B' WF elt fe)
  (hs:∀x,f6 iter X.env x=pure x:=by intro _;rfl) :
  SE X B W (.ListComp elt [⟨tg,iter,[],0⟩] sc pos) (dw h (fun _=>.ok true) fe nt caps fi) :=
 ahO c hc (fun y hy hl=>by
  have:=iS.mp hnames y hy;simp only[p_,bne_iff_ne,beq_iff_eq,ne_eq]at this;exact this.elim (fun z=>absurd hl z) id) hi hno ht (.inl ⟨rfl,rfl⟩) he hs
def aqU(i j:Nat)(fs:au->Rs (List D)):au->Ou:=fun ρ=>oR (fs ρ) ρ fun ds=>match ds with
 | [d,e]=>.nx ((ρ.set i (.fz d)).set j (.fz e))
 |_=>.no
section
variable{ρ ρ1:au}{d x y z:D}{f fa fb:au->Rs D}{g k a b:au->Ou}{r:Ou}{ds:List D}{fs:au->Rs (List D)}{c c1 c2:au->Rs Bool}{t u:Bool}{i j:Nat}
theorem aZ(h:g ρ=.nx ρ1)(h2:k ρ1=r):bU g k ρ=r:=by unfold bU;rw[h];exact h2
theorem aer(h:g ρ=.rt d):bU g k ρ=.rt d:=by unfold bU;rw[h];rfl
theorem cu:fC d ρ=.ok d:=rfl
theorem aG(h:ρ[i]?=some (.fz d)):aH i ρ=.ok d:=by unfold aH;rw[h]
theorem bM{o:D->D->Rs D}{r:Rs D}(h1:fa ρ=.ok x)(h2:fb ρ=.ok y)(h3:o x y=r):bW o fa fb ρ=r:=by unfold bW;rw[h1];show(fb ρ).bind _=_;rw[h2];exact h3
theorem aes{n:Int}(h1:fa ρ=.ok (.int n)):Ye fa ρ=.ok (.int (-n)):=by unfold Ye;rw[h1];rfl
theorem aO:aR ρ=.ok []:=rfl
theorem aq(h1:fa ρ=.ok x)(h2:fs ρ=.ok ds):ao fa fs ρ=.ok (x::ds):=by unfold ao;rw[h1];show(fs ρ).bind _=_;rw[h2];rfl
theorem fM{o:List D->Rs D}{r:Rs D}(h1:fs ρ=.ok ds)(h2:o ds=r):fA fs o ρ=r:=by unfold fA;rw[h1];exact h2
theorem v_b{o:D->Rs D}{r:Rs D}(h1:fa ρ=.ok x)(h2:o x=r):fB fa o ρ=r:=by unfold fB;rw[h1];exact h2
theorem bV{n:Nat}{v:List D->Rs D}{r:Rs D}(hl:ds.length=n)(h:v ds=r):bC n v ds=r:=by unfold bC;rw[if_pos hl];exact h
theorem aol(hl:ds.length<=1000):dJ ds=.ok (.tup ds):=by unfold dJ;rw[if_pos hl]
theorem BZ(hl:ds.length<=1000):yc ds=.ok (.lst ds):=by unfold yc;rw[if_pos hl]
theorem vD(h:fa ρ=.ok (.bl t)):fT fa ρ=.ok t:=by unfold fT;rw[h];rfl
theorem Ca(h:c ρ=.ok t):tW c ρ=.ok (!t):=by unfold tW;rw[h];rfl
theorem zR(h:c1 ρ=.ok false)(h2:c2 ρ=.ok t):fOr c1 c2 ρ=.ok t:=by unfold fOr;rw[h];exact h2
theorem rE(h:c ρ=.ok true)(h2:a ρ=r):zG c a b ρ=r:=by unfold zG;rw[h];exact h2
theorem iV(h:c ρ=.ok false)(h2:b ρ=r):zG c a b ρ=r:=by unfold zG;rw[h];exact h2
theorem mQ(h:fa ρ=.ok x):kj i fa ρ=.nx (ρ.set i (.fz x)):=by unfold kj;rw[h];rfl
theorem jH(h:fa ρ=.ok x):fX fa ρ=.rt x:=by unfold fX;rw[h];rfl
theorem aom{h:Tg}(h1:fa ρ=.ok x)(h2:h x ρ=some ρ1):aeo fa h ρ=.nx ρ1:=by unfold aeo;rw[h1];show oO (h x ρ)=_;rw[h2];rfl
theorem pX:yr ρ=.nx ρ:=rfl
theorem nF(h:g ρ=.nx ρ1):qy g ρ=.nx ρ1:=by unfold qy;rw[h];rfl
theorem Yh{h:Tg}{n:Int}{N:Nat}(h1:fa ρ=.ok (.int n))(hb:n < 2 ^ 62)(hN:n=(N:Int))(h2:cP h g ((bE N).map fun(i:Nat)=>.int i) ρ=r):Ey h g fa ρ=r:=by
 have hc:-(2 ^ 62)<=n/\n < 2 ^ 62:=⟨by subst hN;lia,hb⟩
 unfold Ey;rw[h1];simp only[oR];rw[if_pos hc,hN,kR];exact h2
theorem Yi{h:Tg}(h1:fa ρ=.ok (.lst ds))(h2:cP h g ds ρ=r):KH h g fa ρ=r:=by unfold KH;rw[h1];exact h2
theorem uh{h:Tg}(h1:fa ρ=.ok (.tup ds))(h2:cP h g ds ρ=r):ud h g fa ρ=r:=by unfold ud;rw[h1];exact h2
theorem yt{h:Tg}(P:au->Prop):∀{ds:List D}{ρ:au},P ρ->(∀d∈ds,∀ρ,P ρ->∃ρ1 ρ',h d ρ=some ρ1/\g ρ1=.nx ρ'/\P ρ')->∃ρ',cP h g ds ρ=.nx ρ'/\P ρ'
 | [],ρ,p,_=>⟨ρ,rfl,p⟩
 |d::ds,ρ,p,st=>by obtain⟨ρ1,ρ2,e1,e2,p2⟩:=st d (by simp) ρ p;obtain⟨ρ',e,p'⟩:=yt (ds:=ds) P p2 fun d' hd=>st d' (by simp[hd]);refine⟨ρ',?_,p'⟩;simp only[cP,e1,e2];exact e
theorem Np{h:Tg}{ft:au->Rs Bool}{fe:au->Rs D}{nt:Nat}{caps:List Nat}{fi:au->Rs (List D)}{ys:List D}(h1:fi ρ=.ok ds)(h2:jG h ft fe ds (dZ nt caps ρ)=.ok ys)(hl:ys.length<=1000000):dw h ft fe nt caps fi ρ=.ok (.lst ys):=by unfold dw;rw[h1];show EY ((jG h ft fe ds (dZ nt caps ρ)).bind _)=_;rw[h2];show EY (if ys.length<=1000000 then _ else _)=_;rw[if_pos hl];rfl
theorem v_l{o:D->Rs (List D)}(h1:fa ρ=.ok x)(h2:o x=.ok ds):fL fa o ρ=.ok ds:=by unfold fL;rw[h1];exact h2
variable{m n:Int}
theorem ajV(h:XD m n):nG (.int m) (.int n)=.ok (.int (m * n)):=by simp[nG,gI,h]
theorem Tw(h:0 < n):Cy (.int m) (.int n)=.ok (.int (m % n)):=by simp[Cy,gI,h]
theorem aon(h:CDB m n):adY (.int m) (.int n)=.ok (.int (m / n)):=by simp[adY,gI,h]
theorem aoo(h:adE m n):Td (.int m) (.int n)=.ok (.int (m ^ n.toNat)):=by simp[Td,gI,h]
theorem gk:dh (.int m) (.int n)=.ok (.int (m + n)):=rfl
theorem abM{a b:List D}(h:a.length + b.length<=1000000):dh (.lst a) (.lst b)=.ok (.lst (a++b)):=by simp only[dh];rw[if_pos h]
theorem jd:Vl.iT (.int m) (.int n)=.ok (.int (m - n)):=rfl
theorem aqV(h:CDB m n):gDm [.int m,.int n]=.ok (.tup [.int (m / n),.int (m % n)]):=by simp[gDm,h]
theorem alx:gLt (.int m) (.int n)=.ok (.bl (decide (m < n))):=rfl
theorem aqW:gLe (.int m) (.int n)=.ok (.bl (decide (m<=n))):=rfl
theorem aly:gGt (.int m) (.int n)=.ok (.bl (decide (n < m))):=rfl
theorem ahU:gGe (.int m) (.int n)=.ok (.bl (decide (n<=m))):=rfl
theorem oF:RM (.int m) (.int n)=.ok (.bl (decide (m=n))):=by simp[RM,cV,xQ];rfl
theorem aax:Tn (.int m) (.int n)=.ok (.bl (!decide (m=n))):=by simp[Tn,cV,xQ];rfl
theorem aop(h1:cV x<=8)(h2:cV y<=8):Tn x y=.ok (.bl (!xQ x y)):=by unfold Tn;rw[if_pos ⟨h1,h2⟩]
theorem abN(h1:cV x<=8)(e:x=y):Tn x y=.ok (.bl false):=by subst e;rw[aop h1 h1,xY];rfl
theorem aqX(h:Du ds m=some d):fH (.tup ds) (.int m)=.ok d:=by simp[fH,h]
theorem aoq(h:Du ds m=some d):fH (.lst ds) (.int m)=.ok d:=by simp[fH,h]
end
end Vl
namespace Tb
open PySem
def it:Nat->Nat->Nat
 | 0,x=>x
 |m + 1,x=>5 * it m x + 1
theorem aeu(m n x:Nat):it (m + n) x=it m (it n x):=by
 induction m with
 |zero=>simp[it]
 |succ m ih=>rw[Nat.succ_add];simp only[it];rw[ih]
theorem alz(k:Nat):∃w,w % 2=1/\∀y,it (2 ^ k) y=y + 2 ^ k * w * (4 * y + 1):=by
 induction k with
 |zero=>exact⟨1,rfl,fun y=>by simp[it];lia⟩
 |succ k ih =>
  obtain⟨w,hw,h⟩:=ih;refine⟨w * (1 + 2 ^ (k + 1) * w),?_,fun y=>?_⟩
  ·have e:2 ^ (k + 1)=2 * 2 ^ k:=by rw[mx];lia
   rw[e,Nat.mul_add,Nat.mul_one,tw];have:w * (2 * 2 ^ k * w) % 2=0:=by
    have:w * (2 * 2 ^ k * w)=2 * (w * 2 ^ k * w):=by grind
    rw[this];exact Nat.mul_mod_right _ _
   lia
  ·have e:2 ^ (k + 1)=2 ^ k + 2 ^ k:=by rw[mx];lia
   rw[e,aeu,h,h]
   grind
theorem aor(k:Nat):∀x e:Nat,∃m,m < 2 ^ k/\it m x % 2 ^ k=e % 2 ^ k:=by
 induction k with
 |zero=>exact fun x e=>⟨0,by decide,by simp[Nat.mod_one]⟩
 |succ k ih =>
  intro x e;obtain⟨m,hm,he⟩:=ih x e;obtain⟨w,hw,hp⟩:=alz k;have e2:2 ^ (k + 1)=2 ^ k * 2:=mx ..;by_cases c:it m x % 2 ^ (k + 1)=e % 2 ^ (k + 1)
  ·exact⟨m,by rw[e2];lia,c⟩
  ·refine⟨2 ^ k + m,by rw[e2];lia,?_⟩;rw[aeu,hp];have pos:0 < 2 ^ k:=tx (by simp);generalize it m x=a at he c;obtain⟨q,hq⟩:∃q,w * (4 * a + 1)=2 * q + 1:=by
    refine⟨w * (4 * a + 1) / 2,?_⟩;have:w * (4 * a + 1) % 2=1:=by
     rw[tz];have:(4 * a + 1) % 2=1:=by lia
     rw[hw,this]
    lia
   have hq':2 ^ k * w * (4 * a + 1)=2 ^ k * 2 * q + 2 ^ k:=by rw[qa,hq];grind
   rw[hq',e2];rw[e2]at c;generalize 2 ^ k=M at *;have h1:(a + (M * 2 * q + M)) % (M * 2)=(a + M) % (M * 2):=by
    have:a + (M * 2 * q + M)=a + M + M * 2 * q:=by lia
    rw[this,qc]
   rw[h1];have a1:=Nat.mod_add_div a (M * 2);have b1:=Nat.mod_add_div e (M * 2);have al:=my a (show 0 < M * 2 by lia);have bl:=my e (show 0 < M * 2 by lia);generalize a % (M * 2)=ra at a1 al c;generalize e % (M * 2)=rb at b1 bl c ⊢;have ham:a % M=ra % M:=by rw[<- a1,qa,qc]
   have hbm:e % M=rb % M:=by rw[<- b1,qa,qc]
   have hrr:ra % M=rb % M:=by rw[<- ham,<- hbm];exact he
   have hA:(a + M) % (M * 2)=(ra + M) % (M * 2):=by
    rw[<- a1];have:ra + M * 2 * (a / (M * 2)) + M=ra + M + M * 2 * (a / (M * 2)):=by lia
    rw[this,qc]
   rw[hA];by_cases ha:ra < M
   ·have e3:ra % M=ra:=iX ha;have hb:¬rb < M:=fun z=>c (by rw[iX z]at hrr;lia);have e4:rb % M=rb - M:=by rw[qf (by lia),iX (by lia)]
    rw[iX (by lia)];lia
   ·have e3:ra % M=ra - M:=by rw[qf (by lia),iX (by lia)]
    have hb:rb < M:=Nat.lt_of_not_le fun z=>c (by
     have e4:rb % M=rb - M:=by rw[qf (by lia),iX (by lia)]
     lia)
    have e4:rb % M=rb:=iX hb;rw[qf (by lia),iX (by lia)];lia
end Tb
namespace Tb
open PySem PySem.SetTable
def tD(t:bS):Nat->Probe->Probe
 | 0,p=>p
 |s + 1,p=>tD t s (t.advance p)
theorem vG(t:bS)(a b:Nat)(p:Probe):tD t (a + b) p=tD t b (tD t a p):=by
 induction a generalizing p with
 |zero=>simp[tD]
 |succ a ih=>rw[Nat.succ_add];simp only[tD];exact ih _
theorem qC(t:bS)(s:Nat)(p:Probe):tD t (s + 1) p=t.advance (tD t s p):=by rw[vG];rfl
def tE(mask i pt:Nat)(d:Option Nat):Probe:={ j:=i,more:=runEnd mask i - i,i:=i,perturb:=pt,dummy:=d }
theorem alA(mask i:Nat):runEnd mask i - i<=9:=by unfold runEnd;split <;> lia
theorem aay(t:bS):∀(m:Nat) (p:Probe),m<=p.more->tD t m p={ p with j:=p.j + m,more:=p.more - m }:=by
 intro m
 induction m with
 |zero=>intro p _;simp[tD]
 |succ m ih =>
  intro p h;rw[qC,ih p (by lia)];unfold advance;simp only;rw[if_pos (by lia)];simp only[Probe.mk.injEq,and_true,true_and];lia
theorem Fj(t:bS)(p:Probe):tD t (p.more + 1) p=tE t.mask (leap t.mask p.i p.perturb).1 (leap t.mask p.i p.perturb).2 p.dummy:=by rw[qC,aay t p.more p (bo _)];unfold advance tE;simp only[Nat.sub_self,gu,gt_iff_lt,if_false]
def lp(mask:Nat):Nat->Nat×Nat->Nat×Nat
 | 0,x=>x
 |n + 1,x=>leap mask (lp mask n x).1 (lp mask n x).2
theorem alB(t:bS)(d:Option Nat)(i pt:Nat):∀n,∃s,s<=10 * n/\tD t s (tE t.mask i pt d)=tE t.mask (lp t.mask n (i,pt)).1 (lp t.mask n (i,pt)).2 d:=by
 intro n
 induction n with
 |zero=>exact⟨0,by lia,rfl⟩
 |succ n ih =>
  obtain⟨s,hs,e⟩:=ih;refine⟨s + ((tE t.mask (lp t.mask n (i,pt)).1 (lp t.mask n (i,pt)).2 d).more + 1),?_,?_⟩
  ·have:=alA t.mask (lp t.mask n (i,pt)).1;simp only[tE];lia
  ·rw[vG,e,Fj];rfl
theorem aos(mask:Nat)(x:Nat×Nat):∀n,(lp mask n x).2=x.2 / 32 ^ n:=by
 intro n
 induction n with
 |zero=>simp[lp]
 |succ n ih=>simp only[lp,leap,ih];rw[Nat.div_div_eq_div_mul,mx]
theorem aot(mask:Nat)(x:Nat×Nat)(n:Nat):(lp mask (n + 1) x).1 < mask + 1:=my _ (by lia)
theorem aev(mask:Nat)(x:Nat×Nat)(a b:Nat):lp mask (a + b) x=lp mask b (lp mask a x):=by
 induction b with
 |zero=>rfl
 |succ b ih=>rw[Nat.add_succ];simp only[lp,ih]
theorem ahV(mask i:Nat)(hi:i < mask + 1):∀n,lp mask n (i,0)=(it n i % (mask + 1),0):=by
 intro n
 induction n with
 |zero=>simp[lp,it,iX hi]
 |succ n ih =>
  simp only[lp,ih,leap,it,tJ,Nat.zero_div,mB,and_true];rw[Nat.mul_comm,tw,tz,Nat.mod_mod,<- tz,<- tw]
theorem aew{mask k:Nat}(hk:mask + 1=2 ^ k)(i pt:Nat)(hp:pt < 2 ^ 64){e:Nat}(he:e<=mask):∃n,n<=mask + 13/\(lp mask n (i,pt)).1=e:=by
 have h13:(lp mask 13 (i,pt)).2=0:=by rw[aos];exact Nat.div_eq_of_lt (tN hp (by decide))
 have hl:=aot mask (i,pt) 12;obtain⟨m,hm,e1⟩:=aor k (lp mask 13 (i,pt)).1 e;refine⟨13 + m,by lia,?_⟩;rw[aev];have e2:lp mask 13 (i,pt)=((lp mask 13 (i,pt)).1,0):=by rw[<- h13]
 rw[e2,ahV _ _ hl,hk,e1,iX (by lia)]
theorem hit{t:bS}{k:Nat}(hk:t.mask + 1=2 ^ k)(p:Probe)(h9:p.more<=9)(hp:p.perturb < 2 ^ 64){e:Nat}(he:e<=t.mask):∃s,s<=10 * (t.mask + 14)/\(tD t s p).j=e:=by have hq:(leap t.mask p.i p.perturb).2 < 2 ^ 64:=j0 (Nat.div_le_self _ _) hp;obtain⟨n,hn,e1⟩:=aew hk (leap t.mask p.i p.perturb).1 (leap t.mask p.i p.perturb).2 hq he;obtain⟨s,hs,e2⟩:=alB t p.dummy (leap t.mask p.i p.perturb).1 (leap t.mask p.i p.perturb).2 n;refine⟨p.more + 1 + s,by lia,?_⟩;rw[vG,Fj,e2];exact e1
theorem alC(t:bS)(p:Probe)(h9:p.more<=9)(hp:p.perturb < 2 ^ 64):∀s,(tD t s p).more<=9/\(tD t s p).perturb < 2 ^ 64/\(tD t s p).dummy=p.dummy:=by
 intro s
 induction s with
 |zero=>exact⟨h9,hp,rfl⟩
 |succ s ih =>
  rw[qC];obtain⟨a,b,c⟩:=ih;unfold advance;split
  ·exact⟨by simp only;lia,b,c⟩
  ·exact⟨alA _ _,j0 (Nat.div_le_self _ _) b,c⟩
theorem aaz(h:Int):bits h < 2 ^ 64:=by unfold bits;have:=kS h (show(0:Int) < 2 ^ 64 by decide);have:=km h (show(2 ^ 64:Int)≠0 by decide);lia
def pos(t:bS)(h:Int)(s:Nat):Nat:=(tD t s (t.probeStart h)).j
theorem yu(t:bS)(h:Int)(s:Nat):(tD t s (t.probeStart h)).more<=9/\(tD t s (t.probeStart h)).perturb < 2 ^ 64/\(tD t s (t.probeStart h)).dummy=none :=
 alC t _ (alA _ _) (aaz h) s
theorem ahW{t:bS}{k:Nat}(hk:t.mask + 1=2 ^ k)(h:Int)(s0:Nat){e:Nat}(he:e<=t.mask):∃s,s0<=s/\s<=s0 + 10 * (t.mask + 14)/\pos t h s=e:=by obtain⟨a,b,_⟩:=yu t h s0;obtain⟨s,hs,e1⟩:=hit hk (tD t s0 (t.probeStart h)) a b he;exact⟨s0 + s,by lia,by lia,by unfold pos;rw[vG];exact e1⟩
def Fl(xs:Array Nat):Prop:=∀a b,a < b->b < xs.size->xs.getD a 0 < xs.getD b 0
theorem ahX{xs:Array Nat}{a:Nat}(h:a < xs.size)(d:Nat):xs.getD a d=xs.getD a 0:=by simp[ic,h]
theorem aex{xs:Array Nat}{j:Nat}(R:Fl xs):∀(fuel lo hi:Nat),lo<=hi->hi<=xs.size->hi<=lo + fuel->(∀a,a < lo->xs.getD a 0 < j)->(∀a,hi<=a->a < xs.size->j<=xs.getD a 0) ->
  below.go xs j fuel lo hi<=xs.size/\(∀a,a < below.go xs j fuel lo hi->xs.getD a 0 < j)/\(∀a,below.go xs j fuel lo hi<=a->a < xs.size->j<=xs.getD a 0):=by
 intro fuel
 induction fuel with
 |zero =>
  intro lo hi h1 h2 h3 h4 h5;obtain rfl:lo=hi:=by lia
  exact⟨h2,h4,h5⟩
 |succ fuel ih =>
  intro lo hi h1 h2 h3 h4 h5;unfold below.go;by_cases c:lo < hi
  ·rw[if_pos c];simp only;have hm:(lo + hi) / 2 < xs.size:=by lia
   rw[ahX hm];by_cases d:xs.getD ((lo + hi) / 2) 0 < j
   ·rw[if_pos d];refine ih _ _ (by lia) h2 (by lia) (fun a ha=>?_) h5;by_cases e:a=(lo + hi) / 2
    ·rw[e];exact d
    ·exact tN (R a ((lo + hi) / 2) (by lia) hm) d
   ·rw[if_neg d];refine ih _ _ (by lia) (by lia) (by lia) h4 fun a ha hs=>?_;by_cases e:a=(lo + hi) / 2
    ·rw[e];lia
    ·exact cz (by lia) (fR (R ((lo + hi) / 2) a (by lia) hs))
  ·rw[if_neg c];obtain rfl:lo=hi:=by lia
   exact⟨h2,h4,h5⟩
theorem wR{xs:Array Nat}(R:Fl xs)(j:Nat):below xs j<=xs.size/\(∀a,a < below xs j->xs.getD a 0 < j)/\(∀a,below xs j<=a->a < xs.size->j<=xs.getD a 0) :=
 aex R xs.size 0 xs.size (eB _) (bo _) (by lia) (fun a h=>absurd h (by lia)) fun a h1 h2=>absurd h1 (by lia)
theorem aey{xs:Array Nat}(R:Fl xs){i:Nat}(hi:i < xs.size):below xs (xs.getD i 0)=i:=by
 obtain⟨h1,h2,h3⟩:=wR R (xs.getD i 0);by_cases c:below xs (xs.getD i 0) < i
 ·have:=h3 _ (bo _) (by lia);have:=R _ i c hi;lia
 ·by_cases d:i < below xs (xs.getD i 0)
  ·have:=h2 i d;lia
  ·lia
def Fo(t:bS)(j:Nat):Prop:=∃i,i < t.place.size/\t.place.getD i 0=j
theorem Tz{xs:Array Nat}{i:Nat}(hi:i < xs.size):xs[i]?=some (xs.getD i 0):=by simp[ic,hi]
theorem KR{t:bS}(R:Fl t.place){i:Nat}(hi:i < t.place.size):t.slot (t.place.getD i 0)=.live i:=by unfold slot;simp only;rw[aey R hi,Tz hi];simp
theorem Yj{t:bS}(nd:t.dummies=#[]){j:Nat}(h:¬Fo t j):t.slot j=.empty:=by
 unfold slot;simp only;rw[if_neg,if_neg]
 ·unfold has;rw[nd];simp
 ·intro c;apply h;have c':t.place[below t.place j]?=some j:=by simpa using c
  obtain⟨hl,e⟩:=ie.mp c';exact⟨_,hl,by simp[ic,hl,e]⟩
theorem Nq{t:bS}(R:Fl t.place){j:Nat}(h:Fo t j):∃i,i < t.place.size/\t.place.getD i 0=j/\t.slot j=.live i:=by obtain⟨i,hi,e⟩:=h;exact⟨i,hi,e,by rw[<- e];exact KR R hi⟩
theorem ahY{xs:Array Nat}(R:Fl xs):∀i,i < xs.size->i<=xs.getD i 0:=by
 intro i
 induction i with
 |zero=>intro _;exact eB _
 |succ i ih=>intro h;have:=ih (by lia);have:=R i (i + 1) (by lia) h;lia
theorem Yk{t:bS}(R:Fl t.place)(hs:t.place.size<=t.mask):∃e,e<=t.mask/\¬Fo t e:=by
 have key:∀n,n<=t.place.size->(∀a,a < n->t.place.getD a 0=a)∨∃e,e < n/\t.place.getD e 0≠e/\∀a,a < e->t.place.getD a 0=a:=by
  intro n
  induction n with
  |zero=>intro _;exact .inl fun a h=>absurd h (by lia)
  |succ n ih =>
   intro h;rcases ih (by lia) with h1|⟨e,h1,h2,h3⟩
   ·by_cases c:t.place.getD n 0=n
    ·refine .inl fun a ha=>?_;by_cases d:a=n
     ·rw[d];exact c
     ·exact h1 a (by lia)
    ·exact .inr ⟨n,by lia,c,h1⟩
   ·exact .inr ⟨e,by lia,h2,h3⟩
 rcases key t.place.size (bo _) with h|⟨e,h1,h2,h3⟩
 ·refine⟨t.place.size,hs,fun⟨i,hi,e⟩=>?_⟩;have:=h i hi;lia
 ·refine⟨e,by lia,fun⟨i,hi,e'⟩=>?_⟩;by_cases c:i < e
  ·have:=h3 i c;lia
  ·have hge:=ahY R e h1;by_cases d:i=e
   ·subst d;exact h2 e'
   ·have:=R e i (by lia) hi;lia
theorem aez{t:bS}(R:Fl t.place)(nd:t.dummies=#[])(hashAt:Nat->Int)(h:Int):∀(fuel s0 s1:Nat),s0<=s1->s1 < s0 + fuel->¬Fo t (pos t h s1) ->
    ∃s2,s0<=s2/\s2<=s1/\(∀s,s0<=s->s < s2->∃i,i < t.place.size/\t.place.getD i 0=pos t h s/\hashAt i≠h) /\
      ((¬Fo t (pos t h s2) /\ probe.go t hashAt h fuel (tD t s0 (t.probeStart h)) = some (.empty (pos t h s2) none)) ∨
       ∃i,i < t.place.size/\t.place.getD i 0=pos t h s2/\hashAt i=h/\probe.go t hashAt h fuel (tD t s0 (t.probeStart h))=some (.candidate (pos t h s2) i (tD t (s2 + 1) (t.probeStart h)))):=by
  intro fuel
  induction fuel with
  |zero=>intro s0 s1 h1 h2;lia
  |succ fuel ih =>
    intro s0 s1 h1 h2 hl;have hd:=(yu t h s0).2.2;unfold probe.go;by_cases c:Fo t (pos t h s0)
    . obtain⟨i,hi,e1,e2⟩:=Nq R c
      have e2':t.slot (tD t s0 (t.probeStart h)).j=.live i:=e2;rw[e2'];simp only;by_cases d:hashAt i=h
      . refine⟨s0,bo _,h1,fun s a b=>absurd a (by lia),.inr ⟨i,hi,e1,d,?_⟩⟩
        rw[if_pos (by simp[d]),qC];rfl
      . rw[if_neg (by simp[d]),<- qC]
        have hne:s0≠s1:=fun z=>hl (z▸c);obtain⟨s2,a1,a2,a3,a4⟩:=ih (s0 + 1) s1 (by lia) (by lia) hl;refine⟨s2,by lia,a2,fun s b1 b2=>?_,a4⟩;by_cases z:s=s0
        . subst z;exact⟨i,hi,e1,d⟩
        . exact a3 s (by lia) b2
    . refine⟨s0,bo _,h1,fun s a b=>absurd a (by lia),.inl ⟨c,?_⟩⟩
      have e2:t.slot (tD t s0 (t.probeStart h)).j=.empty:=Yj nd c;rw[e2];simp only;rw[hd];rfl
theorem aeA{t t':bS}(e:t.mask=t'.mask):∀s p,tD t s p=tD t' s p:=by
 intro s
 induction s with
 |zero=>intro p;rfl
 |succ s ih =>
  intro p;simp only[tD];have:t.advance p=t'.advance p:=by unfold advance;rw[e]
  rw[this,ih]
theorem TF{t t':bS}(e:t.mask=t'.mask)(h:Int)(s:Nat):pos t h s=pos t' h s:=by
 unfold pos;have:t.probeStart h=t'.probeStart h:=by unfold probeStart;rw[e]
 rw[this,aeA e]
abbrev tH:=Nat×Int×aa
structure Good (t:bS)(L:List tH):Prop where
 pw:∃k,t.mask + 1=2 ^ k
 m7:7<=t.mask
 nd:t.dummies=#[]
 pl:t.place=(L.map (·.1)).toArray
 so:(L.map (·.1)).Pairwise (· < ·)
 le:∀e∈L,e.1<=t.mask
 reach:∀e∈L,∃s,pos t e.2.1 s=e.1/\∀s',s' < s->∃e'∈L,e'.1=pos t e.2.1 s'
section
variable{t:bS}{L:List tH}
theorem Good.sz(g:Good t L):t.place.size=L.length:=by rw[g.pl];simp
theorem Good.at(g:Good t L){i:Nat}(hi:i < L.length):t.place.getD i 0=L[i].1:=by rw[g.pl];simp[ic,hi]
theorem Good.rise(g:Good t L):Fl t.place:=by intro a b hab hb;rw[g.sz]at hb;rw[g.at (show a < L.length by lia),g.at hb];have:=(ko.mp g.so) a b (by simpa using(show a < L.length by lia)) (by simpa using hb) hab;simpa using this
theorem Good.live(g:Good t L){j:Nat}:Fo t j↔∃e∈L,e.1=j:=by
 constructor
 ·rintro⟨i,hi,e⟩;rw[g.sz]at hi;rw[g.at hi]at e;exact⟨L[i],eQ hi,e⟩
 ·rintro⟨e,he,q⟩;obtain⟨i,hi,e1⟩:=mE.mp he;exact⟨i,by rw[g.sz];exact hi,by rw[g.at hi,e1];exact q⟩
theorem Good.uniq(g:Good t L){e e':tH}(h:e∈L)(h':e'∈L)(q:e.1=e'.1):e=e':=by
 obtain⟨i,hi,rfl⟩:=mE.mp h;obtain⟨j,hj,rfl⟩:=mE.mp h';have R:=g.rise;by_cases c:i < j
 ·have:=R i j c (by rw[g.sz];exact hj);rw[g.at hi,g.at hj]at this;lia
 ·by_cases d:j < i
  ·have:=R j i d (by rw[g.sz];exact hi);rw[g.at hi,g.at hj]at this;lia
  ·obtain rfl:i=j:=by lia
   rfl
end
theorem wu{α:Type}(xs:List α)(p:Nat)(hp:p<=xs.length)(x:α):insertAt xs.toArray p x=(xs.take p++x::xs.drop p).toArray:=by unfold insertAt;apply qh.mp;simp only[List.extract_toArray,cK,i0,qi,List.extract_eq_take_drop,Nat.sub_zero,List.drop_zero];rw[tP (l:=xs.drop p) (by simp)];simp
theorem Nr(t:bS)(nd:t.dummies=#[])(j:Nat):t.put j=({ t with place:=insertAt t.place (below t.place j) j },below t.place j):=by
 unfold put;have:has t.dummies j=false:=by unfold has;rw[nd];simp
 simp only[this,br,if_false]
theorem Good.put{t:bS}{L:List tH}(g:Good t L){j:Nat}{h:Int}{x:aa}(hj:j<=t.mask)(hn:¬Fo t j)(hr:∃s,pos t h s=j/\∀s',s' < s->∃e'∈L,e'.1=pos t h s') :
  (t.put j).2<=L.length/\Good (t.put j).1 (L.take (t.put j).2++(j,h,x)::L.drop (t.put j).2):=by
 rw[Nr t g.nd];obtain⟨b1,b2,b3⟩:=wR g.rise j;rw[g.sz]at b1 b3;simp only;generalize hp:below t.place j=p at *;refine⟨b1,?_⟩;have mem:∀e:tH,e∈L.take p++(j,h,x)::L.drop p↔e=(j,h,x)∨e∈L:=fun e=>by
  have:L=L.take p++L.drop p:=(mI p L).symm;constructor
  ·intro z;rcases du.mp z with z|z
   ·exact .inr (mM z)
   ·rcases bP.mp z with z|z
    ·exact .inl z
    ·exact .inr (List.mem_of_mem_drop z)
  ·rintro(z|z)
   ·subst z;simp
   ·rw[this]at z;rcases du.mp z with z|z
    ·exact j7 _ z
    ·exact eA _ (dS _ z)
 have pm:∀(hh:Int) (s:Nat),pos { t with place:=insertAt t.place p j } hh s=pos t hh s:=fun hh s=>TF (by rfl) hh s;refine⟨g.pw,g.m7,g.nd,?_,?_,fun e he=>?_,fun e he=>?_⟩
 ·show insertAt t.place p j=_;rw[g.pl,wu _ _ (by simpa using b1)];simp[t9,t_]
 ·simp only[mN,cn];rw[gL];refine⟨?_,?_,?_⟩
  ·rw[t9];exact j5 (nS _ _) g.so
  ·rw[fI];refine⟨fun a ha=>?_,?_⟩
   ·obtain⟨e,he,rfl⟩:=c8.mp ha;obtain⟨i,hi,rfl⟩:=mE.mp he;have hi':p + i < L.length:=by simp at hi;lia
    have q:=b3 (p + i) (by lia) hi';rw[g.at hi']at q;have ne:L[p + i].1≠j:=fun z=>hn (g.live.mpr ⟨_,eQ hi',z⟩);simp only[List.getElem_drop];show j < _;lia
   ·rw[t_];exact j5 (ue _ _) g.so
  ·intro a ha b hb;obtain⟨e,he,rfl⟩:=c8.mp ha;obtain⟨i,hi,rfl⟩:=mE.mp he;have hi':i < p:=by simp at hi;lia
   have q:=b2 i hi';rw[g.at (show i < L.length by lia)]at q;simp only[List.getElem_take];rcases bP.mp hb with z|z
   ·rw[z];exact q
   ·obtain⟨e',he',rfl⟩:=c8.mp z;obtain⟨i',hi2,rfl⟩:=mE.mp he';have hi3:p + i' < L.length:=by simp at hi2;lia
    have:=b3 (p + i') (by lia) hi3;rw[g.at hi3]at this;simp only[List.getElem_drop];lia
 ·rcases(mem e).mp he with z|z
  ·rw[z];exact hj
  ·exact g.le e z
 ·rcases(mem e).mp he with z|z
  ·subst z;obtain⟨s,e1,e2⟩:=hr;refine⟨s,by rw[pm];exact e1,fun s' hs=>?_⟩;obtain⟨e',h1,h2⟩:=e2 s' hs;exact⟨e',(mem e').mpr (.inr h1),by rw[pm];exact h2⟩
  ·obtain⟨s,e1,e2⟩:=g.reach e z;refine⟨s,by rw[pm];exact e1,fun s' hs=>?_⟩;obtain⟨e',h1,h2⟩:=e2 s' hs;exact⟨e',(mem e').mpr (.inr h1),by rw[pm];exact h2⟩
def kJ(owner:Array (Option Nat))(j:Nat):Prop:=owner.getD j (some 0)=none
theorem abO{mask:Nat}{t:bS}(ht:t.mask=mask)(owner:Array (Option Nat)):∀(fuel i pt n:Nat),n < fuel->kJ owner (lp mask n (i,pt)).1 ->
  ∃j s,layClean.free mask owner fuel i pt=some j/\(tD t s (tE mask i pt none)).j=j/\kJ owner j/\∀s',s' < s->¬kJ owner (tD t s' (tE mask i pt none)).j:=by
 intro fuel
 induction fuel with
 |zero=>intro i pt n h;lia
 |succ fuel ih =>
  intro i pt n hn hN;unfold layClean.free;have run:∀s,s<=runEnd mask i - i->(tD t s (tE mask i pt none)).j=i + s:=fun s hs=>by rw[aay t s _ hs];rfl
  have hre:i<=runEnd mask i:=by unfold runEnd;split <;> lia
  cases e:(bE (runEnd mask i + 1 - i)).find? fun k=>(owner.getD (i + k) (some 0)).isNone with
  |some k =>
   simp only;have h1:=List.find?_some e;have h2:=List.mem_of_find?_eq_some e;have h3:=eJ.mp h2;refine⟨i + k,k,rfl,run k (by lia),by simpa[kJ] using h1,fun s' hs z=>?_⟩;rw[run s' (by lia)]at z;have:=List.find?_eq_some_iff_append.mp e;obtain⟨_,as,bs,e1,e2⟩:=this;have hs':s'∈as:=by
    have hm:s'∈bE (runEnd mask i + 1 - i):=eJ.mpr (by lia);have ps:=List.pairwise_lt_range (n:=runEnd mask i + 1 - i);rw[e1]at hm ps;rcases du.mp hm with hm|hm
    ·exact hm
    ·rcases bP.mp hm with hm|hm
     ·lia
     ·have:=(fI.mp (gL.mp ps).2.1).1 s' hm;lia
   have:=e2 s' hs';rw[show owner.getD (i + s') (some 0)=none from z]at this;simp at this
  |none =>
   simp only;have h1:=List.find?_eq_none.mp e;have no:∀s,s<=runEnd mask i - i->¬kJ owner (i + s):=fun s hs z=>by have:=h1 s (eJ.mpr (by lia));rw[show owner.getD (i + s) (some 0)=none from z]at this;simp at this
   cases n with
   |zero=>exact absurd hN (no 0 (by lia))
   |succ n =>
    have e3:lp mask (n + 1) (i,pt)=lp mask n (leap mask i pt):=by rw[ui,aev];rfl
    rw[e3]at hN;obtain⟨j,s,a1,a2,a3,a4⟩:=ih (leap mask i pt).1 (leap mask i pt).2 n (by lia) hN;have hl:tD t (runEnd mask i - i + 1) (tE mask i pt none)=tE mask (leap mask i pt).1 (leap mask i pt).2 none:=by have:=Fj t (tE mask i pt none);rw[ht]at this;exact this
    refine⟨j,runEnd mask i - i + 1 + s,a1,by rw[vG,hl];exact a2,a3,fun s' hs z=>?_⟩;by_cases c:s'<=runEnd mask i - i
    ·rw[run s' c]at z;exact no s' c z
    ·obtain⟨q,rfl⟩:∃q,s'=runEnd mask i - i + 1 + q:=⟨s' - (runEnd mask i - i + 1),by lia⟩
     rw[vG,hl]at z;exact a4 q (by lia) z
theorem yw{α β:Type}{f g:α->Option β}:∀{l:List α},(∀a∈l,f a=g a)->l.filterMap f=l.filterMap g
 | [],_=>rfl
 |a::l,h=>by have ih:=yw (l:=l) fun b hb=>h b (dS _ hb);simp only[ll,ih,h a dA]
def gZ(M:Nat)(owner:Array (Option Nat)):List (Nat×Nat):=(bE M).filterMap fun j=>(owner.getD j none).map (j,·)
theorem rF{M:Nat}{owner:Array (Option Nat)}{j i:Nat}:(j,i)∈gZ M owner↔j < M/\owner.getD j none=some i:=by
 unfold gZ;simp only[ja,eJ,qk,tJ];constructor
 ·rintro⟨a,h1,b,h2,rfl,rfl⟩;exact⟨h1,h2⟩
 ·rintro⟨h1,h2⟩;exact⟨j,h1,i,h2,rfl,rfl⟩
theorem Io{M:Nat}{owner:Array (Option Nat)}:((gZ M owner).map (·.1)).Pairwise (· < ·):=by
 have e:(gZ M owner).map (·.1)=(bE M).filter fun j=>(owner.getD j none).isSome:=by unfold gZ;rw[uj,<- List.filterMap_eq_filter];congr 1;funext j;generalize hz:owner.getD j none=o;cases o <;> simp[Option.guard,hz]
 rw[e];exact j5 List.filter_sublist List.pairwise_lt_range
theorem TJ{f f':Nat->Option (Nat×Nat)}{j:Nat}{v:Nat×Nat}:∀{l:List Nat},l.Nodup->j∈l->f j=none->f' j=some v->(∀a,a≠j->f' a=f a)->(l.filterMap f').Perm (v::l.filterMap f)
 | [],_,h,_,_,_=>by cases h
 |a::l,nd,h,h1,h2,h3=>by
  have nd':=ka.mp nd;by_cases c:a=j
  ·subst c;have same:l.filterMap f'=l.filterMap f:=yw fun b hb=>h3 b fun z=>nd'.1 (z▸hb);rw[oa h2,uk h1,same]
  ·have hm:j∈l:=(bP.mp h).resolve_left (dQ c);have ih:=TJ nd'.2 hm h1 h2 h3;cases e:f a with
   |none =>
    rw[uk (by rw[h3 a c];exact e),uk e];exact ih
   |some b =>
    rw[oa (by rw[h3 a c];exact e),oa e];exact(ih.cons b).trans (ij.swap ..)
theorem Ym{M:Nat}{owner:Array (Option Nat)}(hs:owner.size=M){j k:Nat}(hj:j < M)(hn:owner.getD j none=none):(gZ M (owner.setIfInBounds j (some k))).Perm ((j,k)::gZ M owner):=by
 unfold gZ;refine TJ (j:=j) List.nodup_range (eJ.mpr hj) (by rw[hn];rfl) ?_ fun a ha=>?_
 ·have:(owner.setIfInBounds j (some k)).getD j none=some k:=by simp[ic,hs,hj]
  rw[this];rfl
 ·have:(owner.setIfInBounds j (some k)).getD a none=owner.getD a none:=by simp only[kq];rw[Array.getElem?_setIfInBounds_ne (dQ ha)]
  rw[this]
structure LC (t:bS)(hs:List Int)(owner:Array (Option Nat))(k:Nat):Prop where
 sz:owner.size=t.mask + 1
 pm:((gZ (t.mask + 1) owner).map (·.2)).Perm (bE k)
 reach:∀j i,(j,i)∈gZ (t.mask + 1) owner->∃h,hs[i]?=some h/\∃s,pos t h s=j/\∀s',s' < s->¬kJ owner (pos t h s')
theorem aaA{owner:Array (Option Nat)}{j:Nat}(h:kJ owner j):j < owner.size/\owner.getD j none=none:=by
 unfold kJ at h;by_cases c:j < owner.size
 ·simp only[ic,c,dif_pos]at h ⊢;exact⟨trivial,h⟩
 ·simp[ic,c]at h
theorem LC.step{t:bS}{hs:List Int}{owner:Array (Option Nat)}{k:Nat}(g:LC t hs owner k)(pw:∃q,t.mask + 1=2 ^ q)(hk:k<=t.mask){h:Int}(hh:hs[k]?=some h) :
  ∃j,layClean.free t.mask owner (turns t.mask) (bits h % (t.mask + 1)) (bits h)=some j/\LC t hs (owner.setIfInBounds j (some k)) (k + 1):=by
 obtain⟨q,hq⟩:=pw;have emp:∃e,e<=t.mask/\kJ owner e:=by
  refine Classical.byContradiction fun c=>?_;have all:∀e,e < t.mask + 1->∃i,(e,i)∈gZ (t.mask + 1) owner:=fun e he=>by
   cases z:owner.getD e none with
   |some i=>exact⟨i,rF.mpr ⟨he,z⟩⟩
   |none =>
    refine absurd ⟨e,by lia,?_⟩ c;have hl:e < owner.size:=by rw[g.sz];exact he
    simp only[kJ,ic,hl,dif_pos]at z ⊢;exact z
  have l1:(gZ (t.mask + 1) owner).length=k:=by have:=g.pm.length_eq;simpa using this
  have l2:((gZ (t.mask + 1) owner).map (·.1))=bE (t.mask + 1):=by
   unfold gZ;rw[uj];have:(bE (t.mask + 1)).filterMap (fun x=>Option.map (·.1) (Option.map (x,·) (owner.getD x none)))=(bE (t.mask + 1)).filterMap some:=by refine yw fun x hx=>?_;obtain⟨i,hi⟩:=all x (eJ.mp hx);rw[(rF.mp hi).2];rfl
   rw[this];simp
  have l3:=congrArg eT l2;simp at l3;lia
 obtain⟨e,he,hN⟩:=emp;obtain⟨n,hn,en⟩:=aew hq (bits h % (t.mask + 1)) (bits h) (aaz h) he;obtain⟨j,s,f1,f2,f3,f4⟩:=abO (t:=t) rfl owner (turns t.mask) (bits h % (t.mask + 1)) (bits h) n (by unfold turns;lia) (by rw[en];exact hN);obtain⟨hj,hjn⟩:=aaA f3;have hp:=Ym (k:=k) g.sz (by rw[<- g.sz];exact hj) hjn;have stays:∀a,¬kJ owner a->¬kJ (owner.setIfInBounds j (some k)) a:=fun a ha z=>by
  by_cases c:a=j
  ·subst c;have:=aaA z;simp[ic,hj]at this
  ·apply ha;unfold kJ at z ⊢;simp only[kq]at z ⊢;rw[Array.getElem?_setIfInBounds_ne (dQ c)]at z;exact z
 refine⟨j,f1,⟨by simp[g.sz],?_,fun j' i' hm=>?_⟩⟩
 ·have:=(hp.map (fun(x:Nat×Nat)=>x.2)).trans (ij.cons k g.pm);refine this.trans ?_;rw[List.range_succ];exact ku (l₁:=[k]) (l₂:=bE k)
 ·rcases bP.mp (hp.mem_iff.mp hm) with z|z
  ·cases z;exact⟨h,hh,s,f2,fun s' hs'=>stays _ (f4 s' hs')⟩
  ·obtain⟨h',e1,s1,e2,e3⟩:=g.reach j' i' z;exact⟨h',e1,s1,e2,fun s' hs'=>stays _ (e3 s' hs')⟩
theorem aeB{mask i:Nat}(h:i<=mask):i + (runEnd mask i - i)<=mask:=by unfold runEnd;split <;> lia
theorem alD(t:bS)(p:Probe)(h:p.j + p.more<=t.mask):∀s,(tD t s p).j + (tD t s p).more<=t.mask:=by
 intro s
 induction s with
 |zero=>exact h
 |succ s ih =>
  rw[qC];unfold advance;split
  ·simp only;lia
  ·exact aeB (Nat.le_of_lt_succ (my _ (by lia)))
theorem aeC(t:bS)(h:Int)(s:Nat):pos t h s<=t.mask:=by have:=alD t (t.probeStart h) (aeB (Nat.le_of_lt_succ (my _ (by lia)))) s;unfold pos;lia
theorem aeD{t:bS}(pw:∃q,t.mask + 1=2 ^ q)(hs:List Int)(hn:hs.length<=t.mask):∀(rest pre:List Int) (owner:Array (Option Nat)),hs=pre++rest->LC t hs owner pre.length ->
  ∃Nt,rest.foldl (init:=some (owner,pre.length)) (fun acc h=>do
    let (owner,k) <- acc
    let j <- layClean.free t.mask owner (turns t.mask) (bits h % (t.mask + 1)) (bits h)
    pure (owner.setIfInBounds j (some k),k + 1))=some (Nt,hs.length)/\LC t hs Nt hs.length:=by
 intro rest
 induction rest with
 |nil =>
  intro pre owner e g;rw[hW]at e;subst e;exact⟨owner,rfl,g⟩
 |cons h rest ih =>
  intro pre owner e g;have hk:hs[pre.length]?=some h:=by rw[e];simp
  have hl:pre.length<=t.mask:=by rw[e]at hn;simp at hn;lia
  obtain⟨j,f1,g1⟩:=g.step pw hl hk;obtain⟨Nt,e1,g2⟩:=ih (pre++[h]) (owner.setIfInBounds j (some pre.length)) (by rw[e];simp) (by simpa using g1);refine⟨Nt,?_,g2⟩;rw[kQ];have:(some (owner,pre.length) >>= fun x=>match x with
    | (owner,k)=>layClean.free t.mask owner (turns t.mask) (bits h % (t.mask + 1)) (bits h) >>= fun j=>pure (owner.setIfInBounds j (some k),k + 1))=some (owner.setIfInBounds j (some pre.length),(pre++[h]).length):=by
   show(layClean.free t.mask owner (turns t.mask) (bits h % (t.mask + 1)) (bits h) >>= fun j=>pure (owner.setIfInBounds j (some pre.length),pre.length + 1))=_;rw[f1];simp
  exact(congrArg (fun o=>rest.foldl _ o) this).trans e1
theorem LC.start(t:bS)(hs:List Int):LC t hs (qo (t.mask + 1) none) 0:=by
 have e:gZ (t.mask + 1) (qo (t.mask + 1) none)=[]:=by
  unfold gZ;rw[List.filterMap_eq_nil_iff];intro j hj;have:(qo (t.mask + 1) (none:Option Nat)).getD j none=none:=by simp only[kq,Array.getElem?_replicate];split <;> rfl
  rw[this];rfl
 refine⟨by simp,by rw[e];exact .refl _,fun j i h=>?_⟩;rw[e]at h;cases h
theorem TQ{t:bS}(pw:∃q,t.mask + 1=2 ^ q)(hs:Array Int)(hn:hs.size<=t.mask):∃owner,layClean t.mask hs=some owner/\LC t hs.toList owner hs.size:=by obtain⟨owner,e,g⟩:=aeD pw hs.toList (by simpa using hn) hs.toList [] (qo (t.mask + 1) none) rfl (LC.start t _);refine⟨owner,?_,by simpa using g⟩;unfold layClean;rw[<- Array.foldl_toList];have e':=congrArg (Option.map (·.1)) e;exact e'
theorem Nu:∀(fuel size n:Nat),(∃q,size=2 ^ q)->8<=size->n < size * 2 ^ fuel->∃q,sizeAbove.go n fuel size=2 ^ q/\8<=sizeAbove.go n fuel size/\n < sizeAbove.go n fuel size/\(sizeAbove.go n fuel size=size∨sizeAbove.go n fuel size<=2 * n):=by
 intro fuel
 induction fuel with
 |zero=>intro size n ⟨q,hq⟩ h8 h;exact⟨q,hq,h8,by simpa[sizeAbove.go] using h,.inl rfl⟩
 |succ fuel ih =>
  intro size n ⟨q,hq⟩ h8 h;unfold sizeAbove.go;by_cases c:size<=n
  ·rw[if_pos c];obtain⟨q',a1,a2,a3,a4⟩:=ih (size * 2) n ⟨q + 1,by rw[hq,mx]⟩ (by lia) (by rw[qa,<- Nat.pow_succ'];exact h);refine⟨q',a1,a2,a3,.inr ?_⟩;rcases a4 with a4|a4
   ·rw[a4];lia
   ·exact a4
  ·rw[if_neg c];exact⟨q,hq,h8,by lia,.inl rfl⟩
theorem Nv(n:Nat)(hn:n < 2 ^ 60):(∃q,sizeAbove n - 1 + 1=2 ^ q)/\7<=sizeAbove n - 1/\n<=sizeAbove n - 1/\(sizeAbove n - 1=7∨sizeAbove n<=2 * n):=by
 obtain⟨q,a1,a2,a3,a4⟩:=Nu 64 8 n ⟨3,rfl⟩ (bo _) (tN hn (by decide));unfold sizeAbove;refine⟨⟨q,by rw[<- a1];lia⟩,by lia,by lia,?_⟩;rcases a4 with a4|a4
 ·left;lia
 ·right;exact a4
theorem abP{mask:Nat}(pw:∃q,mask + 1=2 ^ q)(m7:7<=mask)(finger moves:Nat)(led plain:Bool)(es:List (Int×aa))(hn:es.length<=mask) :
  ∃t' order L,laid mask finger moves led plain (es.map (·.1)).toArray=some (t',order)/\t'.mask=mask/\t'.led=led/\t'.plain=plain/\t'.moves=moves/\Good t' L/\order.filterMap (fun i=>es.toArray[i]?)=(L.map (·.2)).toArray/\(L.map (·.2)).Perm es:=by
 let t0:bS:={ mask,place:=#[],dummies:=#[],finger,led,moves,plain }
 obtain⟨owner,e1,g⟩:=TQ (t:=t0) pw (es.map (·.1)).toArray (by simpa using hn)
 let live:=gZ (mask + 1) owner
 let t1:bS:={ mask,place:=(live.map (·.1)).toArray,dummies:=#[],finger,led,moves,plain }
 have hi:∀j i,(j,i)∈live->∃e,es[i]?=some e:=fun j i h=>by obtain⟨hh,a1,_⟩:=g.reach j i h;simp only[cw,qk]at a1;obtain⟨e,a2,_⟩:=a1;exact⟨e,a2⟩
 let L:List tH:=live.filterMap fun x=>(es[x.2]?).map fun e=>(x.1,e)
 have hL1:∀l:List (Nat×Nat),(∀x∈l,∃e,es[x.2]?=some e)->(l.filterMap fun x=>(es[x.2]?).map fun e=>((x.1,e):tH)).map (·.1)=l.map (·.1):=by
  intro l
  induction l with
  |nil=>intro _;rfl
  |cons x l ih =>
   intro h;obtain⟨e,he⟩:=h x dA;rw[oa (by rw[he];rfl),cn,cn,ih fun y hy=>h y (dS _ hy)]
 have hL2:∀l:List (Nat×Nat),(l.filterMap fun x=>(es[x.2]?).map fun e=>((x.1,e):tH)).map (·.2)=(l.map (·.2)).filterMap fun i=>es[i]?:=by intro l;rw[uj,sP];refine yw fun x _=>?_;simp only[Function.comp];cases es[x.2]? <;> rfl
 have rg:∀l:List (Int×aa),(bE l.length).filterMap (fun i=>l[i]?)=l:=by
  intro l
  induction l with
  |nil=>rfl
  |cons a l ih =>
   rw[cy,mh,oa (by rfl),sP];congr 1
 have pmL:(L.map (·.2)).Perm es:=by
  show((live.filterMap fun x=>(es[x.2]?).map fun e=>((x.1,e):tH)).map (·.2)).Perm es;rw[hL2];have:=(g.pm.filterMap fun i=>es[i]?)
  have e2:(es.map (·.1)).toArray.size=es.length:=by simp
  rw[e2]at this;rw[rg]at this;exact this
 refine⟨t1,(live.map (·.2)).toArray,L,?_,rfl,rfl,rfl,rfl,⟨pw,m7,rfl,?_,?_,fun e he=>?_,fun e he=>?_⟩,?_,pmL⟩
 ·unfold laid;have e1':layClean mask (es.map (·.1)).toArray=some owner:=e1;rw[e1'];rfl
 ·show(live.map (·.1)).toArray=_;rw[show L.map (·.1)=live.map (·.1) from hL1 live fun x hx=>hi x.1 x.2 hx]
 ·rw[show L.map (·.1)=live.map (·.1) from hL1 live fun x hx=>hi x.1 x.2 hx];exact Io
 ·obtain⟨x,hx,h2⟩:=ja.mp he;obtain⟨e',_,rfl⟩:=qk.mp h2;have:=(rF (j:=x.1) (i:=x.2)).mp hx;show x.1<=mask;lia
 ·obtain⟨x,hx,h2⟩:=ja.mp he;obtain⟨e',h3,rfl⟩:=qk.mp h2;obtain⟨hh,a1,s,a2,a3⟩:=g.reach x.1 x.2 hx;simp only[cw,h3,og,Option.some.injEq]at a1;subst a1;have pm:∀s,pos t1 e'.1 s=pos t0 e'.1 s:=fun s=>TF (t:=t1) (t':=t0) rfl _ s;refine⟨s,by rw[pm];exact a2,fun s' hs=>?_⟩;have nn:=a3 s' hs;have hlt:pos t0 e'.1 s' < mask + 1:=Nat.lt_succ_of_le (aeC t0 e'.1 s');cases z:owner.getD (pos t0 e'.1 s') none with
  |none =>
   refine absurd ?_ nn;have hl:pos t0 e'.1 s' < owner.size:=by rw[g.sz];exact hlt
   simp only[kJ,ic,hl,dif_pos]at z ⊢;exact z
  |some i =>
   have hm:(pos t0 e'.1 s',i)∈live:=rF.mpr ⟨hlt,z⟩;obtain⟨e2,he2⟩:=hi _ _ hm;refine⟨(pos t0 e'.1 s',e2),ja.mpr ⟨_,hm,by rw[he2];rfl⟩,by rw[pm]⟩
 ·rw[show L.map (·.2)=(live.map (·.2)).filterMap fun i=>es[i]? from hL2 live];simp
end Tb
namespace Tb
open PySem PySem.Spec PySem.SetTable
abbrev TK(prog:aE)(w:az):=nK (cq prog w)
abbrev hK(prog:aE)(w:az)(ks:List Int):Int:=tupleKeyHash (cq prog w) ks
def alE(prog:aE)(w:az)(h:Heap)(e:tH)(ks:List Int):Prop:=∃b,e.2.2=.ref b/\dc (cq prog w) h ks b/\e.2.1=hK prog w ks
section
variable{prog:aE}{w:az}{A:aS}{E:aa->ae->Prop}{s:ae}
theorem Nx{n:Nat}{v:aa}(h:qq v=true):qr n v=pure false:=by
 cases v with
 |ref a=>simp[qq]at h
 |_=>first|rfl|(unfold qr;rfl)
theorem yC{ks:List Int}{b:ab}{Q:Bool->ae->Prop}(hk:dc (cq prog w) s.heap ks b)(h:Q false s):ah (ar prog w) A (qr 8 (.ref b)) Q E s:=by
 have hT:=hk.typeIs;obtain⟨o,items,n,ho,hc,hd,hi⟩:=hk;unfold qr;refine af (jn hT ?_);simp only[beq_self_eq_true,if_true];refine af (ax ?_);simp only[eR,br,if_false];refine af (mP ho hd ?_);refine af ?_;show ah _ _ (forIn items _ _) _ _ s;rw[<- Array.forIn_toList];refine uv _ (fun rest r s'=>r.1=none/\s'=s/\∀v∈rest,qq v=true) _ ?_ ?_ _ _ ⟨rfl,rfl,hi.byValue⟩
 ·rintro v rest r s' ⟨hr,rfl,hall⟩;rw[Nx (hall v dA)];refine af (ax ?_);simp only[br,if_false];exact ax ⟨rfl,rfl,fun u hu'=>hall u (dS _ hu')⟩
 ·rintro⟨r1,r2⟩ s' ⟨hr,rfl,_⟩;simp only at hr;subst hr;exact ax h
theorem ahZ{ks:List Int}{b:ab}{Q:Bool->ae->Prop}(hk:dc (cq prog w) s.heap ks b)(ys:List aa)(hy:∀y∈ys,∃k' b',y=.ref b'/\dc (cq prog w) s.heap k' b')(h:Q false s) :
  ah (ar prog w) A (searchCouldBeSeen (.ref b) ys) Q E s:=by
 unfold searchCouldBeSeen;refine af ?_;refine uv _ (fun rest r s'=>r.1=none/\s'=s/\∀y∈rest,∃k' b',y=.ref b'/\dc (cq prog w) s.heap k' b') _ ?_ ?_ _ _ ⟨rfl,rfl,hy⟩
 ·rintro v rest r s' ⟨hr,rfl,hall⟩;obtain⟨k',b',rfl,hk'⟩:=hall v dA;have aaB:∀y∈rest,∃k' b',y=aa.ref b'/\dc (cq prog w) s'.heap k' b':=fun y hy=>hall y (dS _ hy);dsimp only;by_cases c:b=b'
  ·subst c;simp only[beq_self_eq_true,Bool.true_or,if_true];exact ax ⟨rfl,rfl,aaB⟩
  ·have hc:(b == b')=false:=by simpa using c
   simp only[hc,qq,Bool.false_and,qs,br,if_false];refine af (wpAny_eqIsQuiet_tuple hk ?_);simp only[eR,br,if_false];refine af (wpAny_eqIsQuiet_tuple hk' ?_);simp only[eR,br,if_false];refine af (yC hk ?_);simp only[br,if_false];refine af (yC hk' ?_);simp only[br,if_false];exact ax ⟨rfl,rfl,aaB⟩
 ·rintro⟨r1,r2⟩ s' ⟨hr,rfl,_⟩;simp only at hr;subst hr;exact ax h
theorem TV{a:ab}{Q:Bool->ae->Prop}(h:Q true s):ah (ar prog w) A (isSame (.ref a) (.ref a)) Q E s:=by unfold isSame;simp only[beq_self_eq_true,if_true];exact ax h
end
section
variable{prog:aE}{w:az}{A:aS}{E:aa->ae->Prop}{s:ae}
abbrev gQ(L:List tH)(ep:Nat)(t:bS):Obj:={ cls:=.type "set",dict:=none,data:=.set (L.map (·.2)).toArray ep t }
theorem Good.fits{t:bS}{L:List tH}(g:Good t L)(hl:L.length<=t.mask):t.fits ((L.map (·.2)).toArray).size=true:=by
 unfold j4.fits;have h1:t.fill<=t.mask:=by unfold fill;rw[g.nd,g.sz];simpa using hl
 simp[g.sz,h1]
theorem Good.odd{t:bS}{L:List tH}(g:Good t L):t.gaveWay=false:=by
 obtain⟨k,hk⟩:=g.pw;have h7:=g.m7;unfold gaveWay;cases k with
 |zero=>simp at hk;lia
 |succ k =>
  have:t.mask % 2=1:=by rw[mx]at hk;lia
  simp[this]
theorem Yn{a b:ab}{ks:List Int}{L:List tH}{ep:Nat}{t:bS}{f:tH->List Int}{Q:SetFound->ae->Prop}(ho:s.heap.get? a=some (gQ L ep t))(g:Good t L)(hl:L.length<=t.mask)(hf:∀e∈L,alE prog w s.heap e (f e))
  (hb:dc (cq prog w) s.heap ks b) (hu:A.units < bu) (q1:(∃e∈L,f e=ks)->Q (.there none) s)
  (q2:∀j,j<=t.mask->¬Fo t j->(∃n,pos t (hK prog w ks) n=j/\∀n',n' < n->∃e'∈L,e'.1=pos t (hK prog w ks) n')->(∀e∈L,f e≠ks)->Q (.free j false) s) :
  ∀(fuel s0 sE:Nat) (Yo:Option Probe),s0<=sE->sE < s0 + fuel->sE < s0 + 10 * turns t.mask->¬Fo t (pos t (hK prog w ks) sE)->Yo.getD (t.probeStart (hK prog w ks))=tD t s0 (t.probeStart (hK prog w ks)) ->
   (∀n,n < s0->∃e∈L,e.1=pos t (hK prog w ks) n/\f e≠ks)->ah (ar prog w) A (qv a (.ref b) (hK prog w ks) true fuel Yo) Q E s:=by
 intro fuel
 induction fuel with
 |zero=>intro s0 sE _ h1 h2;lia
 |succ fuel ih =>
  intro s0 sE Yo h1 h2 h2' hE hst hpre;unfold qv;refine af (kv ho rfl (g.fits hl) ?_);simp only[g.odd,br,if_false];obtain⟨s2,a1,a2,a3,a4⟩:=aez g.rise g.nd (fun i=>((((L.map (·.2)).toArray)[i]?).map (·.1)).getD 0) (hK prog w ks) (10 * turns t.mask) s0 sE h1 h2' hE;have hh:∀i (hi:i < L.length),((((L.map (·.2)).toArray)[i]?).map (·.1)).getD 0=L[i].2.1:=fun i hi=>by simp[hi]
  have passed:∀n,n < s2->∃e∈L,e.1=pos t (hK prog w ks) n/\f e≠ks:=fun n hn=>by
   by_cases c:n < s0
   ·exact hpre n c
   ·obtain⟨i,hi,e1,e2⟩:=a3 n (by lia) hn;rw[g.sz]at hi;rw[g.at hi]at e1;rw[hh i hi]at e2;refine⟨L[i],eQ hi,e1,fun z=>e2 ?_⟩;obtain⟨b',_,_,e3⟩:=hf _ (eQ hi);rw[e3,z]
  rcases a4 with ⟨hne,hp⟩|⟨i,hi,e1,e2,hp⟩
  ·-- an empty slot
   have hp':t.probe (fun i=>((((L.map (·.2)).toArray)[i]?).map (·.1)).getD 0) (hK prog w ks) (Yo.getD (t.probeStart (hK prog w ks)))=some (.empty (pos t (hK prog w ks) s2) none):=by rw[hst];exact hp
   generalize hr:t.probe _ (hK prog w ks) (Yo.getD (t.probeStart (hK prog w ks)))=r;obtain rfl:r=_:=hr.symm.trans hp';simp only;refine ax (q2 _ (aeC t _ _) hne ⟨s2,rfl,fun n hn=>?_⟩ fun e he z=>?_)
   ·obtain⟨e,he,q,_⟩:=passed n hn;exact⟨e,he,q⟩
   ·obtain⟨b',_,_,e3⟩:=hf e he;obtain⟨n,r1,r2⟩:=g.reach e he;rw[e3,z]at r1 r2;by_cases c:n < s2
    ·obtain⟨e',he',q,ne⟩:=passed n c;have:=g.uniq he' he (q.trans r1);subst this;exact ne z
    ·by_cases d:s2 < n
     ·obtain⟨e',he',q⟩:=r2 s2 d;exact hne (g.live.mpr ⟨e',he',q⟩)
     ·obtain rfl:n=s2:=by lia
      exact hne (g.live.mpr ⟨e,he,r1.symm⟩)
  ·-- a key with the same hash
   rw[g.sz]at hi;have e1':=e1;rw[g.at hi]at e1;obtain⟨b',hv,hk',hx⟩:=hf _ (eQ hi);have hp':t.probe (fun i=>((((L.map (·.2)).toArray)[i]?).map (·.1)).getD 0) (hK prog w ks) (Yo.getD (t.probeStart (hK prog w ks)))=some (.candidate (pos t (hK prog w ks) s2) i (tD t (s2 + 1) (t.probeStart (hK prog w ks)))):=by rw[hst];exact hp
   generalize hr:t.probe _ (hK prog w ks) (Yo.getD (t.probeStart (hK prog w ks)))=r;obtain rfl:r=_:=hr.symm.trans hp';simp only;have ei:((L.map (·.2)).toArray)[i]?=some (L[i].2.1,.ref b'):=by
    have:((L.map (·.2)).toArray)[i]?=some L[i].2:=by simp[hi]
    rw[this,<- hv]
   have rest:ah (ar prog w) A (do
     let some (_,y):=((L.map (·.2)).toArray)[i]?|unsupported "internal:set-entry"
     let equal <- d3 [y] (eqBool y (.ref b))
     let (es',_,t') <- setState a
     if true && equal then return .there none
     let some same:=t'.sameMemory t.moves t.mask|unsupported "set.changed-during-lookup:is-the-new-block-at-the-old-address"
     let still <- match (if same then t'.slot (pos t (hK prog w ks) s2) else .empty) with
      | .live i'=>match es'[i']? with
       |some (_,y')=>do pure (if <- isSame y' y then some i' else none)
       |none=>pure none
      |_=>pure none
     match still with
     |none=>rule "set.search.anew";qv a (.ref b) (hK prog w ks) true fuel none
     |some i'=>if equal then return .there (some i') else qv a (.ref b) (hK prog w ks) true fuel (some (tD t (s2 + 1) (t.probeStart (hK prog w ks))))) Q E s:=by
    rw[ei];simp only;refine af (ez ((TK prog w).eqBool hu hk' hb ?_));refine af (kv ho rfl (g.fits hl) ?_);by_cases c:f L[i]=ks
    ·simp only[c,decide_true,Bool.and_self,if_true];exact ax (q1 ⟨_,eQ hi,c⟩)
    ·simp only[c,decide_false,n8,br,if_false];have hsm:t.sameMemory t.moves t.mask=some true:=by unfold sameMemory;simp
     rw[hsm];simp only[if_true];have hsl:t.slot (pos t (hK prog w ks) s2)=.live i:=by rw[<- e1'];exact KR g.rise (by rw[g.sz];exact hi)
     rw[hsl];simp only[ei];refine af (TV (af (ax ?_)));simp only[if_true];have hne:s2≠sE:=fun z=>hE (z▸g.live.mpr ⟨_,eQ hi,e1⟩);refine ih (s2 + 1) sE _ (by lia) (by lia) (by lia) hE rfl fun n hn=>?_;by_cases d:n=s2
     ·subst d;exact⟨_,eQ hi,e1,c⟩
     ·exact passed n (by lia)
   cases atD:t.led with
   |true=>simp only[eR,br,if_false];exact rest
   |false =>
    simp only[oj,if_true];refine af (ahZ hb _ (fun y hy=>?_) ?_)
    ·obtain⟨e,he,rfl⟩:=c8.mp hy;have he':e∈(L.map (·.2)):=by have:=Array.mem_toList_iff.mp he;have:=(Array.mem_filter.mp this).1;simpa using this
     obtain⟨e0,h0,rfl⟩:=c8.mp he';obtain⟨b2,hv2,hk2,_⟩:=hf e0 h0;exact⟨_,b2,hv2,hk2⟩
    ·simp only[br,if_false];exact rest
end
section
variable{prog:aE}{w:az}{A:aS}{E:aa->ae->Prop}{s:ae}
theorem TX{ks:List Int}{b:ab}{Q:Bool->ae->Prop}(hk:dc (cq prog w) s.heap ks b)(h:Q true s):ah (ar prog w) A (qA 8 (.ref b)) Q E s:=by
 have hT:=hk.typeIs;obtain⟨o,items,n,ho,hc,hd,hi⟩:=hk;have allI:∀v∈items.toList,∃i t,v=.int i t:=by
  clear hd;generalize items.toList=l at hi
  induction hi with
  |nil=>intro v hv;cases hv
  |cons h1 _ ih =>
   intro v hv;rcases bP.mp hv with rfl|hv
   ·cases v with
    |int i t=>exact⟨i,t,rfl⟩
    |_=>simp[cq,aa.isInt]at h1
   ·exact ih v hv
 unfold qA;refine af (mS hT F.slot_tuple_hash.lookup ?_);simp only;refine af (mP ho hd ?_);simp only[om];refine af ?_;rw[<- Array.forIn_toList];refine uv _ (fun rest r s'=>r.1=none/\s'=s/\∀v∈rest,∃i t,v=.int i t) _ ?_ ?_ _ _ ⟨rfl,rfl,allI⟩
 ·rintro v rest r s' ⟨hr,rfl,hall⟩;obtain⟨i,t,rfl⟩:=hall v dA;have:qA 7 (.int i t)=pure true:=by unfold qA;rfl
  rw[this];refine af (ax ?_);simp only[eR,br,if_false];exact ax ⟨rfl,rfl,fun u hu'=>hall u (dS _ hu')⟩
 ·rintro⟨r1,r2⟩ s' ⟨hr,rfl,_⟩;simp only at hr;subst hr;exact ax h
abbrev Ij(w:az):Bool:=w.params.followText "set-order"
def fQ(prog:aE)(w:az)(U:ab->List Int->Prop)(h:Heap)(a:ab)(bB:List (List Int)):Prop :=
 ∃(L:List tH) (ep:Nat) (t:bS) (f:Int×aa->List Int),h.get? a=some (gQ L ep t)/\Good t L/\L.length * 5 < t.mask * 3/\t.mask < 8000/\(t.plain=true/\t.led=!Ij w)/\(∀e∈L,alE prog w h e (f e.2))/\(L.map fun e=>f e.2).Perm bB/\bB.Nodup/\∀e∈L,∀b,e.2.2=.ref b->U b (f e.2)
theorem Fp{h h':Heap}{a:ab}{L:List tH}{ep:Nat}{t:bS}{ks:List Int}{b:ab}(ho:h.get? a=some (gQ L ep t))(hs:eK a h h')(hk:dc (cq prog w) h ks b):dc (cq prog w) h' ks b:=by
 obtain⟨o,items,n,h1,h2,h3,h4⟩:=hk;have ne:b≠a:=fun z=>by subst z;rw[ho]at h1;cases h1;cases h3
 exact⟨o,items,n,(hs.2 b ne).trans h1,h2,h3,h4⟩
theorem TY{a:ab}{L L':List tH}{ep:Nat}{t t':bS}{Q:Unit->ae->Prop}(ho:s.heap.get? a=some (gQ L ep t))(hz:L'.length<=1000000)(h:∀h',eK a s.heap h'->h'.get? a=some (gQ L' (ep + 1) t')->Q () { s with heap:=h' }) :
  ah (ar prog w) A (storeSet a (L'.map (·.2)).toArray t') Q E s:=by
 refine wpAny_storeSet_of ho rfl (h _ (mT s.heap a _) ?_) (by rw[d8];simp;lia);have hd:(gQ L ep t).data=.set (L.map (·.2)).toArray ep t:=rfl;have:=fE (Obj.putSet (L'.map (·.2)).toArray t') ho (by rw[putSet_of _ _ hd];rfl);rw[putSet_of _ _ hd]at this;exact this
theorem aeE{a:ab}{L:List tH}{ep:Nat}{t:bS}{Q:Unit->ae->Prop}(ho:s.heap.get? a=some (gQ L ep t))(g:Good t L)(hl:L.length<=t.mask)(h1:1<=L.length)(hz:L.length<=1000)(hp:t.plain=true)
  (h:∀h' L' t',eK a s.heap h'->h'.get? a=some (gQ L' (ep + 1) t')->Good t' L'->L'.length * 5 < t'.mask * 3->(t'.mask=7∨t'.mask + 1<=8 * L'.length)->(t'.plain=true/\t'.led=t.led)->(L'.map (·.2)).Perm (L.map (·.2))->Q () { s with heap:=h' }) :
  ah (ar prog w) A (setRelay a (grown L.length)) Q E s:=by
 have hg:grown L.length=L.length * 4:=by unfold grown;rw[if_neg (by lia)]
 rw[hg];obtain⟨s1,s2,s3,s4⟩:=Nv (L.length * 4) (by lia);unfold setRelay;refine af (kv ho rfl (g.fits hl) ?_);have hsz:¬sizeAbove (L.length * 4) > sizeLine:=by rw[d8];lia
 simp only[hsz,if_false];obtain⟨t',order,L',e1,e2,e3,e4,e5,g',e6,e7⟩:=abP s1 s2 t.finger (t.movedTo (sizeAbove (L.length * 4) - 1)) t.led t.plain (L.map (·.2)) (by simp;lia);have hlen:L'.length=L.length:=by have:=e7.length_eq;simpa using this
 have er:t.relaid (((L.map (·.2)).toArray).map (·.1)) (L.length * 4)=some (t',order):=by
  unfold relaid;have:((L.map (·.2)).toArray).map (·.1)=((L.map (·.2)).map (·.1)).toArray:=by simp
  rw[this];exact e1
 have main:ah (ar prog w) A (do
   let some (t,order):=t.relaid (((L.map (·.2)).toArray).map (·.1)) (L.length * 4)|unsupported "internal:set-table-without-room"
   let es':=order.filterMap (((L.map (·.2)).toArray)[·]?)
   if es'.size != ((L.map (·.2)).toArray).size then unsupported "internal:set-table-lost-an-element"
   pure (es',t)) (fun r s'=>ah (ar prog w) A (storeSet a r.1 r.2) Q E s') E s:=by
  rw[er];simp only;rw[e6];have:((L'.map (·.2)).toArray.size != ((L.map (·.2)).toArray).size)=false:=by simp[hlen]
  rw[this];simp only[br,if_false];refine ax ?_;refine TY (t':=t') ho (by lia) fun h' hs hg=>h h' L' t' hs hg g' (by rw[e2,hlen];lia) ?_ ⟨e4.trans hp,e3⟩ e7;rw[e2,hlen];rcases s4 with s4|s4
  ·exact .inl s4
  ·right;lia
 exact af main
end
section
variable{prog:aE}{w:az}{U:ab->List Int->Prop}{A:aS}{E:aa->ae->Prop}{s:ae}
theorem fQ.len{h:Heap}{a:ab}{bB:List (List Int)}(x:fQ prog w U h a bB):∃(L:List tH) (ep:Nat) (t:bS),h.get? a=some (gQ L ep t)/\L.length=bB.length:=by obtain⟨L,ep,t,f,ho,_,_,_,_,_,hp,_⟩:=x;exact⟨L,ep,t,ho,by have:=hp.length_eq;simpa using this⟩
theorem Ny{a b:ab}{ks:List Int}{bB:List (List Int)}{Q:Bool->ae->Prop}(hS:fQ prog w U s.heap a bB)(hn:bB.length < 1000)(hb:dc (cq prog w) s.heap ks b)(hU:U b ks)(hu:A.units < bu)
  (h:∀h' added,eK a s.heap h'->fQ prog w U h' a (if ks∈bB then bB else ks::bB)->Q added { s with heap:=h' }):ah (ar prog w) A (setAddHashed a (.ref b) (hK prog w ks)) Q E s:=by
 have hS0:=hS;obtain⟨L,ep,t,f,ho,g,room,mb,⟨pl,ld⟩,hf,hp,nd,uu⟩:=hS;have hlen:L.length=bB.length:=by have:=hp.length_eq;simpa using this
 have h7:=g.m7;have hl:L.length<=t.mask:=by lia
 have aso:t.mask < 8000:=mb;have self:∀added,(ks∈bB)->Q added s:=fun added hm=>by have:=h s.heap added (eK.refl a s.heap) (by rw[if_pos hm];exact hS0);cases s;exact this
 unfold setAddHashed;refine ez ?_;unfold setAddHashedIn;refine af (kv ho rfl (g.fits hl) ?_);have hby:byScan (.ref b) (L.map (·.2)).toArray=false:=by simp[byScan,aa.scannable]
 simp only[hby,br,if_false];obtain⟨e0,he0,hE0⟩:=Yk g.rise (by rw[g.sz];exact hl);obtain⟨k,hk⟩:=g.pw;obtain⟨sE,_,hsE,pE⟩:=ahW hk (hK prog w ks) 0 he0;refine af ?_;unfold setSearch;refine Yn (f:=fun e=>f e.2) (Q:=fun r s'=>ah (ar prog w) A (match r with
  | .free slot wasDummy=>_
  |_=>_) Q E s') ho g hl hf hb hu (fun hm=>?_) (fun j hj hnl hr hno=>?_) 100000 0 sE none (eB _) (by lia) (by unfold turns;lia) (by rw[pE];exact hE0) rfl (fun n hn=>absurd hn (by lia))
 ·obtain⟨e,he,q⟩:=hm;exact ax (self false (hp.mem_iff.mp (c8.mpr ⟨e,he,q⟩)))
 ·have hnk:¬ks∈bB:=fun z=>by obtain⟨e,he,q⟩:=c8.mp (hp.mem_iff.mpr z);exact hno e he q
  obtain⟨p1,g'⟩:=g.put (h:=hK prog w ks) (x:=.ref b) hj hnl hr;simp only;refine af (kv ho rfl (g.fits hl) ?_);have epl:(t.put j).1.plain=true:=by rw[Nr t g.nd];exact pl
  have emk:(t.put j).1.mask=t.mask:=by rw[Nr t g.nd]
  have eld:(t.put j).1.led=!Ij w:=by rw[Nr t g.nd];exact ld
  generalize hpt:t.put j=tp at p1 g' epl emk eld;obtain⟨t',p⟩:=tp;simp only at p1 g' epl emk eld ⊢;simp only[epl,if_true];refine af (TX hb ?_);simp only[if_true];have ein:insertAt (L.map (·.2)).toArray p (hK prog w ks,aa.ref b)=((L.take p++(j,hK prog w ks,aa.ref b)::L.drop p).map (·.2)).toArray:=by rw[wu _ _ (by simpa using p1)];simp[t9,t_]
  rw[ein];generalize hL':L.take p++(j,hK prog w ks,aa.ref b)::L.drop p=L' at g' ⊢;have hlen':L'.length=L.length + 1:=by rw[<- hL'];simp;lia
  have aeF:L'.Perm ((j,hK prog w ks,aa.ref b)::L):=by rw[<- hL'];refine(List.perm_middle).trans ?_;rw[mI]
  have hfj:∀e∈L,e.2≠(hK prog w ks,aa.ref b):=fun e he z=>by obtain⟨b',h1,h2,h3⟩:=hf e he;rw[z]at h1;cases h1;exact hno e he (h2.inj hb)
  let f':Int×aa->List Int:=fun x=>if x=(hK prog w ks,aa.ref b) then ks else f x
  have keys:∀{h':Heap},eK a s.heap h'->∀e∈L',alE prog w h' e (f' e.2):=fun {h'} hs e he=>by
   rcases bP.mp (aeF.mem_iff.mp he) with z|z
   ·subst z;exact⟨b,rfl,by simp only[f',if_true];exact Fp ho hs hb,by simp only[f',if_true]⟩
   ·obtain⟨b',h1,h2,h3⟩:=hf e z;have:f' e.2=f e.2:=by simp only[f'];rw[if_neg (hfj e z)]
    exact⟨b',h1,by rw[this];exact Fp ho hs h2,by rw[this];exact h3⟩
  have ajW:(L'.map fun e=>f' e.2).Perm (ks::bB):=by
   refine(aeF.map _).trans ?_;simp only[cn,f',if_true];refine ij.cons _ ?_;have:(L.map fun e=>if e.2=(hK prog w ks,aa.ref b) then ks else f e.2)=L.map fun e=>f e.2:=oo fun e he=>by rw[if_neg (hfj e he)]
   rw[this];exact hp
  have nd':(ks::bB).Nodup:=ka.mpr ⟨hnk,nd⟩;have uu':∀e∈L',∀c,e.2.2=.ref c->U c (f' e.2):=fun e he c ec=>by
   rcases bP.mp (aeF.mem_iff.mp he) with z|z
   ·subst z;cases ec;simp only[f',if_true];exact hU
   ·rw[show f' e.2=f e.2 by simp only[f'];rw[if_neg (hfj e z)]];exact uu e z c ec
  refine af (TY (t':=t') ho (by lia) fun h1 hs1 ho1=>?_);have hfill:t'.fill=L'.length:=by unfold fill;rw[g'.nd,g'.sz];simp
  have esz:(L.map (·.2)).toArray.size + 1=L'.length:=by simp[hlen']
  cases htf:t'.tooFull with
  |false =>
   simp only[oj,n8,br,if_false];refine ax (h h1 true hs1 ?_);rw[if_neg hnk];have hroom:L'.length * 5 < t'.mask * 3:=by unfold tooFull at htf;rw[hfill]at htf;simpa using htf
   exact⟨L',ep + 1,t',f',ho1,g',hroom,by rw[emk];exact mb,⟨epl,eld⟩,keys hs1,ajW,nd',uu'⟩
  |true =>
   simp only[oj,pT,if_true];rw[esz];refine af (aeE (s:={ s with heap:=h1 }) ho1 g' (by rw[emk];lia) (by lia) (by lia) epl fun h2 L2 t2 hs2 ho2 g2 r2 m2 p2 pm2=>?_);refine ax (h h2 true (hs1.trans hs2) ?_);rw[if_neg hnk];have hv:∀e∈L2,∃e1∈L',e1.2=e.2:=fun e he=>by have:e.2∈L'.map (·.2):=pm2.mem_iff.mp (c8.mpr ⟨e,he,rfl⟩);obtain⟨e1,h1,h2⟩:=c8.mp this;exact⟨e1,h1,h2⟩
   have hl2:L2.length=L'.length:=by have:=pm2.length_eq;simpa using this
   refine⟨L2,ep + 1 + 1,t2,f',ho2,g2,r2,(by rcases m2 with z|z <;> lia),⟨p2.1,p2.2.trans eld⟩,fun e he=>?_,?_,nd',fun e he c ec=>let ⟨e1,h1,q⟩:=hv e he;by rw[<- q];exact uu' e1 h1 c (by rw[q];exact ec)⟩
   ·obtain⟨e1,he1,q⟩:=hv e he;obtain⟨b',k1,k2,k3⟩:=keys (hs1.trans hs2) e1 he1;rw[q]at k1 k2 k3;exact⟨b',k1,k2,k3⟩
   ·have:=(pm2.map f')
    rw[fg,fg]at this;exact this.trans ajW
theorem abQ{a b:ab}{ks:List Int}{bB:List (List Int)}{Q:Bool->ae->Prop}(hS:fQ prog w U s.heap a bB)(hn:bB.length < 1000)(hb:dc (cq prog w) s.heap ks b)(hU:U b ks)(hu:A.units < bu)
  (h:∀h' added tk,eK a s.heap h'->fQ prog w U h' a (if ks∈bB then bB else ks::bB)->Q added { s with heap:=h',toks:=s.toks + tk }):ah (ar prog w) A (setAdd a (.ref b)) Q E s:=by
 unfold setAdd;refine ez (af (wpAny_pyHash_tuple hu hb ?_));exact Ny (s:={ s with toks:=s.toks + (ks.length + 1) }) hS hn hb hU hu fun h' added hs hS'=>h h' added _ hs hS'
end
def ins(acc:List (List Int))(k:List Int):List (List Int):=if k∈acc then acc else k::acc
def cj(l:List (List Int)):List (List Int):=l.foldl ins []
theorem aia(acc:List (List Int))(k:List Int):(ins acc k).length<=acc.length + 1:=by unfold ins;split <;> simp
theorem wU(l:List (List Int)):(cj l).length<=l.length:=by
 unfold cj;have:∀(l acc:List (List Int)),(l.foldl ins acc).length<=acc.length + l.length:=by
  intro l
  induction l with
  |nil=>intro acc;simp
  |cons a l ih=>intro acc;rw[kQ];have:=ih (ins acc a);have:=aia acc a;simp only[cy];lia
 simpa using this l []
theorem alF(acc:List (List Int))(k:List Int):acc.length<=(ins acc k).length:=by unfold ins;split <;> simp
theorem Cd(l:List (List Int))(k:List Int):cj (l++[k])=ins (cj l) k:=by unfold cj;rw[List.foldl_append];rfl
theorem KY(l:List (List Int)):∀m,(cj l).length<=(cj (l++m)).length
 | []=>by simp
 |x::m=>by have:=KY (l++[x]) m;rw[h_,List.singleton_append]at this;exact cz (by rw[Cd];exact alF _ _) this
section
variable{prog:aE}{w:az}{U:ab->List Int->Prop}{A:aS}{R:Result->ae->Prop}{I:ab}{fp wr:List ab}{G:Array lr->Array lr->Prop}{n:Nat}{P:Nat->aa->Prop}{St:Nat->ae->Prop}
theorem fQ.moved{h h':Heap}{a:ab}{bB:List (List Int)}(x:fQ prog w U h a bB)(k:∀b o,(b=a∨∃ks,dc (cq prog w) h ks b)->h.get? b=some o->h'.get? b=some o):fQ prog w U h' a bB:=by obtain⟨L,ep,t,f,ho,g,room,mb,pl,hf,hp,nd⟩:=x;refine⟨L,ep,t,f,k _ _ (.inl rfl) ho,g,room,mb,pl,fun e he=>?_,hp,nd⟩;obtain⟨b,h1,h2,h3⟩:=hf e he;have h2':=h2;obtain⟨o,items,m,q1,q2,q3,q4⟩:=h2;exact⟨b,h1,⟨o,items,m,k _ _ (.inr ⟨_,h2'⟩) q1,q2,q3,q4⟩,h3⟩
theorem aeG{h:Heap}{b c:ab}{ks:List Int}{o:Obj}(hk:dc (cq prog w) h ks b)(hc:h.get? c=some o)(hd:∀xs m,o.data≠.seq xs m):b≠c:=fun z=>by subst z;obtain⟨o',items,m,q1,q2,q3,q4⟩:=hk;rw[hc]at q1;cases q1;exact hd _ _ q3
theorem ajX(W:WalksS prog w A.in1 I fp wr G n P St)(D:ab)(hDf:D∉fp)(hu:A.in1.units < bu)(ks:Nat->List Int)(hn:(cj ((bE n).map ks)).length < 1000)(hwt:∀i s,St i s->∀b∈wr,∀o,s.heap.get? b=some o->∀xs m,o.data≠.seq xs m) :
  ∀(k i:Nat) (s:ae),n - i=k->i<=n->St i s->(∀j v,P j v->∃b,v=.ref b/\b∉wr/\dc (cq prog w) s.heap (ks j) b/\U b (ks j)) ->
   fQ prog w U s.heap D (cj ((bE i).map ks)) ->
   (∀s',Moved (D::wr) G s s'->fQ prog w U s'.heap D (cj ((bE n).map ks))->R (.ok (.ret .none)) s') ->
   f7 (ar prog w) A (.builtin "set.update.loop" ⟨[.ref D,.ref I],[]⟩) R s:=by
 have hDw:D∉wr:=fun h=>hDf (W.sub _ h);have sub:∀b∈wr,b∈D::wr:=fun b hb=>dS _ hb;intro k
 induction k with
 |zero =>
  intro i s hk hi st hP hS hR;have hw:=hwt i s st;obtain rfl:i=n:=by lia
  refine ik PyProof.Rows.F.entry_set_update_loop ?_;rw[i3 uA _];show ah _ A.in1 (d7 (.ref I) >>= _) _ _ s;refine af (W.done s _ _ st fun s1 hm=>?_);show ah _ A.in1 (ret aa.none) _ _ s1;refine ax (hR s1 (hm.mono sub) (hS.moved fun b o hb e=>hm.heap b o (fun hbw=>?_) e));rcases hb with rfl|⟨k',hk'⟩
  ·exact hDw hbw
  ·exact aeG hk' e (hw b hbw o e) rfl
 |succ k ih =>
  intro i s hk hi st hP hS hR;have hw:=hwt i s st;refine ik PyProof.Rows.F.entry_set_update_loop ?_;rw[i3 uA _];show ah _ A.in1 (d7 (.ref I) >>= _) _ _ s;refine af (W.item i s _ _ (by lia) st fun v s1 hv st1 hm=>?_);have nw:∀b o,(b=D∨∃k',dc (cq prog w) s.heap k' b)->s.heap.get? b=some o->b∉wr:=fun b o hb e hbw=>by
   rcases hb with rfl|⟨k',hk'⟩
   ·exact hDw hbw
   ·exact aeG hk' e (hw b hbw o e) rfl
  have key1:∀{b:ab}{k':List Int},dc (cq prog w) s.heap k' b->dc (cq prog w) s1.heap k' b:=fun {b k'} hk'=>by have hk0:=hk';obtain⟨o,items,m,q1,q2,q3,q4⟩:=hk';exact⟨o,items,m,hm.heap b o (nw b o (.inr ⟨_,hk0⟩) q1) q1,q2,q3,q4⟩
  have hS1:fQ prog w U s1.heap D (cj ((bE i).map ks)):=hS.moved fun b o hb e=>hm.heap b o (nw b o hb e) e;obtain⟨b,rfl,hbw,hbk,hbU⟩:=hP i v hv;show ah _ A.in1 (d3 [aa.ref b] (setAdd D (.ref b)) >>= _) _ _ s1;have hlen:(cj ((bE i).map ks)).length < 1000:=by
   have e:bE n=bE i++(bE (n - i)).map (i + ·):=by rw[<- List.range_add];congr 1;lia
   rw[e,mN]at hn;exact j0 (KY _ _) hn
  refine af (ez (abQ hS1 hlen (key1 hbk) hbU hu fun h2 added tk hs2 hS2=>?_));have hS2':fQ prog w U h2 D (cj ((bE (i + 1)).map ks)):=by rw[List.range_succ,mN,List.map_singleton,Cd];exact hS2
  obtain⟨L1,ep1,t1,ho1,_⟩:=hS1.len;refine ax ⟨gN uA _,ih (i + 1) _ (by lia) (by lia) (W.frame _ s1 _ _ st1 (uB _ _) fun b hb o e=>?_) (fun j v hv=>?_) hS2' fun s3 hm3 hS3=>?_⟩
  ·rw[hs2.2 b (fun z:b=D=>hDf (z▸hb))];exact e
  ·obtain⟨b,rfl,q1,q2,q3⟩:=hP j v hv;exact⟨b,rfl,q1,Fp ho1 hs2 (key1 q2),q3⟩
  ·refine hR s3 (Moved.trans W.gtrans ((hm.mono sub).then_heap (uB _ _) fun b o hb e=>?_) hm3) hS3;rw[hs2.2 b (fun z:b=D=>hb (by rw[z];exact dA))];exact e
end
section
variable{prog:aE}{w:az}{A:aS}{E:aa->ae->Prop}{s:ae}
abbrev fU(led:Bool):Obj:={ cls:=.type "set",dict:=none,data:=.set #[] 0 (.fresh 0 0 led) }
theorem aeH(v:aa){Q₁:aa->ae->Prop}(h:Q₁ (.ref s.heap.objs.size) { s with heap:=s.heap.push (fU (!Ij w)) }) :
  f7 (ar prog w) A (.call (.builtin "set.__new__") ⟨[.type "set",v],[]⟩) (wants Q₁ E) s:=by
 refine codeAny_of_tree ?_;show ah _ A.in1 (do { checkBuiltinCall "set.__new__" ⟨[.type "set",v],[]⟩;again (.builtin "set.__new__" ⟨[.type "set",v],[]⟩) }) _ _ s;refine af (i4 (F.newCall_set_1 v) (ax ⟨gN F.plain_set_new _,ik F.entry_set_new ?_⟩));rw[i3 F.plain_set_new _];have e:=sub_set_self;obtain⟨hp,g,d,tk,os⟩:=s;unfold Builtin.«set.__new__» cv.Frozenset.newClass;dsimp only
 wp_walk
 refine oq (ax ?_);simp only[newObj];exact af (wpAny_alloc (ax (ax h)))
theorem Ua{v:aa}{Q:aa->ae->Prop}
  (hup:ah (ar prog w) A.in1.in1 (m6 "set.__init__" s.heap.objs.size v) (fun _ s2=>Q (.ref s.heap.objs.size) s2) E { s with heap:=s.heap.push (fU (!Ij w)) }) :
  ah (ar prog w) A (call (.type "set") [v]) Q E s:=by
 obtain⟨cc,tl,hmro⟩:=kx.mro;have hmade:=kx.made;have hsub:=kx.sub;have nt:=kx.notType;have cc:=kx.canCreate;have tc:=F.typeCall_set_1 v;refine p9 (codeAny_of_tree ?_);show ah _ _ (callAny (.type "set") _) _ _ _;refine ax ⟨Code.quiet_builtin _ (by decide+kernel),ik F.entry_type_call ?_⟩;rw[aS.under_plain (weight_type_call_type "set" [v] []) rfl]
 repeat (any_goals (first|assumption|wp_step))
 refine me (aeH v (E:=E) (Q₁:=fun obj s1=>obj=.ref s.heap.objs.size/\s1={ s with heap:=s.heap.push (fU (!Ij w)) }) ⟨rfl,rfl⟩) fun r s1 hr=>?_;cases r with
 |error e=>exact hr
 |ok fl =>
  cases fl with
  |ret obj =>
   obtain⟨e1,e2⟩:=hr;subst e1 e2;have hget:(s.heap.push (fU (!Ij w))).get? s.heap.objs.size=some (fU (!Ij w)):=cS _ rfl;have hty:uC { s with heap:=s.heap.push (fU (!Ij w)) } (.ref s.heap.objs.size) "set":=⟨_,hget,rfl⟩
   have li:=kx.init.lookup;have bi:=kx.init.bind (.ref s.heap.objs.size)
   repeat (any_goals (first|assumption|wp_step))
   refine me (codeAny_call_builtin (R:=wants (fun r s2=>r=.none/\Q (.ref s.heap.objs.size) s2) E) kx.init.plain F.entry_set_init (check_set_init_1 hty ?_)) fun r2 s2 hr2=>?_
   ·unfold Builtin.«set.__init__» noKeywords;have hu:=hup;generalize hU:m6=U at hu ⊢
    wp_walk
    exact d6 hu (fun _ s2 hq=>ax ⟨rfl,hq⟩) fun _ _ x=>x
   ·cases r2 with
    |error e=>exact hr2
    |ok fl2 =>
     cases fl2 with
     |ret r =>
      obtain⟨rfl,hq⟩:=hr2
      repeat (any_goals (first|assumption|wp_step))
     |_=>exact hr2.elim
  |_=>exact hr.elim
end
namespace F
theorem sub_tuple_set:isSubtype (.type "tuple") (.type "set")=pure false:=by rw[i5];kernel_rfl
theorem sub_tuple_frozenset:isSubtype (.type "tuple") (.type "frozenset")=pure false:=by rw[i5];kernel_rfl
end F
section
variable{prog:aE}{w:az}{U:ab->List Int->Prop}{A:aS}{E:aa->ae->Prop}{s:ae}
theorem aib{h:Heap}{D:ab}(ho:h.get? D=some (fU (!Ij w))):fQ prog w U h D []:=by
 have no:∀(e:tH) (p:Prop),e∈([]:List tH)->p:=fun e p he=>by cases he
 exact⟨[],0,.fresh 0 0 (!Ij w),fun _=>[],ho,⟨⟨3,rfl⟩,bo 7,rfl,rfl,mf.nil,fun e he=>no e _ he,fun e he=>no e _ he⟩,(show 0 < 21 by decide),(show(7:Nat) < 8000 by decide),⟨rfl,rfl⟩,fun e he=>no e _ he,ij.refl _,uS,fun e he=>no e _ he⟩
theorem Ub{l D:ab}{items:Array aa}{bB:List (List Int)}{Q:Unit->ae->Prop}(hh:A.handled=none)(hu:A.units + 2 < bu)(hl:s.heap.IsList l items)(hS:fQ prog w U s.heap D [])(hlD:l≠D)(hz:(cj bB).length < 1000)
  (hk:∀(i:Nat) v,items[i]?=some v->∃b,v=.ref b/\dc (cq prog w) s.heap (bB.getD i []) b/\U b (bB.getD i [])) (hlen:bB.length=items.size)
  (h:∀h' tk,(∀b o,b≠D->s.heap.get? b=some o->h'.get? b=some o)->fQ prog w U h' D (cj bB)->Q () { s with heap:=h',toks:=tk }) :
  ah (ar prog w) A (m6 "set.__init__" D (.ref l)) Q E s:=by
 have hl0:=hl;have er:(bE items.size).map (fun i=>bB.getD i [])=bB:=by
  rw[<- hlen];apply kT
  ·simp
  ·intro i h1 h2;simp at h1;simp[ot,h1]
 obtain⟨ol,hol,hcl,nl,hdl⟩:=hl;obtain⟨oc,od,odt,osl⟩:=ol;simp only at hcl hdl;subst hcl hdl;have e1:=F.sub_list_set;have e2:=F.sub_list_frozenset;have e3:(aa.type "list" == aa.type "dict")=false:=by decide
 unfold m6;generalize hPI:j8=PI
 wp_walk
 subst hPI;refine o_ hl0 ?_;refine af (qB ?_);have hlt:l < s.heap.objs.size:=bq hol;obtain⟨L0,ep0,t0,hD0,_⟩:=hS.len;have uo:D < s.heap.objs.size:=bq hD0;have push:∀b o,s.heap.get? b=some o->(s.heap.push { cls:=.type "list_iterator",data:=.fields #[.ref l,.int 0 0] }).get? b=some o:=fun b o e=>cb _ e;have W:=(n_ (prog:=prog) (w:=w) (A:=A.in1) (by simpa using hh) s.heap.objs.size l (b_ hlt) items).toS;refine ajX W D (fun z=>?_) (by show A.units + 1 < bu;lia) (fun i=>bB.getD i []) (by rw[er];exact hz) (fun i s' st b hb o e xs m=>?_) (items.size - 0) 0 _ rfl (eB _) ⟨⟨_,cS _ rfl,rfl,rfl⟩,hl0.push _⟩ (fun j v hv=>?_) (hS.moved fun b o _ e=>push b o e) fun s' hm hS'=>?_
 ·simp only[bP,gS,or_false]at z;rcases z with z|z
  ·exact absurd z (b_ uo)
  ·exact hlD z.symm
 ·obtain rfl:b=s.heap.objs.size:=by simpa using hb
  obtain⟨⟨o',h1,h2,h3⟩,_⟩:=st;rw[e]at h1;cases h1;rw[h3];intro z;cases z
 ·obtain⟨b,rfl,hb,hU⟩:=hk j v hv;have hb0:=hb;obtain⟨o,its,m,q1,q2,q3,q4⟩:=hb;refine⟨b,rfl,?_,⟨o,its,m,push _ _ q1,q2,q3,q4⟩,hU⟩;simp only[bP,gS,or_false];exact b_ (bq q1)
 ·obtain⟨h',g',d',tk',os'⟩:=s';have eg:g'=s.gens:=hm.gens;have ed:d'=s.drawn:=hm.drawn;have eo:os'=s.os:=hm.os;subst eg ed eo;rw[er]at hS';refine ax (h h' tk' (fun b o hb e=>hm.heap b o ?_ (push b o e)) hS');simp only[bP,gS,or_false,not_or];exact⟨hb,b_ (bq e)⟩
theorem Nz{l D:ab}{items:Array aa}{bB:List (List Int)}{Q:Unit->ae->Prop}(hh:A.handled=none)(hu:A.units + 2 < bu)(hl:s.heap.IsTuple l items)(hS:fQ prog w U s.heap D [])(hlD:l≠D)(hz:(cj bB).length < 1000)
  (hk:∀(i:Nat) v,items[i]?=some v->∃b,v=.ref b/\dc (cq prog w) s.heap (bB.getD i []) b/\U b (bB.getD i [])) (hlen:bB.length=items.size)
  (h:∀h' tk,(∀b o,b≠D->s.heap.get? b=some o->h'.get? b=some o)->fQ prog w U h' D (cj bB)->Q () { s with heap:=h',toks:=tk }) :
  ah (ar prog w) A (m6 "set.__init__" D (.ref l)) Q E s:=by
 have hl0:=hl;have er:(bE items.size).map (fun i=>bB.getD i [])=bB:=by
  rw[<- hlen];apply kT
  ·simp
  ·intro i h1 h2;simp at h1;simp[ot,h1]
 obtain⟨ol,hol,hcl,nl,hdl⟩:=hl;obtain⟨oc,od,odt,osl⟩:=ol;simp only at hcl hdl;subst hcl hdl;have e1:=F.sub_tuple_set;have e2:=F.sub_tuple_frozenset;have e3:(aa.type "tuple" == aa.type "dict")=false:=by decide
 unfold m6;generalize hPI:j8=PI
 wp_walk
 subst hPI;refine wpAny_pyIter_tuple hl0 ?_;refine af (qB ?_);have hlt:l < s.heap.objs.size:=bq hol;obtain⟨L0,ep0,t0,hD0,_⟩:=hS.len;have uo:D < s.heap.objs.size:=bq hD0;have push:∀b o,s.heap.get? b=some o->(s.heap.push { cls:=.type "tuple_iterator",data:=.fields #[.ref l,.int 0 0] }).get? b=some o:=fun b o e=>cb _ e;have W:=(Walks.tuple (prog:=prog) (w:=w) (A:=A.in1) (by simpa using hh) s.heap.objs.size l (b_ hlt) items).toS;refine ajX W D (fun z=>?_) (by show A.units + 1 < bu;lia) (fun i=>bB.getD i []) (by rw[er];exact hz) (fun i s' st b hb o e xs m=>?_) (items.size - 0) 0 _ rfl (eB _) ⟨⟨_,cS _ rfl,rfl,rfl⟩,hl0.push _⟩ (fun j v hv=>?_) (hS.moved fun b o _ e=>push b o e) fun s' hm hS'=>?_
 ·simp only[bP,gS,or_false]at z;rcases z with z|z
  ·exact absurd z (b_ uo)
  ·exact hlD z.symm
 ·obtain rfl:b=s.heap.objs.size:=by simpa using hb
  obtain⟨⟨o',h1,h2,h3⟩,_⟩:=st;rw[e]at h1;cases h1;rw[h3];intro z;cases z
 ·obtain⟨b,rfl,hb,hU⟩:=hk j v hv;have hb0:=hb;obtain⟨o,its,m,q1,q2,q3,q4⟩:=hb;refine⟨b,rfl,?_,⟨o,its,m,push _ _ q1,q2,q3,q4⟩,hU⟩;simp only[bP,gS,or_false];exact b_ (bq q1)
 ·obtain⟨h',g',d',tk',os'⟩:=s';have eg:g'=s.gens:=hm.gens;have ed:d'=s.drawn:=hm.drawn;have eo:os'=s.os:=hm.os;subst eg ed eo;rw[er]at hS';refine ax (h h' tk' (fun b o hb e=>hm.heap b o ?_ (push b o e)) hS');simp only[bP,gS,or_false,not_or];exact⟨hb,b_ (bq e)⟩
theorem NK{l:ab}{items:Array aa}{bB:List (List Int)}{Q:aa->ae->Prop}(hh:A.handled=none)(hu:A.units + 8 < bu)(hl:s.heap.IsList l items∨s.heap.IsTuple l items)(hz:(cj bB).length < 1000)
  (hk:∀(i:Nat) v,items[i]?=some v->∃b,v=.ref b/\dc (cq prog w) s.heap (bB.getD i []) b/\U b (bB.getD i [])) (hlen:bB.length=items.size)
  (h:∀h' tk,(∀b o,s.heap.get? b=some o->h'.get? b=some o)->fQ prog w U h' s.heap.objs.size (cj bB)->Q (.ref s.heap.objs.size) { s with heap:=h',toks:=tk }) :
  ah (ar prog w) A (call (.type "set") [.ref l]) Q E s:=by
 refine Ua ?_;have push:∀b o,s.heap.get? b=some o->(s.heap.push (fU (!Ij w))).get? b=some o:=fun b o e=>cb _ e;have hlt:l < s.heap.objs.size:=by rcases hl with ⟨o,e,_⟩|⟨o,e,_⟩ <;> exact bq e
 have hk':∀(i:Nat) v,items[i]?=some v->∃b,v=.ref b/\dc (cq prog w) (s.heap.push (fU (!Ij w))) (bB.getD i []) b/\U b (bB.getD i []):=fun i v hv=>by obtain⟨b,e,⟨o,its,m,q1,q2,q3,q4⟩,hU⟩:=hk i v hv;exact⟨b,e,⟨o,its,m,push _ _ q1,q2,q3,q4⟩,hU⟩
 have hS:fQ prog w U (s.heap.push (fU (!Ij w))) s.heap.objs.size []:=aib (cS _ rfl);have gB:∀h' tk,(∀b o,b≠s.heap.objs.size->(s.heap.push (fU (!Ij w))).get? b=some o->h'.get? b=some o)->fQ prog w U h' s.heap.objs.size (cj bB)->Q (.ref s.heap.objs.size) { s with heap:=h',toks:=tk }:=fun h' tk k hS' =>
  h h' tk (fun b o e=>k b o (b_ (bq e)) (push b o e)) hS'
 rcases hl with hl|hl
 ·exact Ub (s:={ s with heap:=s.heap.push (fU (!Ij w)) }) (by simpa using hh) (by show A.units + 1 + 1 + 2 < bu;lia) (hl.push _) hS (b_ hlt) hz hk' hlen gB
 ·exact Nz (s:={ s with heap:=s.heap.push (fU (!Ij w)) }) (by simpa using hh) (by show A.units + 1 + 1 + 2 < bu;lia) (hl.push _) hS (b_ hlt) hz hk' hlen gB
end
end Tb
namespace Tb
open PySem PySem.Spec PySem.SetTable
theorem Fq{α:Type}:∀{l:List α}{n:Nat}(h:n < l.length),(l[n]::l.eraseIdx n).Perm l
 |a::l,0,_=>by simp
 |a::l,n + 1,h=>by have ih:=Fq (l:=l) (n:=n) (by simpa using h);simp only[List.getElem_cons_succ,qE];exact(ij.swap ..).trans (ih.cons a)
theorem aic{α:Type}(next:Nat->Nat):∀(fuel k:Nat) (left:List α) (out:Array α),left.length<=fuel->(u0 next fuel k left out).toList.Perm (out.toList++left):=by
 intro fuel
 induction fuel with
 |zero =>
  intro k left out h;obtain rfl:left=[]:=ox.mp (by lia);unfold u0;simp
 |succ fuel ih =>
  intro k left out h;unfold u0;cases left with
  |nil=>simp
  |cons a l =>
   have hlt:next k % (a::l).length < (a::l).length:=my _ (by simp);rw[d_ hlt];simp only;have hlen:((a::l).eraseIdx (next k % (a::l).length)).length<=fuel:=by rw[List.length_eraseIdx_of_lt hlt];simp only[cy]at h ⊢;lia
   refine(ih (k + 1) _ _ hlen).trans ?_;rw[qi,h_];exact oy _ (Fq hlt)
theorem abR{α:Type}(next:Nat->Nat)(xs:Array α):(u4 next xs).toList.Perm xs.toList:=by unfold u4;simpa using aic next xs.size 0 xs.toList #[] (by simp)
def pY(w:az)(D:ab)(ep:Nat)(L:List tH):Array (Int×aa):=if Ij w=true then u4 (w.params.setOrder D ep) (L.map (·.2)).toArray else (L.map (·.2)).toArray
theorem KZ(w:az)(D:ab)(ep:Nat)(L:List tH):(pY w D ep L).toList.Perm (L.map (·.2)):=by
 unfold pY;split
 ·simpa using abR (w.params.setOrder D ep) (L.map (·.2)).toArray
 ·exact .refl _
theorem vH(w:az)(D:ab)(ep:Nat)(L:List tH):(pY w D ep L).size=L.length:=by have:=(KZ w D ep L).length_eq;simpa using this
structure Lies (t:bS)(L:List tH):Prop where
 pl:t.place=(L.map (·.1)).toArray
 so:(L.map (·.1)).Pairwise (· < ·)
 fl:t.fill<=t.mask
theorem Lies.sz{t:bS}{L:List tH}(g:Lies t L):t.place.size=L.length:=by rw[g.pl];simp
theorem Lies.at{t:bS}{L:List tH}(g:Lies t L){i:Nat}(hi:i < L.length):t.place.getD i 0=L[i].1:=by rw[g.pl];simp[ic,hi]
theorem Lies.rise{t:bS}{L:List tH}(g:Lies t L):Fl t.place:=by intro a b hab hb;rw[g.sz]at hb;rw[g.at (show a < L.length by lia),g.at hb];have:=(ko.mp g.so) a b (by simpa using(show a < L.length by lia)) (by simpa using hb) hab;simpa using this
theorem Lies.fits{t:bS}{L:List tH}(g:Lies t L)(hl:L.length<=t.mask):t.fits ((L.map (·.2)).toArray).size=true:=by unfold j4.fits;have h1:=g.fl;simp[g.sz,h1]
theorem Good.lies{t:bS}{L:List tH}(g:Good t L)(hl:L.length<=t.mask):Lies t L:=⟨g.pl,g.so,by unfold fill;rw[g.nd,g.sz];simpa using hl⟩
def iW(w:az)(t:bS)(i:Nat):Nat:=if Ij w=true then 0 else if i=0 then 0 else t.place.getD (i - 1) 0 + 1
section
variable{prog:aE}{w:az}{A:aS}{E:aa->ae->Prop}{s:ae}
theorem aaC{D:ab}{L:List tH}{ep:Nat}{t:bS}{i:Nat}{Q:Option (aa×Nat)->ae->Prop}(ho:s.heap.get? D=some (gQ L ep t))(g:Lies t L)(hl:L.length<=t.mask)(pl:t.plain=true)(ld:t.led=!Ij w)(hi:i<=L.length)
  (h:Q (((pY w D ep L)[i]?).map fun e=>(e.2,iW w t (i + 1))) s):ah (ar prog w) A (setNext D (iW w t i) i ep) Q E s:=by
 unfold setNext;refine af (kv ho rfl (g.fits hl) ?_);unfold setsByText;refine af (af (oq (ax ?_)));cases hb:Ij w with
 |true =>
  have hb':((ar prog w).w.params.followText "set-order")=true:=hb;simp only[hb',if_true,bne_self_eq_false,br,if_false];unfold setWalk setsByText;refine af (af (kv ho rfl (g.fits hl) ?_));refine af (af (oq (ax ?_)));simp only[hb',if_true];refine af (oq (ax (ax ?_)));unfold pY iW at h;simp only[hb,if_true]at h;simp only[iW,hb,if_true];exact h
 |false =>
  have hb':((ar prog w).w.params.followText "set-order")=false:=hb;simp only[hb',br,if_false];rw[hb]at ld;have hbl:below t.place (iW w t i)=i:=by
   unfold iW;rw[hb];simp only[br,if_false];obtain⟨b1,b2,b3⟩:=wR g.rise (if i=0 then 0 else t.place.getD (i - 1) 0 + 1);by_cases c:i=0
   ·subst c;simp only[if_true]at b2 ⊢;cases hz:below t.place 0 with
    |zero=>rfl
    |succ n=>have:=b2 0 (by lia);lia
   ·rw[if_neg c]at b1 b2 b3 ⊢;have him:i - 1 < t.place.size:=by rw[g.sz];lia
    have c1:¬below t.place (t.place.getD (i - 1) 0 + 1) < i:=fun z=>by have:=b3 (i - 1) (by lia) him;lia
    have c2:¬i < below t.place (t.place.getD (i - 1) 0 + 1):=fun z=>by have h1:=b2 i z;have h2:=g.rise (i - 1) i (by lia) (by lia);lia
    lia
  have gB:ah (ar prog w) A (pure (match ((L.map (·.2)).toArray)[below t.place (iW w t i)]?,t.place[below t.place (iW w t i)]? with
    |some (_,x),some j=>some (x,j + 1)
    |_,_=>none):Sem (Option (aa×Nat))) Q E s:=by
   rw[hbl];refine ax ?_;unfold pY iW at h;simp only[hb,br,if_false,Nat.add_eq_zero_iff,u5,and_false,Nat.add_sub_cancel]at h;by_cases c:i < L.length
   ·have e1:((L.map (·.2)).toArray)[i]?=some L[i].2:=by simp[c]
    have e2:t.place[i]?=some (t.place.getD i 0):=Tz (by rw[g.sz];exact c);rw[e1]at h ⊢;rw[e2];exact h
   ·have e1:((L.map (·.2)).toArray)[i]?=none:=by simp;lia
    rw[e1]at h ⊢;exact h
  have hdr:∀c:Bool,(!t.plain && c)=false:=fun c=>by rw[pl];rfl
  have hld:∀c:Bool,(!t.led && c)=false:=fun c=>by rw[ld];rfl
  have drop:∀{c:Bool}{x y:Sem (Option (aa×Nat))},c=false->ah (ar prog w) A y Q E s->ah (ar prog w) A (if c=true then x else y) Q E s:=fun {c x y} hc hy=>by rw[hc];exact hy
  refine drop (hdr _) ?_;refine af ?_;show ah _ _ (if (!t.led && !((L.map (·.2)).toArray).isEmpty)=true then unsupported "set:maker-not-led" else pure ()) _ _ _;rw[hld];exact ax gB
end
theorem gF:Slot "set_iterator" "__next__" "set_iterator.__next__" :=
 .of (owner:="set_iterator") (n:="__next__") (by rw[m8,m9];kernel_rfl) (by decide+kernel) (by decide+kernel) (by decide+kernel) (by first|exact .inl (by decide+kernel)|exact .inr (by decide+kernel)) (by rw[i5];kernel_rfl)
theorem uq:oz table "set_iterator.__next__"=some Builtin.«set_iterator.__next__»:=entryFor_of_tree (by kernel_rfl)
theorem wA(a:aa):i6 "set_iterator.__next__" ⟨[a],[]⟩:=by unfold i6;kernel_rfl
theorem NP:oz table "set.__iter__"=some Builtin.«frozenset.__iter__»:=u6 (id':="frozenset.__iter__") (by kernel_rfl) rfl (by decide+kernel) (by kernel_rfl)
theorem wB:Slot "set_iterator" "__iter__" "set_iterator.__iter__" :=
 .of (owner:="set_iterator") (n:="__iter__") (by rw[m8,m9];kernel_rfl) (by decide+kernel) (by decide+kernel) (by decide+kernel) (by first|exact .inl (by decide+kernel)|exact .inr (by decide+kernel)) (by rw[i5];kernel_rfl)
theorem Ft:oz table "set_iterator.__iter__"=some Builtin.«dict_keyiterator.__iter__»:=u6 (id':="dict_keyiterator.__iter__") (by kernel_rfl) rfl (by decide+kernel) (by kernel_rfl)
theorem Ip(a:aa):i6 "set_iterator.__iter__" ⟨[a],[]⟩:=by unfold i6;kernel_rfl
def gq(w:az)(t:bS)(D:ab)(n ep i:Nat):Obj:={ cls:=.type "set_iterator",data:=.fields #[cE (iW w t i),cE i,.ref D,cE n,cE ep] }
section
variable{prog:aE}{w:az}{A:aS}{E:aa->ae->Prop}{s:ae}{D I:ab}{L:List tH}{ep:Nat}{t:bS}
structure Goes (w:az)(L:List tH)(t:bS):Prop where
 g:Lies t L
 hl:L.length<=t.mask
 pl:t.plain=true
 ld:t.led=!Ij w
theorem aeI{Q:aa->ae->Prop}(ho:s.heap.get? D=some (gQ L ep t))(g:Goes w L t)(h:Q (.ref s.heap.objs.size) { s with heap:=s.heap.push (gq w t D L.length ep 0) }):ah (ar prog w) A (j8 (.ref D)) Q E s:=by
 have hT:s.TypeIs (.ref D) "set":=⟨_,ho,rfl⟩
 refine qS hT F.slot_set_iter (gc F.slot_set_iter hT NP ?_ (F.args_set_iter_1 _));unfold Builtin.«frozenset.__iter__» cv.Frozenset.slot0 cv.Frozenset.sizeOf cv.Frozenset.addrOf;simp only[slotArgs,u7,eR,br,if_false,fw,bne_self_eq_false];refine af (af (ax (ax ?_)));refine af (af (u_ ho rfl (g.g.fits g.hl) (ax ?_)));have hdr:ah (ar prog w) A.in1 (setDrawn D) (fun b s'=>b=false/\s'=s) E s:=by unfold setDrawn setsByText;refine af (kv ho rfl (g.g.fits g.hl) ?_);refine af (af (oq (ax (ax ⟨?_,rfl⟩))));show(_ && (!t.plain && _))=false;rw[g.pl];simp
 refine af (d6 hdr (fun b s' hb=>?_) fun _ _ z=>z);obtain⟨rfl,rfl⟩:=hb;simp only[br,if_false];refine af (ax ?_);refine af (wpAny_setEpoch_of ho rfl (g.g.fits g.hl) ?_);have e0:iW w t 0=0:=by unfold iW;simp
 have eo:(gq w t D L.length ep 0)={ cls:=.type "set_iterator",data:=.fields ([cE 0,cE 0,aa.ref D,cE ((L.map (·.2)).toArray.size:Nat),cE (ep:Nat)]:List aa).toArray }:=by unfold gq;rw[e0];simp
 rw[eo]at h;exact af (eM (ax ⟨_,rfl,"set_iterator",_,⟨_,cS _ rfl,rfl⟩,gF.lookup,h⟩))
theorem abS{i:Nat}{Q:Option aa->ae->Prop}{e:Int×aa}(hI:s.heap.get? I=some (gq w t D L.length ep i))(ho:s.heap.get? D=some (gQ L ep t))(g:Goes w L t)(hi:i < L.length)(he:(pY w D ep L)[i]?=some e)
  (h:∀h',eK I s.heap h'->h'.get? I=some (gq w t D L.length ep (i + 1))->Q (some e.2) { s with heap:=h' }):ah (ar prog w) A (d7 (.ref I)) Q E s:=by
 have hT:s.TypeIs (.ref I) "set_iterator":=⟨_,hI,rfl⟩
 unfold d7;refine af (ky (ke (name:=kg "__next__") hT gF (gc gF hT uq ?_ (wA _))));unfold Builtin.«set_iterator.__next__»;simp only[slotArgs,u7,eR,br,if_false,fw,bne_self_eq_false];refine af (ax ?_);refine af (qV hI rfl ?_);simp only[cE];refine af (u_ ho rfl (g.g.fits g.hl) ?_);have hz:((((L.map (·.2)).toArray.size:Nat):Int) != ((L.length:Nat):Int))=false:=by simp
 simp only[hz,br,if_false,kR];refine af (aaC ho g.g g.hl g.pl g.ld (fR hi) ?_);rw[he];simp only[og];have hd0:(gq w t D L.length ep i).data=.fields #[cE (iW w t i),cE i,.ref D,cE L.length,cE ep]:=rfl;refine af (oB hI hd0 (by simp) ?_);have hd1:=q8 hd0 (·.setIfInBounds 0 (cE (iW w t (i + 1))));have hI1:=fE (oC (·.setIfInBounds 0 (cE (iW w t (i + 1))))) hI (va hd1);refine af (oB hI1 hd1 (by simp) ?_);have hd2:=q8 hd1 (·.setIfInBounds 1 (cE (i + 1:Nat)));have hI2:=fE (oC (·.setIfInBounds 1 (cE (i + 1:Nat)))) hI1 (va hd2);refine ax ⟨_,rfl,ax (h _ ((mT ..).trans (mT ..)) ?_)⟩;refine hI2.trans ?_;unfold gq oC;simp[cE]
theorem abT{Q:Option aa->ae->Prop}(hh:A.handled=none)(hI:s.heap.get? I=some (gq w t D L.length ep L.length))(ho:s.heap.get? D=some (gQ L ep t))(g:Goes w L t)
  (h:∀h',q9 I s.heap h'->Q none { s with heap:=h' }):ah (ar prog w) A (d7 (.ref I)) Q E s:=by
 have hT:s.TypeIs (.ref I) "set_iterator":=⟨_,hI,rfl⟩
 unfold d7;refine af (ky (ke (name:=kg "__next__") hT gF (gc gF hT uq ?_ (wA _))));unfold Builtin.«set_iterator.__next__»;simp only[slotArgs,u7,eR,br,if_false,fw,bne_self_eq_false];refine af (ax ?_);refine af (qV hI rfl ?_);simp only[cE];refine af (u_ ho rfl (g.g.fits g.hl) ?_);have hz:((((L.map (·.2)).toArray.size:Nat):Int) != ((L.length:Nat):Int))=false:=by simp
 simp only[hz,br,if_false,kR];refine af (aaC ho g.g g.hl g.pl g.ld (bo _) ?_);have he:(pY w D ep L)[L.length]?=none:=by rw[q_];rw[vH];exact bo _
 rw[he];simp only[Option.map_none];have hd0:(gq w t D L.length ep L.length).data=.fields #[cE (iW w t L.length),cE L.length,.ref D,cE L.length,cE ep]:=rfl;refine af (oB hI hd0 (by simp) ?_);refine af ?_;simp only[newExc,newTuple];refine af (eM ?_ (by size_fits));refine af (m:=m_ _ _) (i4 (a:=aa.none) (by first|rfl|(simp only[m_];rfl)) ?_);refine eM ?_ (by size_fits);simp only[raiseNew];refine af (vc ?_);rw[show A.in1.handled=none from hh];refine af (ax (ve ?_));refine af (nc (T:="StopIteration") (b:=true) ⟨_,cS _ rfl,rfl⟩ vi ?_);exact ax (h _ (((mT ..).extBut.push _).push _))
theorem abU(hh:A.handled=none)(hne:D≠I)(g:Goes w L t) :
  Walks prog w A I [I,D] [I] L.length (fun i v=>∃e,(pY w D ep L)[i]?=some e/\v=e.2) (fun i h=>h.get? I=some (gq w t D L.length ep i)/\h.get? D=some (gQ L ep t)) where
 sub:=fun b hb=>by simp at hb;simp[hb]
 frame:=fun _ _ _ st hk=>⟨hk I (by simp) _ st.1,hk D (by simp) _ st.2⟩
 item:=fun i s Q E hi st hQ=>by
  have hlt:i < (pY w D ep L).size:=by rw[vH];exact hi
  refine abS st.1 st.2 g hi (kU hlt) fun h' hs hI'=>?_;exact hQ _ h' s.toks ⟨_,kU hlt,rfl⟩ ⟨hI',(hs.2 D hne).trans st.2⟩ fun b o hb e=>(hs.2 b (fun z=>hb (by simp[z]))).trans e
 done:=fun s Q E st hQ=>abT hh st.1 st.2 g fun h' he=>hQ h' s.toks fun b o hb e=>he b o (fun z=>hb (by simp[z])) e
 self:=fun i s Q E st hQ=>by
  have hT:s.TypeIs (.ref I) "set_iterator":=⟨_,st.1,rfl⟩
  refine qS hT wB (gc wB hT Ft ?_ (Ip _));show ah _ _ (ret (.ref I)) _ _ s;exact ax ⟨_,rfl,"set_iterator",_,hT,gF.lookup,hQ⟩
end
section
variable{prog:aE}{w:az}{A:aS}{E:aa->ae->Prop}{s:ae}{D I:ab}{L:List tH}{ep:Nat}{t:bS}
abbrev cI:Obj:={ cls:=.type "list",data:=.seq ([]:List aa).toArray }
theorem aeJ{Q:Bool->ae->Prop}(ho:s.heap.get? D=some (gQ L ep t))(h:Q false s):ah (ar prog w) A (rf (.ref D)) Q E s:=by
 have hT:s.TypeIs (.ref D) "set":=⟨_,ho,rfl⟩
 unfold rf;refine af (mS hT F.slot_set_len.lookup ?_);have e1:splitId "set.__len__"=some ("set","__len__"):=by kernel_rfl
 simp only[e1];refine af (nc hT sub_set_self ?_);simp only[eR,br,if_false];have pick:∀{c:Bool}{x y:Sem Bool},c=true->ah (ar prog w) A x Q E s->ah (ar prog w) A (if c=true then x else y) Q E s:=fun {c x y} hc hy=>by rw[hc];exact hy
 refine pick (by decide+kernel) ?_;refine af (jn hT ?_);exact ax h
theorem Uc{Q:List aa->ae->Prop}(hh:A.handled=none)(ho:s.heap.get? D=some (gQ L ep t))(g:Goes w L t)(hn:L.length<=1000)
  (hQ:∀h' tk,(∀b o,s.heap.get? b=some o->h'.get? b=some o)->s.heap.objs.size<=h'.objs.size->Q ((pY w D ep L).toList.map (·.2)) { s with heap:=h',toks:=tk }):ah (ar prog w) A (collect (.ref D)) Q E s:=by
 have uo:D < s.heap.objs.size:=bq ho;unfold collect;refine af (qB (ik F.entry_proto_collect ?_));rw[i3 F.plain_proto_collect _];show ah _ A.in1 (newList [] >>= fun l=>again (.builtin "list.__iadd__" ⟨[l,.ref D],[]⟩)) _ _ s;refine af (eM ?_);refine ax ⟨gN rh _,ik F.entry_list_iadd ?_⟩;rw[i3 rh _];have p1:∀b o,s.heap.get? b=some o->(s.heap.push cI).get? b=some o:=fun b o e=>cb _ e;have hD1:(s.heap.push cI).get? D=some (gQ L ep t):=p1 _ _ ho;have hS1:(s.heap.push cI).get? s.heap.objs.size=some cI:=cS _ rfl;show ah _ A.in1 (kz (.ref s.heap.objs.size) (.ref D) (.ref s.heap.objs.size)) _ _ _;unfold kz;have hT:uC { s with heap:=s.heap.push cI } (.ref D) "set":=⟨_,hD1,rfl⟩
 refine af (jn hT ?_);have k1:nh (.ref s.heap.objs.size) (.ref D)=false:=by simp[nh];exact lz uo
 have k2:(aa.type "set" == aa.type "list")=false:=by decide
 have k3:(aa.type "set" == aa.type "tuple")=false:=by decide
 simp only[k1,k2,k3,qs,br,if_false];refine af (aeI hD1 g ?_);have p2:∀b o,(s.heap.push cI).get? b=some o->((s.heap.push cI).push (gq w t D L.length ep 0)).get? b=some o:=fun b o e=>cb _ e;have hD2:=p2 _ _ hD1;have hS2:=p2 _ _ hS1;have hI2:((s.heap.push cI).push (gq w t D L.length ep 0)).get? (s.heap.push cI).objs.size=some (gq w t D L.length ep 0):=cS _ rfl;have NQ:(s.heap.push cI).objs.size=s.heap.objs.size + 1:=n9 ..;refine af (ez (aeJ hD2 ?_));have pick:∀{c:Bool}{x y:Sem nv}{R:nv->ae->Prop}{F':aa->ae->Prop}{s':ae},c=true->ah (ar prog w) A.in1 x R F' s'->ah (ar prog w) A.in1 (if c=true then x else y) R F' s':=fun {c x y R F' s'} hc hy=>by rw[hc];exact hy
 refine pick (by decide+kernel) ?_;refine af (gT ?_);refine af ?_;show ah _ A.in1 (kA s.heap.objs.size (·.push .none) >>= fun _=>kA s.heap.objs.size (·.pop)) _ _ _;refine af (il hS2 rfl ?_);have hS3:=fE (c_ (·.push aa.none)) hS2 rfl;refine il hS3 rfl ?_;have Ir:=fE (c_ (·.pop)) hS3 rfl;generalize hH:(((s.heap.push cI).push (gq w t D L.length ep 0)).update s.heap.objs.size (c_ (·.push aa.none))).update s.heap.objs.size (c_ (·.pop))=H at Ir;have oth:∀b o,b≠s.heap.objs.size->((s.heap.push cI).push (gq w t D L.length ep 0)).get? b=some o->H.get? b=some o:=fun b o hb e=>by rw[<- hH];exact(fF _ _ (dQ hb)).trans ((fF _ _ (dQ hb)).trans e)
 have W:=(abU (prog:=prog) (w:=w) (A:=A.in1) (D:=D) (I:=(s.heap.push cI).objs.size) (ep:=ep) (by simpa using hh) (by rw[NQ];exact b_ (ki uo)) g).toS;have hSf:s.heap.objs.size∉[(s.heap.push cI).objs.size,D]:=by simp only[bP,gS,or_false,not_or];exact⟨by rw[NQ];exact b_ (Nat.lt_succ_self _),lz uo⟩
 refine ax ⟨gN rn _,vk W (by rw[d8];lia) s.heap.objs.size hSf _ L.length 0 _ _ _ rfl (eB _) ⟨oth _ _ (by rw[NQ];exact u5 _) hI2,oth _ _ (b_ uo) hD2⟩ Ir (vn _) fun s' acc c hm hS' hacc=>?_⟩;show ah _ A (load s.heap.objs.size >>= _) _ _ s';refine af (wpAny_load hS' ?_);have hacc':acc.toList=(pY w D ep L).toList.map (·.2):=by
  apply rL;intro i;rw[cw,gd,gd];cases e:acc[i]? with
  |some v =>
   obtain⟨x,hx,rfl⟩:=hacc.2 i v e;rw[hx];rfl
  |none =>
   have:acc.size<=i:=by simpa using e
   rw[hacc.1]at this;rw[q_ (by rw[vH];exact this)];rfl
 obtain⟨h',g',d',tk',os'⟩:=s';have eg:g'=s.gens:=hm.gens;have ed:d'=s.drawn:=hm.drawn;have eo:os'=s.os:=hm.os;subst eg ed eo;show ah _ _ (pure acc.toList) _ _ _;rw[hacc'];refine ax (hQ h' tk' (fun b o e=>hm.heap b o ?_ (oth b o (b_ (bq e)) (p2 _ _ (p1 _ _ e)))) (fR (bq hS')));simp only[bP,gS,or_false,not_or];exact⟨b_ (bq e),by rw[NQ];exact b_ (ki (bq e))⟩
end
section
variable{prog:aE}{w:az}{A:aS}{E:aa->ae->Prop}{s:ae}
end
section
variable{prog:aE}{w:az}{U:ab->List Int->Prop}{A:aS}{E:aa->ae->Prop}{s:ae}
end
section
variable{prog:aE}{w:az}{U:ab->List Int->Prop}{A:aS}{E:aa->ae->Prop}{s:ae}
end
section
variable{prog:aE}{w:az}{U:ab->List Int->Prop}{A:aS}{E:aa->ae->Prop}{s:ae}
end
section
variable{prog:aE}{w:az}{U:ab->List Int->Prop}{A:aS}{E:aa->ae->Prop}{s:ae}
end
section
variable{prog:aE}{w:az}{U:ab->List Int->Prop}{A:aS}{E:aa->ae->Prop}{s:ae}
end
end Tb
namespace So
open PySem PySem.W PyProof.Rows
def Sp(lt:Nat->Nat->Bool)(n:Nat){α:Type}:KasT α->(α->Prop)->Prop
 | .ret a,Q=>Q a
 | .ask i j k,Q=>i < n/\j < n/\Sp lt n (k (lt i j)) Q
section
variable{lt:Nat->Nat->Bool}{n:Nat}{α β:Type}
structure Ar (n:Nat)(p:Array Nat):Prop where
 sz:p.size=n
 lt:∀i,p.getD i 0 < n
 pm:p.toList.Perm (bE n)
def Up(lt:Nat->Nat->Bool)(p:Array Nat)(m:Nat):Prop:=∀i j,i < j->j < m->lt (p.getD j 0) (p.getD i 0)=false
def Dn(lt:Nat->Nat->Bool)(p:Array Nat)(m:Nat):Prop:=∀i j,i < j->j < m->lt (p.getD i 0) (p.getD j 0)=false
structure Ord (lt:Nat->Nat->Bool):Prop where
 tr:∀a b c,lt b a=false->lt c b=false->lt c a=false
 as:∀a b,lt a b=true->lt b a=false
theorem irr(O:Ord lt)(a:Nat):lt a a=false:=by
 cases h:lt a a with
 |false=>rfl
 |true=>have:=O.as a a h;rw[h]at this;cases this
end
end So
namespace So
open PySem PySem.W PyProof.Rows PySem.Calls
def zH:List Int->List Int->Bool
 | [],[]=>false
 | [],_::_=>true
 |_::_,[]=>false
 |a::as,b::bs=>if a=b then zH as bs else decide (a < b)
theorem Yp:∀a b:List Int,zH a b=true->zH b a=false
 | [],[],h=>by cases h
 | [],_::_,h=>rfl
 |_::_,[],h=>by cases h
 |a::as,b::bs,h=>by
  unfold zH at h ⊢;by_cases c:a=b
  ·subst c;simp only[if_true]at h ⊢;exact Yp as bs h
  ·rw[if_neg c]at h;rw[if_neg (dQ c)];have:=of_decide_eq_true h;exact decide_eq_false (by lia)
theorem Yq:∀a b c:List Int,zH b a=false->zH c b=false->zH c a=false
 | [],[],[],_,_=>rfl
 | [],[],_::_,_,_=>rfl
 | [],_::_,[],_,h=>by cases h
 | [],_::_,_::_,_,_=>rfl
 |_::_,[],_,h,_=>by cases h
 |a::as,b::bs,[],_,h=>by cases h
 |a::as,b::bs,c::cs,h1,h2=>by
  unfold zH at h1 h2 ⊢;by_cases e1:b=a
  ·subst e1;simp only[if_true]at h1;by_cases e2:c=b
   ·subst e2;simp only[if_true]at h2 ⊢;exact Yq as bs cs h1 h2
   ·rw[if_neg e2]at h2 ⊢;exact h2
  ·rw[if_neg e1]at h1;have g1:=of_decide_eq_false h1;by_cases e2:c=b
   ·subst e2;rw[if_neg e1];exact h1
   ·rw[if_neg e2]at h2;have g2:=of_decide_eq_false h2;rw[if_neg (by lia)];exact decide_eq_false (by lia)
theorem aeK:∀a b:List Int,zH a b=false->zH b a=false->a=b
 | [],[],_,_=>rfl
 | [],_::_,h,_=>by cases h
 |_::_,[],_,h=>by cases h
 |a::as,b::bs,h1,h2=>by
  unfold zH at h1 h2;by_cases c:a=b
  ·subst c;simp only[if_true]at h1 h2;rw[aeK as bs h1 h2]
  ·rw[if_neg c]at h1;rw[if_neg (dQ c)]at h2;have:=of_decide_eq_false h1;have:=of_decide_eq_false h2;lia
theorem alH(bB:List (List Int)):Ord fun i j=>zH (bB.getD i []) (bB.getD j []):=⟨fun a b c h1 h2=>Yq _ _ _ h1 h2,fun a b h=>Yp _ _ h⟩
section
variable{prog:aE}{w:az}{A:aS}{E:aa->ae->Prop}{s:ae}
def aov(prog:aE)(w:az)(A:aS)(κ:fm)(vs:List aa)(lt:Nat->Nat->Bool)(s:ae):Prop :=
 ∀i j (C:Bool->ae->Prop) (E:aa->ae->Prop),i < vs.length->j < vs.length->C (lt i j) s->ah (ar prog w) A (keyLt' κ (vs.getD i aa.none) (vs.getD j aa.none)) C E s
def Yr(lt:Nat->Nat->Bool)(vs:List aa)(st:be):Prop:=∃p:Array Nat,Ar vs.length p/\Up lt p vs.length/\(ay st).map (·.2)=kB (p.toList.map fun i=>vs.getD i aa.none)/\fq st=none
theorem aeL{b:Bool}{Q:Bool->ae->Prop}:∀{ks js:List Int}{xs ys:List aa}(i:Nat),ItemsAre (cq prog w) ks xs->ItemsAre (cq prog w) js ys->Q (zH ks js) s ->
  KatLex prog w A b (decide (xs.length < ys.length)) Q (xs.zip ys) i s:=by
 have gen:∀(d:Bool) {ks js:List Int}{xs ys:List aa}(i:Nat),ItemsAre (cq prog w) ks xs->ItemsAre (cq prog w) js ys->d=decide (xs.length < ys.length)->Q (zH ks js) s->KatLex prog w A b d Q (xs.zip ys) i s:=by
  intro d ks
  induction ks with
  |nil =>
   intro js xs ys i hx hy hd hq;cases hx;cases hy with
   |nil=>subst hd;exact kat_nil hq
   |cons h1 h2=>subst hd;exact kat_nil hq
  |cons k ks ih =>
   intro js xs ys i hx hy hd hq;cases hx with
   |cons h1 h2 =>
    cases hy with
    |nil=>subst hd;exact kat_nil hq
    | @cons j v js vs h3 h4 =>
     obtain⟨t,rfl⟩:=lh h1;obtain⟨u,rfl⟩:=lh h3;refine kat_cons (wpAny_eqBool_int ?_);by_cases e:k=j
     ·subst e;rw[show(k == k)=true from by simp];refine kat_yes (ih (i + 1) h2 h4 (by rw[hd];simp) ?_);unfold zH at hq;rw[if_pos rfl]at hq;exact hq
     ·rw[show(k == j)=false from by simp[e]];unfold zH at hq;rw[if_neg e]at hq;refine kat_no ?_;cases (b && i == 0) with
      |true=>exact oneLt_int hq
      |false=>exact kat_one _ _ (wpAny_lt_int hq)
 intro ks js xs ys i hx hy hq;exact gen _ i hx hy rfl hq
theorem aie{a b:ab}{ks js:List Int}{f:Bool}{Q:Bool->ae->Prop}(ha:dc (cq prog w) s.heap ks a)(hb:dc (cq prog w) s.heap js b)(hq:Q (zH ks js) s) :
  ah (ar prog w) A (keyLt' (tuples' f) (.ref a) (.ref b)) Q E s:=by
 obtain⟨o,xs,n,h1,h2,h3,h4⟩:=ha;obtain⟨o',ys,n',h1',h2',h3',h4'⟩:=hb;refine kat_lt h1 h3 h1' h3' ?_;have:=aeL (prog:=prog) (w:=w) (A:=A) (b:=f) 0 h4 h4' hq;simpa using this
def KeysAre(prog:aE)(w:az)(h:Heap)(vs:List aa)(bB:List (List Int)):Prop :=
 bB.length=vs.length/\∀(i:Nat) v,vs[i]?=some v->∃b,v=.ref b/\dc (cq prog w) h (bB.getD i []) b
theorem KeysAre.moved{h h':Heap}{vs:List aa}{bB:List (List Int)}(k:KeysAre prog w h vs bB) (hm:∀b o,h.get? b=some o->o.cls=.type "tuple"->h'.get? b=some o):KeysAre prog w h' vs bB :=
 ⟨k.1,fun i v hv=>let ⟨b,e,o,its,m,q1,q2,q3,q4⟩:=k.2 i v hv;⟨b,e,o,its,m,hm _ _ q1 q2,q2,q3,q4⟩⟩
theorem KeysAre.asks{f:Bool}{vs:List aa}{bB:List (List Int)}(k:KeysAre prog w s.heap vs bB):aov prog w A (tuples' f) vs (fun i j=>zH (bB.getD i []) (bB.getD j [])) s:=by intro i j C E hi hj hC;obtain⟨b,e,hb⟩:=k.2 i vs[i] (d_ hi);obtain⟨b',e',hb'⟩:=k.2 j vs[j] (d_ hj);rw[show vs.getD i aa.none=.ref b by simp[hi,e],show vs.getD j aa.none=.ref b' by simp[hj,e']];exact aie hb hb' hC
theorem KeysAre.tups{h:Heap}:∀{vs:List aa}{bB:List (List Int)},KeysAre prog w h vs bB->(∀ks∈bB,ks≠[])->∃fs:List aa,KatTups h vs fs/\fs.length=vs.length/\∀v∈fs,∃i t,v=.int i t
 | [],bB,k,hn=>⟨[],.nil,rfl,fun v hv=>by cases hv⟩
 |v::vs,[],k,hn=>by cases k.1
 |v::vs,ks::bB,k,hn=>by
  obtain⟨fs,t,l,e⟩:=KeysAre.tups (vs:=vs) (bB:=bB) ⟨by have:=k.1;simpa using this,fun i u hu=>by have:=k.2 (i + 1) u (by simpa using hu);simpa using this⟩ fun x hx=>hn x (.tail _ hx);obtain⟨b,rfl,o,its,m,q1,q2,q3,q4⟩:=k.2 0 v (by simp);have hne:=hn ks (.head _);simp at q4;generalize hits:its.toList=L at q4;cases q4 with
  |nil=>exact absurd rfl hne
  | @cons i v' ks' vs' h1 h2 =>
   obtain⟨tk,rfl⟩:=lh h1;have h0:its[0]?=some (aa.int i tk):=by rw[<- gd,hits];rfl
   refine⟨.int i tk::fs,.cons q1 q2 q3 h0 t,by simp[l],fun u hu=>?_⟩;rcases bP.mp hu with rfl|hu
   ·exact⟨_,_,rfl⟩
   ·exact e u hu
def leK(a b:List Int):Prop:=zH b a=false
def Ys(x:List Int):List (List Int)->List (List Int)
 | []=>[x]
 |y::ys=>if zH y x=true then y::Ys x ys else x::y::ys
def bZ(l:List (List Int)):List (List Int):=l.foldr Ys []
theorem zT(x:List Int):∀l,(Ys x l).Perm (x::l)
 | []=>.refl _
 |y::ys=>by
  unfold Ys;split
  ·exact((zT x ys).cons y).trans (ij.swap x y ys)
  ·exact .refl _
theorem eV:∀l,(bZ l).Perm l
 | []=>.refl _
 |x::l=>(zT x (bZ l)).trans ((eV l).cons x)
theorem aaD(x:List Int):∀l,l.Pairwise leK->(Ys x l).Pairwise leK
 | [],_=>by simp[Ys]
 |y::ys,h=>by
  obtain⟨h1,h2⟩:=fI.mp h;unfold Ys;split
  ·rename_i c;refine fI.mpr ⟨fun z hz=>?_,aaD x ys h2⟩;rcases bP.mp ((zT x ys).mem_iff.mp hz) with rfl|hz
   ·exact Yp _ _ c
   ·exact h1 z hz
  ·rename_i c;have c':zH y x=false:=by simpa using c
   refine fI.mpr ⟨fun z hz=>?_,h⟩;rcases bP.mp hz with rfl|hz
   ·exact c'
   ·exact Yq _ _ _ c' (h1 z hz)
theorem qD:∀l,(bZ l).Pairwise leK
 | []=>.nil
 |x::l=>aaD x _ (qD l)
theorem zU:∀{l l':List (List Int)},l.Perm l'->l.Pairwise leK->l'.Pairwise leK->l=l'
 | [],l',p,_,_=>(List.nil_perm.mp p).symm
 |x::l,[],p,_,_=>by cases List.perm_nil.mp p
 |x::l,y::l',p,h,h'=>by
  obtain⟨h1,h2⟩:=fI.mp h;obtain⟨h1',h2'⟩:=fI.mp h';have e:x=y:=by
   have m1:=bP.mp (p.mem_iff.mp (dA (a:=x) (l:=l)));have m2:=bP.mp (p.mem_iff.mpr (dA (a:=y) (l:=l')));rcases m1 with m1|m1
   ·exact m1
   ·rcases m2 with m2|m2
    ·exact m2.symm
    ·exact aeK _ _ (h1' x m1) (h1 y m2)
  subst e;rw[zU (p.cons_inv) h2 h2']
theorem Fv{l l':List (List Int)}(p:l.Perm l')(h:l.Pairwise leK):l=bZ l':=zU (p.trans (eV l').symm) h (qD l')
def Ud(bB:List (List Int))(p:Array Nat):Prop:=p.toList.Perm (bE bB.length)/\(p.toList.map fun i=>bB.getD i [])=bZ bB
theorem aeM{bB:List (List Int)}{p:Array Nat}(a:Ar bB.length p)(u:Up (fun i j=>zH (bB.getD i []) (bB.getD j [])) p bB.length):Ud bB p:=by
 refine⟨a.pm,Fv ?_ ?_⟩
 ·have:=a.pm.map fun i=>bB.getD i [];refine this.trans (oD ?_);apply kT
  ·simp
  ·intro i h1 h2;simp at h1;simp[h1]
 ·rw[ko];intro i j hi hj hij;simp only[cf,iF]at hi hj;have:=u i j hij (by rw[<- a.sz];exact hj);simp only[List.getElem_map,Array.getElem_toList];unfold leK;rw[kq,kq,kU hi,kU hj]at this;exact this
theorem Ue{bB:List (List Int)}(h:bB.length < 2):Ud bB (kB (bE bB.length)):=by
 refine⟨.refl _,Fv ?_ ?_⟩
 ·refine oD ?_;apply kT
  ·simp
  ·intro i h1 h2;simp at h1;simp[h1]
 ·rw[ko];intro i j hi hj hij;simp at hi hj;lia
end
end So
namespace Sb
open PySem PySem.W PyProof.Rows
section
variable{prog:aE}{w:az}{A:aS}{E:aa->ae->Prop}{s:ae}{a₀ x0:Array aw}{κ:fm}{rk:aw->Int}{lo:Nat}{p0:Array (Nat×Nat×Nat)}
def Ax(prog:aE)(w:az)(A:aS)(s:ae)(κ:fm)(rk:aw->Int)(a₀:Array aw):Prop :=
 ∀x y (C:Bool->ae->Prop) (E:aa->ae->Prop),x∈a₀.toList->y∈a₀.toList->C (decide (rk x < rk y)) s->ah (ar prog w) A (keyLt' κ x.1 y.1) C E s
def R(rk:aw->Int)(xs:Array aw)(i:Nat):Int:=match xs[i]? with|some p=>rk p|none=>0
theorem mq{xs ys:Array aw}{i j:Nat}(h:xs[i]?=ys[j]?):R rk xs i=R rk ys j:=by unfold R;rw[h]
theorem jx{xs:Array aw}{i:Nat}{x:aw}(h:xs[i]?=some x):R rk xs i=rk x:=by unfold R;rw[h]
def Up(rk:aw->Int)(xs:Array aw)(lo n:Nat):Prop:=∀i j,i<=j->j < n->R rk xs (lo + i)<=R rk xs (lo + j)
def Dn(rk:aw->Int)(xs:Array aw)(lo n:Nat):Prop:=∀i j,i<=j->j < n->R rk xs (lo + j)<=R rk xs (lo + i)
structure SB (κ:fm)(a₀ x0:Array aw)(p0:Array (Nat×Nat×Nat))(lo:Nat)(st:be):Prop where
 perm:(ay st).Perm a₀
 kind:kindOf st=κ
 failed:fq st=none
 pend:bX st=p0
 keep:∀k,k < lo->(ay st)[k]?=x0[k]?
theorem SB.size{st:be}(h:SB κ a₀ x0 p0 lo st):(ay st).size=a₀.size:=h.perm.size_eq
theorem SB.setArr{st:be}(h:SB κ a₀ x0 p0 lo st){xs:Array aw}(hp:xs.Perm (ay st))(hk:∀k,k < lo->xs[k]?=(ay st)[k]?):SB κ a₀ x0 p0 lo (setArr st xs) :=
 ⟨hp.trans h.perm,h.kind,h.failed,h.pend,fun k hl=>(hk k hl).trans (h.keep k hl)⟩
theorem aeN{xs:Array aw}(hp:xs.Perm a₀){i:Nat}{x:aw}(h:xs[i]?=some x):x∈a₀.toList:=by obtain⟨hi,rfl⟩:=ie.mp h;exact(rS.mp hp).mem_iff.mp (by simp)
theorem cB{st:be}{xs:Array aw}{i:Nat}{x:aw}{Q:aw->be->Prop}(h:xs[i]?=some x)(hq:Q x st):wpS (ar prog w) A E s (df xs i) Q st:=by rw[elem'_eq,h];exact bg hq
theorem Fw{st:be}{x y:aw}{Q:Option Bool->be->Prop}(ha:Ax prog w A s κ rk a₀)(hk:kindOf st=κ)(hx:x∈a₀.toList)(hy:y∈a₀.toList)(h:Q (some (decide (rk x < rk y))) st) :
  wpS (ar prog w) A E s (lt' x y) Q st:=by
 rw[lt'_eq];refine aI (g7 ?_);rw[hk];refine aI (kX (ky (ha x y _ _ hx hy ⟨rfl,?_⟩)));exact bg h
theorem yD{st:be}{i j:Nat}{Q:Option Bool->be->Prop}(ha:Ax prog w A s κ rk a₀)(hB:SB κ a₀ x0 p0 lo st)(hi:i < a₀.size)(hj:j < a₀.size)
  (h:Q (some (decide (R rk (ay st) i < R rk (ay st) j))) st):wpS (ar prog w) A E s (ltAt' i j) Q st:=by
 have e1:(ay st)[i]?=some ((ay st)[i]'(by rw[hB.size];exact hi)):=getElem?_pos _ i _;have e2:(ay st)[j]?=some ((ay st)[j]'(by rw[hB.size];exact hj)):=getElem?_pos _ j _;rw[jx e1,jx e2]at h;rw[ltAt'_eq];refine aI (g7 ?_);exact aI (cB e1 (aI (cB e2 (Fw ha hB.kind (aeN hB.perm e1) (aeN hB.perm e2) h))))
theorem DG{st:be}{i j:Nat}{Q:Unit->be->Prop}(h:Q () (setArr st (ip (ay st) i j ((j - i) / 2)))) :
  wpS (ar prog w) A E s (oI i j) Q st:=by
 rw[reverseSlice'_eq];exact i7 h
theorem Fx{xs:Array aw}{i j:Nat}(hj:j<=xs.size)(k:Nat) :
  R rk (ip xs i j ((j - i) / 2)) k=if i<=k/\k < j then R rk xs (i + j - 1 - k) else R rk xs k:=by
 have e:=getElem?_mirror_all (i:=i) hj k;by_cases h1:i<=k/\k < j
 ·rw[if_pos h1]at e ⊢;exact mq e
 ·rw[if_neg h1]at e ⊢;exact mq e
theorem ig{xs:Array aw}{i j:Nat}(hj:j<=xs.size)(heq:∀k,i<=k->k < j->R rk xs k=R rk xs (j - 1))(k:Nat) :
  R rk (ip xs i j ((j - i) / 2)) k=R rk xs k:=by
 rw[Fx hj];split
 ·rw[heq _ (by lia) (by lia),heq k (by lia) (by lia)]
 ·rfl
theorem SB.rev{st:be}(h:SB κ a₀ x0 p0 lo st){i j:Nat}(hi:lo<=i)(hj:j<=a₀.size):SB κ a₀ x0 p0 lo (PyProof.Rows.setArr st (ip (ay st) i j ((j - i) / 2))) :=
 h.setArr (mirror_perm _ _ _ _) fun k hk=>by rw[getElem?_mirror_all (by rw[h.size];exact hj),if_neg (by lia)]
def aeO(lo a nrem:Nat):StateT be Sem AscSt :=
 forIn [a:nrem] ((none,a):AscSt) fun _ __s=>do
  let __x <- ltAt' (lo + __s.snd) (lo + __s.snd - 1)
  match __x with
  |some smaller=>if smaller=true then pure (ForInStep.done (none,__s.snd)) else pure (ForInStep.yield (none,__s.snd + 1))
  |_=>pure (ForInStep.done (some none,__s.snd))
def Ug(lo n nrem:Nat):StateT be Sem (Option Nat):=do
 oI lo (lo + n)
 let __s <- aeO lo n nrem
 match __s.fst with
 |some r=>pure r
 |none=>pure (some __s.snd)
def aaE(lo n nrem:Nat):StateT be Sem DescSt :=
 forIn [n:nrem] ((none,n,0):DescSt) fun _ __s=>do
  let __x <- ltAt' (lo + __s.snd.fst) (lo + __s.snd.fst - 1)
  match __x with
  |some smaller =>
   if smaller=true then
    if __s.snd.snd > 0 then do
     oI (lo + __s.snd.fst - (__s.snd.snd + 1)) (lo + __s.snd.fst)
     pure (ForInStep.yield (none,__s.snd.fst + 1,0))
    else pure (ForInStep.yield (none,__s.snd.fst + 1,0))
   else do
    let __x <- ltAt' (lo + __s.snd.fst - 1) (lo + __s.snd.fst)
    match __x with
    |some larger =>
     if larger=true then pure (ForInStep.done (none,__s.snd.fst,__s.snd.snd))
     else pure (ForInStep.yield (none,__s.snd.fst + 1,__s.snd.snd + 1))
    |_=>pure (ForInStep.done (some none,__s.snd.fst,__s.snd.snd))
  |_=>pure (ForInStep.done (some none,__s.snd.fst,__s.snd.snd))
def Uh(lo n nrem:Nat):StateT be Sem (Option Nat):=do
 liftM (rule "list.sort.descending-run")
 let __s <- aaE lo (n + 1) nrem
 match __s.fst with
 |some r=>pure r
 |none =>
  if __s.snd.snd > 0 then do
   oI (lo + __s.snd.fst - (__s.snd.snd + 1)) (lo + __s.snd.fst)
   Ug lo __s.snd.fst nrem
  else Ug lo __s.snd.fst nrem
theorem aeP(lo nrem:Nat):countRun' lo nrem=(do
  let __s <- aeO lo 1 nrem
  match __s.fst with
  |some r=>pure r
  |none =>
   if (__s.snd == nrem)=true then pure (some __s.snd)
   else if __s.snd > 1 then do
    let __x <- ltAt' lo (lo + __s.snd - 1)
    match __x with
    |some rose=>if rose=true then pure (some __s.snd) else do
      oI lo (lo + __s.snd)
      Uh lo __s.snd nrem
    |_=>pure none
   else Uh lo __s.snd nrem):=by
 rw[countRun'_eq];unfold Uh Ug aaE aeO;dsimp only;congr 1;funext __s;obtain⟨r,n⟩:=__s;cases r with
 |some r=>rfl
 |none =>
  dsimp only;split
  ·rfl
  ·split
   ·congr 1;funext x;cases x with
    |none=>rfl
    |some rose =>
     dsimp only;split
     ·rfl
     ·congr 1;funext _r;congr 1;funext _u;congr 1;congr 1;funext s2;obtain⟨r2,n2,q2⟩:=s2;cases r2 with
      |some r2=>rfl
      |none =>
       dsimp only;split
       ·congr 1;funext _v;congr 1;funext _w;congr 1;funext s3;obtain⟨r3,n3⟩:=s3;cases r3 <;> rfl
       ·congr 1;funext _w;congr 1;funext s3;obtain⟨r3,n3⟩:=s3;cases r3 <;> rfl
   ·congr 1;funext _u;congr 1;congr 1;funext s2;obtain⟨r2,n2,q2⟩:=s2;cases r2 with
    |some r2=>rfl
    |none =>
     dsimp only;split
     ·congr 1;funext _v;congr 1;funext _w;congr 1;funext s3;obtain⟨r3,n3⟩:=s3;cases r3 <;> rfl
     ·congr 1;funext _w;congr 1;funext s3;obtain⟨r3,n3⟩:=s3;cases r3 <;> rfl
end
section
variable{prog:aE}{w:az}{A:aS}{E:aa->ae->Prop}{s:ae}{a₀ x0:Array aw}{κ:fm}{rk:aw->Int}{lo:Nat}{p0:Array (Nat×Nat×Nat)}
theorem aaF{st:be}{a nrem:Nat}{Q:AscSt->be->Prop}(h0:Ax prog w A s κ rk a₀)(hn:lo + nrem<=a₀.size)(ha:1<=a)(han:a<=nrem)(hB:SB κ a₀ x0 p0 lo st)
  (hs:Up rk (ay st) lo a)
  (h:∀n,a<=n->n<=nrem->Up rk (ay st) lo n->(n=nrem∨R rk (ay st) (lo + n) < R rk (ay st) (lo + (n - 1)))->Q (none,n) st) :
  wpS (ar prog w) A E s (aeO lo a nrem) Q st:=by
 unfold aeO;refine eS (I:=fun x c st'=>st'=st/\c=(none,x)/\Up rk (ay st) lo x) ?step ?gB ⟨rfl,rfl,hs⟩
 case gB =>
  rintro c st' ⟨rfl,rfl,hs'⟩;rw[show max a nrem=nrem by lia]at hs' ⊢;exact h nrem han (bo _) hs' (.inl rfl)
 case step =>
  rintro x c st' hax hxn ⟨rfl,rfl,hs'⟩;dsimp only;rw[show lo + x - 1=lo + (x - 1) by lia];refine aI (yD h0 hB (by lia) (by lia) ?_);by_cases hless:R rk (ay st') (lo + x) < R rk (ay st') (lo + (x - 1))
  ·simp only[hless,decide_true,if_true];exact bg (h x hax (by lia) hs' (.inr hless))
  ·simp only[hless,decide_false,br,if_false];refine bg ⟨rfl,rfl,fun i j hij hj=>?_⟩;by_cases hjx:j < x
   ·exact hs' i j hij hjx
   ·have hj':j=x:=by lia
    subst hj';by_cases hi':i=j
    ·subst hi';exact g8 _
    ·exact eI (hs' i (j - 1) (by lia) (by lia)) (oP.mp hless)
theorem La{st:be}{n nrem:Nat}{Q:Option Nat->be->Prop}(h0:Ax prog w A s κ rk a₀)(hn:lo + nrem<=a₀.size)(h1:1<=n)(hnn:n<=nrem)(hB:SB κ a₀ x0 p0 lo st)
  (hs:Dn rk (ay st) lo n) (h:∀m st',SB κ a₀ x0 p0 lo st'->1<=m->m<=nrem->Up rk (ay st') lo m->Q (some m) st') :
  wpS (ar prog w) A E s (Ug lo n nrem) Q st:=by
 unfold Ug;have hsz:lo + n<=(ay st).size:=by rw[hB.size];lia
 refine aI (DG ?_);have hB':SB κ a₀ x0 p0 lo (setArr st (ip (ay st) lo (lo + n) ((lo + n - lo) / 2))):=hB.rev (bo _) (by lia);refine aI (aaF h0 hn h1 hnn hB' ?_ fun m hm1 hm2 hsm _=>bg (h m _ hB' (by lia) hm2 hsm));intro i j hij hj;show R rk (ip (ay st) lo (lo + n) ((lo + n - lo) / 2)) (lo + i)<=R rk (ip (ay st) lo (lo + n) ((lo + n - lo) / 2)) (lo + j);rw[Fx hsz,Fx hsz,if_pos (by lia),if_pos (by lia)];have:=hs (n - 1 - j) (n - 1 - i) (by lia) (by lia);rw[show lo + (lo + n) - 1 - (lo + i)=lo + (n - 1 - i) by lia,show lo + (lo + n) - 1 - (lo + j)=lo + (n - 1 - j) by lia];exact this
theorem aeQ{st:be}{n nrem:Nat}{Q:DescSt->be->Prop}(h0:Ax prog w A s κ rk a₀)(hn:lo + nrem<=a₀.size)(h1:1<=n)(hnn:n<=nrem)(hB:SB κ a₀ x0 p0 lo st)
  (hs:Dn rk (ay st) lo n)
  (h:∀m neq st',SB κ a₀ x0 p0 lo st'->n<=m->m<=nrem->Dn rk (ay st') lo m->neq + 1<=m->(∀i,lo + m - (neq + 1)<=i->i < lo + m->R rk (ay st') i=R rk (ay st') (lo + m - 1))->Q (none,m,neq) st') :
  wpS (ar prog w) A E s (aaE lo n nrem) Q st:=by
 unfold aaE;refine eS (I:=fun x c st'=>∃neq,c=(none,x,neq)/\SB κ a₀ x0 p0 lo st'/\Dn rk (ay st') lo x/\neq + 1<=x /\
   (∀i,lo + x - (neq + 1)<=i->i < lo + x->R rk (ay st') i=R rk (ay st') (lo + x - 1))) ?step ?gB ⟨0,rfl,hB,hs,by lia,fun i h1 h2=>by congr 1;lia⟩
 case gB =>
  rintro c st' ⟨neq,rfl,hB',hs',hq,he⟩;rw[show max n nrem=nrem by lia]at hs' hq he ⊢;exact h nrem neq st' hB' hnn (bo _) hs' hq he
 case step =>
  rintro x c st' hax hxn ⟨neq,rfl,hB',hs',hq,he⟩;dsimp only;have hsz:lo + x<=(ay st').size:=by rw[hB'.size];lia
  have e1:lo + x - 1=lo + (x - 1):=by lia
  refine aI (yD h0 hB' (by lia) (by lia) ?_);by_cases hless:R rk (ay st') (lo + x) < R rk (ay st') (lo + x - 1)
  ·simp only[hless,decide_true,if_true];rw[e1]at hless;have step1:∀xs:Array aw,(∀k,R rk xs k=R rk (ay st') k)->Dn rk xs lo (x + 1):=by
    intro xs hk i j hij hj;rw[hk,hk];by_cases hjx:j < x
    ·exact hs' i j hij hjx
    ·have hj':j=x:=by lia
     subst hj';by_cases hi':i=j
     ·subst hi';exact g8 _
     ·exact eI (gf hless) (hs' i (j - 1) (by lia) (by lia))
   by_cases hneq:neq > 0
   ·rw[if_pos hneq];refine aI (DG (bg ⟨0,rfl,hB'.rev (by lia) (by lia),step1 _ (ig hsz he),by lia,fun i h1 h2=>by congr 1;lia⟩))
   ·rw[if_neg hneq];exact bg ⟨0,rfl,hB',step1 _ (fun _=>rfl),by lia,fun i h1 h2=>by congr 1;lia⟩
  ·simp only[hless,decide_false,br,if_false];refine aI (yD h0 hB' (by lia) (by lia) ?_);by_cases hlarger:R rk (ay st') (lo + x - 1) < R rk (ay st') (lo + x)
   ·simp only[hlarger,decide_true,if_true];exact bg (h x neq st' hB' hax (by lia) hs' hq he)
   ·simp only[hlarger,decide_false,br,if_false];have heqx:R rk (ay st') (lo + x)=R rk (ay st') (lo + x - 1):=by lia
    refine bg ⟨neq + 1,rfl,hB',fun i j hij hj=>?_,by lia,fun i h1 h2=>?_⟩
    ·by_cases hjx:j < x
     ·exact hs' i j hij hjx
     ·have hj':j=x:=by lia
      subst hj';by_cases hi':i=j
      ·subst hi';exact g8 _
      ·rw[heqx,e1];exact hs' i (j - 1) (by lia) (by lia)
    ·rw[show lo + (x + 1) - 1=lo + x by lia];by_cases hix:i=lo + x
     ·subst hix;rfl
     ·rw[heqx];exact he i (by lia) (by lia)
theorem Lb{st:be}{n nrem:Nat}{Q:Option Nat->be->Prop}(h0:Ax prog w A s κ rk a₀)(hn:lo + nrem<=a₀.size)(hnn:n + 1<=nrem)(hB:SB κ a₀ x0 p0 lo st)
  (hs:Dn rk (ay st) lo (n + 1)) (h:∀m st',SB κ a₀ x0 p0 lo st'->1<=m->m<=nrem->Up rk (ay st') lo m->Q (some m) st') :
  wpS (ar prog w) A E s (Uh lo n nrem) Q st:=by
 unfold Uh;refine aI (kX (gT ⟨rfl,?_⟩));refine aI (aeQ h0 hn (by lia) hnn hB hs fun m neq st' hB' hm1 hm2 hs' hq he=>?_);dsimp only;have hsz:lo + m<=(ay st').size:=by rw[hB'.size];lia
 by_cases hneq:neq > 0
 ·rw[if_pos hneq];refine aI (DG (La h0 hn (by lia) hm2 (hB'.rev (by lia) (by lia)) ?_ h));intro i j hij hj;show R rk (ip (ay st') _ _ _) _<=R rk (ip (ay st') _ _ _) _;rw[ig hsz he,ig hsz he];exact hs' i j hij hj
 ·rw[if_neg hneq];exact La h0 hn (by lia) hm2 hB' hs' h
theorem abW{st:be}{nrem:Nat}{Q:Option Nat->be->Prop}(h0:Ax prog w A s κ rk a₀)(hn:lo + nrem<=a₀.size)(h1:1<=nrem)(hB:SB κ a₀ x0 p0 lo st)
  (h:∀m st',SB κ a₀ x0 p0 lo st'->1<=m->m<=nrem->Up rk (ay st') lo m->Q (some m) st') :
  wpS (ar prog w) A E s (countRun' lo nrem) Q st:=by
 rw[aeP];refine aI (aaF h0 hn (bo 1) h1 hB (fun i j hij hj=>by have e:i=j:=by { lia };subst e;exact g8 _) fun n hn1 hn2 hsn hor=>?_);dsimp only;by_cases hnn:n=nrem
 ·rw[if_pos (by simpa using hnn)];exact bg (h n st hB hn1 hn2 hsn)
 ·rw[if_neg (by simpa using hnn)];have hlt:R rk (ay st) (lo + n) < R rk (ay st) (lo + (n - 1)):=hor.resolve_left hnn;by_cases hgt:n > 1
  ·rw[if_pos hgt,show lo + n - 1=lo + (n - 1) by lia];refine aI (yD h0 hB (by lia) (by lia) ?_);by_cases hrose:R rk (ay st) lo < R rk (ay st) (lo + (n - 1))
   ·simp only[hrose,decide_true,if_true];exact bg (h n st hB hn1 hn2 hsn)
   ·simp only[hrose,decide_false,br,if_false];have hsz:lo + n<=(ay st).size:=by rw[hB.size];lia
    have hall':∀k,k < n->R rk (ay st) (lo + k)=R rk (ay st) (lo + (n - 1)):=by intro k hk;have a1:=hsn 0 k (by lia) hk;have a2:=hsn k (n - 1) (by lia) (by lia);rw[mB]at a1;lia
    have hall:∀k,lo<=k->k < lo + n->R rk (ay st) k=R rk (ay st) (lo + n - 1):=fun k k1 k2=>by have:=hall' (k - lo) (by lia);rw[show lo + (k - lo)=k by lia]at this;rw[this];congr 1;lia
    refine aI (DG (Lb h0 hn (by lia) (hB.rev (bo _) (by lia)) ?_ h));intro i j hij hj;show R rk (ip (ay st) _ _ _) _<=R rk (ip (ay st) _ _ _) _;rw[ig hsz hall,ig hsz hall];by_cases hjn:j < n
    ·rw[hall' i (by lia),hall' j hjn];exact g8 _
    ·obtain rfl:j=n:=by lia
     by_cases hi':i=j
     ·subst hi';exact g8 _
     ·rw[hall' i (by lia)];exact gf hlt
  ·rw[if_neg hgt];obtain rfl:n=1:=by lia
   refine Lb h0 hn (by lia) hB ?_ h;intro i j hij hj;by_cases hi':i=j
   ·subst hi';exact g8 _
   ·obtain rfl:i=0:=by lia
    obtain rfl:j=1:=by lia
    exact gf hlt
theorem Ui{xs:Array aw}{src d:Nat}(hs:src < xs.size)(hd:d<=src)(k:Nat) :
  R rk (bubble xs src d) k=if k=src - d then R rk xs src else if src - d < k/\k<=src then R rk xs (k - 1) else R rk xs k:=by
 have e:=getElem?_bubble hs d hd k;by_cases h1:k=src - d
 ·rw[if_pos h1]at e ⊢;exact mq e
 ·rw[if_neg h1]at e ⊢;by_cases h2:src - d < k/\k<=src
  ·rw[if_pos h2]at e ⊢;exact mq e
  ·rw[if_neg h2]at e ⊢;exact mq e
theorem aif{st:be}{n ok:Nat}{Q:Bool->be->Prop}(h0:Ax prog w A s κ rk a₀)(hn:lo + n<=a₀.size)(hok:ok<=n)(hB:SB κ a₀ x0 p0 lo st)(hs:Up rk (ay st) lo ok)
  (h:∀st',SB κ a₀ x0 p0 lo st'->Up rk (ay st') lo n->Q true st'):wpS (ar prog w) A E s (binarySort' lo n ok) Q st:=by
 rw[binarySort'_eq];refine aI (eC (eS (I:=fun k c st'=>c=(none,())/\SB κ a₀ x0 p0 lo st'/\Up rk (ay st') lo (min k n))
  (Q:=fun c st'=>c=(none,())/\SB κ a₀ x0 p0 lo st'/\Up rk (ay st') lo n) ?step ?gB ?init) ?post)
 case post =>
  rintro c st' ⟨rfl,hB',hs'⟩;exact bg (h st' hB' hs')
 case init =>
  refine⟨rfl,hB,fun i j hij hj=>?_⟩;by_cases h1:ok=0
  ·obtain rfl:i=j:=by lia
   exact g8 _
  ·exact hs i j hij (by lia)
 case gB =>
  rintro c st' ⟨hc,hB',hs'⟩;refine⟨hc,hB',?_⟩;rwa [show min (max (max ok 1) n) n=n by lia]at hs'
 case step =>
  rintro k c st' hak hkn ⟨rfl,hB',hs'⟩;rw[show min k n=k by lia]at hs';have hk:lo + k < a₀.size:=by lia
  refine aI (eC (eS (I:=fun x c st''=>st''=st'/\∃l r,c=(none,l,r)/\l<=r/\r<=k/\r - l<=k - x /\
    (∀i,i < l->R rk (ay st') (lo + i)<=R rk (ay st') (lo + k))/\(∀i,r<=i->i < k->R rk (ay st') (lo + k) < R rk (ay st') (lo + i)))
   (Q:=fun c st''=>st''=st'/\∃l r,c=(none,l,r)/\l<=k /\
    (∀i,i < l->R rk (ay st') (lo + i)<=R rk (ay st') (lo + k))/\(∀i,l<=i->i < k->R rk (ay st') (lo + k) < R rk (ay st') (lo + i))) ?istep ?ifin ?iinit) ?ipost)
  case iinit=>exact⟨rfl,0,k,rfl,by lia,by lia,by lia,fun i hi=>by lia,fun i h1 h2=>by lia⟩
  case ifin =>
   rintro c st'' ⟨rfl,l,r,rfl,hlr,hrk,hm,hlo,hhi⟩;obtain rfl:l=r:=by lia
   exact⟨rfl,l,l,rfl,hrk,hlo,hhi⟩
  case istep =>
   rintro x c st'' _ hxk ⟨rfl,l,r,rfl,hlr,hrk,hm,hlo,hhi⟩;dsimp only;by_cases hge:l ≥ r
   ·rw[if_pos hge];obtain rfl:l=r:=by lia
    exact bg ⟨rfl,l,l,rfl,hrk,hlo,hhi⟩
   ·rw[if_neg hge];refine aI (yD h0 hB' hk (by lia) ?_);by_cases hless:R rk (ay st'') (lo + k) < R rk (ay st'') (lo + (l + r) / 2)
    ·simp only[hless,decide_true,if_true];refine bg ⟨rfl,l,(l + r) / 2,rfl,by lia,by lia,by lia,hlo,fun i h1 h2=>?_⟩;exact Int.lt_of_lt_of_le hless (hs' _ _ h1 h2)
    ·simp only[hless,decide_false,br,if_false];refine bg ⟨rfl,(l + r) / 2 + 1,r,rfl,by lia,by lia,by lia,fun i h1=>?_,hhi⟩;exact eI (hs' i ((l + r) / 2) (by lia) (by lia)) (oP.mp hless)
  case ipost =>
   rintro c st'' ⟨rfl,l,r,rfl,hlk,hlo,hhi⟩;show wpS _ _ _ _ (do moveDown' (lo + k) (lo + l);pure (ForInStep.yield (none,()))) _ _;rw[moveDown'_eq];have hks:lo + k < (ay st'').size:=by rw[hB'.size];exact hk
   refine aI (i7 (bg ⟨rfl,hB'.setArr (bubble_perm _ _ _) (fun q hq=>?_),?_⟩))
   ·rw[getElem?_bubble hks _ (by lia),if_neg (by lia),if_neg (by lia)]
   rw[show min (k + 1) n=k + 1 by lia];intro i j hij hj;show R rk (bubble (ay st'') (lo + k) (lo + k - (lo + l))) (lo + i)<=R rk (bubble (ay st'') (lo + k) (lo + k - (lo + l))) (lo + j);rw[Ui hks (by lia),Ui hks (by lia),show lo + k - (lo + k - (lo + l))=lo + l by lia];have pre:∀q,lo + l < lo + q->lo + q - 1=lo + (q - 1):=fun q hq=>by lia
   repeat' split
   all_goals first
    | (exfalso;lia)
    |exact g8 _
    |exact hlo _ (by lia)
    | (rw[pre _ (by lia)];exact gf (hhi _ (by lia) (by lia)))
    |exact hs' _ _ (by lia) (by lia)
    | (rw[pre _ (by lia)];exact hs' _ _ (by lia) (by lia))
    | (rw[pre _ (by lia),pre _ (by lia)];exact hs' _ _ (by lia) (by lia))
end
def jh:Bool->Keyed->Array Keyed->Nat->Nat->Nat->StateT SortSt Sem (Option Nat):=sortPriv% PySem.Builtin.gallop
def bey(left:Bool)(key:aw)(arr:Array aw)(base i:Nat):StateT be Sem (Option Bool):=do
 let x <- df arr (base + i)
 if left then lt' x key else return (<- lt' key x).map (!·)
theorem Yt(left:Bool)(key:aw)(arr:Array aw)(base n hint:Nat):jh left key arr base n hint=(do
 let mut lastofs:=0
 let mut ofs:=1
 let mut lo:=0
 let mut hi:=0
 let some right <- bey left key arr base hint|return none
 if right then
  let maxofs:=n - hint
  for _ in [0:n] do
   if ofs ≥ maxofs then break
   let some more <- bey left key arr base (hint + ofs)|return none
   if !more then break
   lastofs:=ofs
   ofs:=2 * ofs + 1
  lo:=hint + lastofs + 1
  hi:=hint + min ofs maxofs
 else
  let maxofs:=hint + 1
  for _ in [0:n] do
   if ofs ≥ maxofs then break
   let some found <- bey left key arr base (hint - ofs)|return none
   if found then break
   lastofs:=ofs
   ofs:=2 * ofs + 1
  lo:=hint + 1 - min ofs maxofs
  hi:=hint - lastofs
 for _ in [0:n] do
  if lo ≥ hi then break
  let m:=lo + (hi - lo) / 2
  let some more <- bey left key arr base m|return none
  if more then lo:=m + 1 else hi:=m
 return some hi):=rfl
section
variable{prog:aE}{w:az}{A:aS}{E:aa->ae->Prop}{s:ae}{a₀ x0:Array aw}{κ:fm}{rk:aw->Int}{lo:Nat}{p0:Array (Nat×Nat×Nat)}
def bp(rk:aw->Int)(left:Bool)(key:aw)(arr:Array aw)(base i:Nat):Bool:=if left then decide (R rk arr (base + i) < rk key) else decide (R rk arr (base + i)<=rk key)
theorem DK{st:be}{left:Bool}{key:aw}{arr:Array aw}{base i:Nat}{Q:Option Bool->be->Prop}(h0:Ax prog w A s κ rk a₀)(hk:kindOf st=κ)(hm:key∈a₀.toList)(ha:∀x∈arr.toList,x∈a₀.toList)(hi:base + i < arr.size)
  (h:Q (some (bp rk left key arr base i)) st):wpS (ar prog w) A E s (bey left key arr base i) Q st:=by
 have e:arr[base + i]?=some arr[base + i]:=getElem?_pos arr _ hi;have hx:arr[base + i]∈a₀.toList:=ha _ (by simp);unfold bp at h;rw[jx e]at h;unfold bey;refine aI (cB e ?_);cases left with
 |true=>simp only[if_true]at h ⊢;exact Fw h0 hk hx hm h
 |false =>
  simp only[br,if_false]at h ⊢;refine aI (Fw h0 hk hm hx (bg ?_));have:(some (decide (rk key < rk arr[base + i]))).map (!·)=some (decide (rk arr[base + i]<=rk key)):=by simp only[og,<- decide_not,oP]
  rw[this];exact h
theorem aii{left:Bool}{key:aw}{arr:Array aw}{base n:Nat}(hu:Up rk arr base n){i j:Nat}(hij:i<=j)(hj:j < n)(h:bp rk left key arr base j=true):bp rk left key arr base i=true:=by have:=hu i j hij hj;unfold bp at h ⊢;cases left <;> simp at h ⊢ <;> lia
theorem lN{st:be}{left:Bool}{key:aw}{arr:Array aw}{base n hint:Nat}{Q:Option Nat->be->Prop}(h0:Ax prog w A s κ rk a₀)(hk:kindOf st=κ)(hm:key∈a₀.toList)(ha:∀x∈arr.toList,x∈a₀.toList)
  (hb:base + n<=arr.size) (hh:hint < n) (hu:Up rk arr base n)
  (h:∀k,k<=n->(∀i,i < k->bp rk left key arr base i=true)->(∀i,k<=i->i < n->bp rk left key arr base i=false)->Q (some k) st) :
  wpS (ar prog w) A E s (jh left key arr base n hint) Q st:=by
 have mono:=fun {i j:Nat}(hij:i<=j) (hj:j < n)=>aii (left:=left) (key:=key) hu hij hj;have aeR:∀{i j:Nat},i<=j->j < n->bp rk left key arr base i=false->bp rk left key arr base j=false:=fun {i j} hij hj hf=>by
  cases c:bp rk left key arr base j with
  |false=>rfl
  |true=>rw[mono hij hj c]at hf;cases hf
 have last:∀(l0 h0':Nat),l0<=h0'->h0'<=n->(∀i,i < l0->bp rk left key arr base i=true)->(∀i,h0'<=i->i < n->bp rk left key arr base i=false) ->
   ∀(f:Nat->Option (Option Nat)×Nat×Nat->StateT be Sem (ForInStep (Option (Option Nat)×Nat×Nat))) (k:Option (Option Nat)×Nat×Nat->StateT be Sem (Option Nat)),
   (∀x l hi,f x (none,l,hi)=if l ≥ hi then pure (ForInStep.done (none,l,hi)) else do
    let __x <- bey left key arr base (l + (hi - l) / 2)
    match __x with
    |some more=>if more=true then pure (ForInStep.yield (none,l + (hi - l) / 2 + 1,hi)) else pure (ForInStep.yield (none,l,l + (hi - l) / 2))
    |_=>pure (ForInStep.done (some none,l,hi)))->(∀l hi,k (none,l,hi)=pure (some hi)) ->
   wpS (ar prog w) A E s (do let r <- forIn [0:n] (none,l0,h0') f;k r) Q st:=by
  intro l0 h0' hlh hhn hlo hhi f k hf hkk;refine aI (eC (eS (I:=fun x c st'=>st'=st/\∃l r,c=(none,l,r)/\l<=r/\r<=n/\r - l<=n - x/\(∀i,i < l->bp rk left key arr base i=true)/\(∀i,r<=i->i < n->bp rk left key arr base i=false))
   (Q:=fun c st'=>st'=st/\∃r,c=(none,r,r)/\r<=n/\(∀i,i < r->bp rk left key arr base i=true)/\(∀i,r<=i->i < n->bp rk left key arr base i=false)) ?step ?gB ⟨rfl,l0,h0',rfl,hlh,hhn,by lia,hlo,hhi⟩) ?post)
  case post =>
   rintro c st' ⟨rfl,r,rfl,h1,h2,h3⟩;rw[hkk];exact bg (h r h1 h2 h3)
  case gB =>
   rintro c st' ⟨rfl,l,r,rfl,h1,h2,h3,h4,h5⟩;obtain rfl:l=r:=by lia
   exact⟨rfl,l,rfl,h2,h4,h5⟩
  case step =>
   rintro x c st' _ hx ⟨rfl,l,r,rfl,h1,h2,h3,h4,h5⟩;rw[hf];by_cases hge:l ≥ r
   ·rw[if_pos hge];obtain rfl:l=r:=by lia
    exact bg ⟨rfl,l,rfl,h2,h4,h5⟩
   ·rw[if_neg hge];refine aI (DK h0 hk hm ha (by lia) ?_);cases c:bp rk left key arr base (l + (r - l) / 2) with
    |true =>
     simp only[if_true];exact bg ⟨rfl,_,r,rfl,by lia,h2,by lia,fun i hi=>mono (show i<=l + (r - l) / 2 by lia) (by lia) c,h5⟩
    |false =>
     simp only[br,if_false];exact bg ⟨rfl,l,_,rfl,by lia,by lia,by lia,h4,fun i h6 h7=>aeR h6 h7 c⟩
 rw[Yt];dsimp only;refine aI (DK h0 hk hm ha (by lia) ?_);cases c:bp rk left key arr base hint with
 |true =>
  simp only[if_true];refine aI (eC (eS (I:=fun x c st'=>st'=st/\∃lf pZ,c=(none,lf,pZ)/\x + 1<=pZ/\lf < pZ/\hint + lf < n/\bp rk left key arr base (hint + lf)=true)
   (Q:=fun c st'=>st'=st/\∃lf pZ,c=(none,lf,pZ)/\lf < pZ/\hint + lf < n/\bp rk left key arr base (hint + lf)=true/\(n - hint<=pZ∨(hint + pZ < n/\bp rk left key arr base (hint + pZ)=false))) ?step ?gB ⟨rfl,0,1,rfl,by lia,by lia,by lia,c⟩) ?post)
  case post =>
   rintro c st' ⟨rfl,lf,pZ,rfl,h1,h2,h3,h4⟩;refine last (hint + lf + 1) (hint + min pZ (n - hint)) (by lia) (by lia) (fun i hi=>mono (show i<=hint + lf by lia) h2 h3) (fun i h5 h6=>?_) _ _ (fun x l hi=>rfl) (fun l hi=>rfl);rcases h4 with h4|⟨h7,h8⟩
   ·lia
   ·exact aeR (show hint + pZ<=i by lia) h6 h8
  case gB =>
   rintro c st' ⟨rfl,lf,pZ,rfl,h1,h2,h3,h4⟩;exact⟨rfl,lf,pZ,rfl,h2,h3,h4,.inl (by lia)⟩
  case step =>
   rintro x c st' _ hx ⟨rfl,lf,pZ,rfl,h1,h2,h3,h4⟩;dsimp only;by_cases hge:pZ ≥ n - hint
   ·rw[if_pos hge];exact bg ⟨rfl,lf,pZ,rfl,h2,h3,h4,.inl hge⟩
   ·rw[if_neg hge];refine aI (DK h0 hk hm ha (by lia) ?_);cases d:bp rk left key arr base (hint + pZ) with
    |true =>
     simp only[eR,br,if_false];exact bg ⟨rfl,pZ,2 * pZ + 1,rfl,by lia,by lia,by lia,d⟩
    |false =>
     simp only[oj,if_true];exact bg ⟨rfl,lf,pZ,rfl,h2,h3,h4,.inr ⟨by lia,d⟩⟩
 |false =>
  simp only[br,if_false];refine aI (eC (eS (I:=fun x c st'=>st'=st/\∃lf pZ,c=(none,lf,pZ)/\x + 1<=pZ/\lf < pZ/\lf<=hint/\bp rk left key arr base (hint - lf)=false)
   (Q:=fun c st'=>st'=st/\∃lf pZ,c=(none,lf,pZ)/\lf < pZ/\lf<=hint/\bp rk left key arr base (hint - lf)=false/\(hint + 1<=pZ∨(pZ<=hint/\bp rk left key arr base (hint - pZ)=true))) ?step ?gB ⟨rfl,0,1,rfl,by lia,by lia,by lia,c⟩) ?post)
  case post =>
   rintro c st' ⟨rfl,lf,pZ,rfl,h1,h2,h3,h4⟩;refine last (hint + 1 - min pZ (hint + 1)) (hint - lf) (by lia) (by lia) (fun i hi=>?_) (fun i h5 h6=>aeR h5 h6 h3) _ _ (fun x l hi=>rfl) (fun l hi=>rfl);rcases h4 with h4|⟨h7,h8⟩
   ·lia
   ·exact mono (show i<=hint - pZ by lia) (by lia) h8
  case gB =>
   rintro c st' ⟨rfl,lf,pZ,rfl,h1,h2,h3,h4⟩;exact⟨rfl,lf,pZ,rfl,h2,h3,h4,.inl (by lia)⟩
  case step =>
   rintro x c st' _ hx ⟨rfl,lf,pZ,rfl,h1,h2,h3,h4⟩;dsimp only;by_cases hge:pZ ≥ hint + 1
   ·rw[if_pos hge];exact bg ⟨rfl,lf,pZ,rfl,h2,h3,h4,.inl hge⟩
   ·rw[if_neg hge];refine aI (DK h0 hk hm ha (by lia) ?_);cases d:bp rk left key arr base (hint - pZ) with
    |false =>
     simp only[br,if_false];exact bg ⟨rfl,pZ,2 * pZ + 1,rfl,by lia,by lia,by lia,d⟩
    |true =>
     simp only[if_true];exact bg ⟨rfl,lf,pZ,rfl,h2,h3,h4,.inr ⟨by lia,d⟩⟩
end
abbrev fJ(rk:aw->Int)(l:List aw):Prop:=l.Pairwise fun x y=>rk x<=rk y
structure Mg (rk:aw->Int)(a b out:Array aw)(ia ib:Nat):Prop where
 ha:ia<=a.size
 hb:ib<=b.size
 sz:out.size=ia + ib
 pm:(out.toList++(a.toList.drop ia++b.toList.drop ib)).Perm (a.toList++b.toList)
 up:fJ rk out.toList
 bd:∀x∈out.toList,∀y∈a.toList.drop ia++b.toList.drop ib,rk x<=rk y
def Iu(rk:aw->Int)(a b m:Array aw):Prop:=m.toList.Perm (a.toList++b.toList)/\fJ rk m.toList
section
variable{rk:aw->Int}{a b out:Array aw}{ia ib k:Nat}{x y:aw}
theorem rG(a:Array aw)(i j:Nat):(a.extract i j).toList=(a.toList.drop i).take (j - i):=by rw[Array.toList_extract,List.extract_eq_take_drop]
theorem oG(l:List aw)(i k:Nat):l.drop i=(l.drop i).take k++l.drop (i + k):=by rw[<- List.drop_drop,mI]
theorem Mg.ur(h:Mg rk a b out ia ib)(sa:fJ rk a.toList)(hk:ia + k<=a.size)(hc:∀x∈(a.toList.drop ia).take k,∀y∈b.toList.drop ib,rk x<=rk y):Mg rk a b (out++a.extract ia (ia + k)) (ia + k) ib:=by
 have e:(a.extract ia (ia + k)).toList=(a.toList.drop ia).take k:=by rw[rG];congr 1;lia
 have sp:=oG a.toList ia k;have sd:fJ rk (a.toList.drop ia):=j5 (ue _ _) sa;rw[sp]at sd;obtain⟨s1,s2,s3⟩:=gL.mp sd;refine⟨hk,h.hb,?_,?_,?_,?_⟩
 ·rw[k0,rV,h.sz];lia
 ·rw[i0,e];refine ij.trans (oD ?_) h.pm
  conv=>rhs;rw[sp]
  simp only[h_]
 ·rw[i0,e];refine gL.mpr ⟨h.up,s1,fun x hx y hy=>h.bd x hx y ?_⟩;rw[sp];simp[hy]
 ·intro x hx y hy;rw[i0,e]at hx;rcases du.mp hx with hx|hx
  ·refine h.bd x hx y ?_;rw[sp];rcases du.mp hy with hy|hy
   ·simp[hy]
   ·simp[hy]
  ·rcases du.mp hy with hy|hy
   ·exact s3 x hx y hy
   ·exact hc x hx y hy
theorem Mg.swap(h:Mg rk a b out ia ib):Mg rk b a out ib ia:=by
 refine⟨h.hb,h.ha,by rw[h.sz,ui],?_,h.up,fun x hx y hy=>h.bd x hx y ?_⟩
 ·refine(oy _ ku).trans (h.pm.trans ku)
 ·rcases du.mp hy with hy|hy <;> simp[hy]
theorem Mg.NT(h:Mg rk a b out ia ib)(sb:fJ rk b.toList)(hk:ib + k<=b.size)(hc:∀y∈(b.toList.drop ib).take k,∀x∈a.toList.drop ia,rk y<=rk x):Mg rk a b (out++b.extract ib (ib + k)) ia (ib + k) :=
 (h.swap.ur sb hk hc).swap
theorem aaG{a:Array aw}{i:Nat}{x:aw}(h:a[i]?=some x):out.push x=out++a.extract i (i + 1):=by apply qh.mp;rw[qi,i0,rG];obtain⟨hi,rfl⟩:=ie.mp h;rw[iP (by simpa using hi),show i + 1 - i=1 by lia];simp
theorem aow{a:Array aw}{i:Nat}{x z:aw}(h:a[i]?=some x)(hz:z∈(a.toList.drop i).take 1):z=x:=by obtain⟨hi,rfl⟩:=ie.mp h;rw[iP (by simpa using hi)]at hz;simpa using hz
theorem rH{a:Array aw}{i:Nat}{x z:aw}(sa:fJ rk a.toList)(h:a[i]?=some x)(hz:z∈a.toList.drop i):rk x<=rk z:=by
 obtain⟨hi,rfl⟩:=ie.mp h;have sd:fJ rk (a.toList.drop i):=j5 (ue _ _) sa;rw[iP (by simpa using hi)]at hz sd;rcases bP.mp hz with rfl|hz
 ·exact g8 _
 ·have:=(fI.mp sd).1 z hz;simpa using this
theorem Mg.Ce(h:Mg rk a b out ia ib)(sa:fJ rk a.toList)(hx:a[ia]?=some x)(hc:∀y∈b.toList.drop ib,rk x<=rk y):Mg rk a b (out.push x) (ia + 1) ib:=by
 rw[aaG hx];obtain⟨hi,_⟩:=ie.mp hx;exact h.ur sa (by lia) fun z hz y hy=>by rw[aow hx hz];exact hc y hy
theorem Mg.Ld(h:Mg rk a b out ia ib)(sb:fJ rk b.toList)(hx:b[ib]?=some x)(hc:∀y∈a.toList.drop ia,rk x<=rk y):Mg rk a b (out.push x) ia (ib + 1):=(h.swap.Ce sb hx hc).swap
theorem Mg.done(h:Mg rk a b out ia ib)(sa:fJ rk a.toList)(sb:fJ rk b.toList)(hc:∀x∈a.toList.drop ia,∀y∈b.toList.drop ib,rk x<=rk y):Iu rk a b (out++a.extract ia a.size++b.extract ib b.size):=by
 have ha:=h.ha;have hb:=h.hb;have h1:=h.ur (k:=a.size - ia) sa (by lia) fun x hx y hy=>hc x (mM hx) y hy;rw[show ia + (a.size - ia)=a.size by lia]at h1;have h2:=h1.NT (k:=b.size - ib) sb (by lia) fun y hy x hx=>by rw[ml (by simp)]at hx;cases hx
 rw[show ib + (b.size - ib)=b.size by lia]at h2;refine⟨?_,h2.up⟩;have:=h2.pm;rw[ml (by simp),ml (by simp)]at this;simpa using this
theorem Mg.aeS(h:Mg rk a b out ia ib)(sa:fJ rk a.toList)(sb:fJ rk b.toList)(hc:∀y∈b.toList.drop ib,∀x∈a.toList.drop ia,rk y<=rk x):Iu rk a b (out++b.extract ib b.size++a.extract ia a.size):=by obtain⟨h1,h2⟩:=h.swap.done sb sa hc;exact⟨h1.trans ku,h2⟩
theorem nW{a:Array aw}{i k:Nat}{z:aw}(hz:z∈(a.toList.drop i).take k):∃j,j < k/\a[i + j]?=some z:=by
 obtain⟨j,hj⟩:=k6.mp hz;have hk:j < k:=by
  rcases ny j k with h|h
  ·exact h
  ·rw[rX h]at hj;cases hj
 rw[lL hk,oQ]at hj;exact⟨j,hk,by simpa using hj⟩
theorem Eh{a:Array aw}{i:Nat}{z:aw}(hz:z∈a.toList.drop i):∃j,i + j < a.size/\a[i + j]?=some z:=by
 obtain⟨j,hj⟩:=k6.mp hz;rw[oQ]at hj;have h2:a[i + j]?=some z:=by simpa using hj
 exact⟨j,(ie.mp h2).1,h2⟩
theorem Uj(sa:fJ rk a.toList)(i n:Nat)(h:i + n<=a.size):Up rk a i n:=by
 intro p q hpq hq;have hp':i + p < a.size:=by lia
 have hq':i + q < a.size:=by lia
 rw[jx (getElem?_pos a (i + p) hp'),jx (getElem?_pos a (i + q) hq')];by_cases e:p=q
 ·subst e;exact g8 _
 ·have:=ko.mp sa (i + p) (i + q) (by simpa using hp') (by simpa using hq') (by lia);simpa using this
end
def Fy:Array Keyed->Array Keyed->StateT SortSt Sem (Array Keyed):=sortPriv% PySem.Builtin.mergeLo
def qF(g:Nat):StateT be Sem Unit:=modify fun s=>r8 (kindOf s) (ay s) (bX s) g (fq s)
theorem Uk(a b:Array aw):Fy a b=(do
 rule "list.sort.merge-lo"
 let total:=a.size + b.size
 let done (out:Array aw) (ia ib:Nat):=out++a.extract ia a.size++b.extract ib b.size
 let lastOfA (out:Array aw) (ia ib:Nat):=out++b.extract ib b.size++a.extract ia a.size
 let mut out:Array aw:=#[<- df b 0]
 let mut ia:=0
 let mut ib:=1
 if ib == b.size then return done out ia ib
 if ia + 1 == a.size then return lastOfA out ia ib
 let mut minGallop:=gallopOf (<- get)
 for _ in [0:total] do
  let mut acount:=0
  let mut bcount:=0
  for _ in [0:total] do
   let some bWins <- lt' (<- df b ib) (<- df a ia)|return done out ia ib
   if bWins then
    out:=out.push (<- df b ib);ib:=ib + 1;bcount:=bcount + 1;acount:=0
    if ib == b.size then return done out ia ib
    if bcount ≥ minGallop then break
   else
    out:=out.push (<- df a ia);ia:=ia + 1;acount:=acount + 1;bcount:=0
    if ia + 1 == a.size then return lastOfA out ia ib
    if acount ≥ minGallop then break
  rule "list.sort.gallop"
  minGallop:=minGallop + 1
  for _ in [0:total] do
   if minGallop > 1 then minGallop:=minGallop - 1
   qF minGallop
   let some k <- jh false (<- df b ib) a ia (a.size - ia) 0|return done out ia ib
   acount:=k
   if k > 0 then
    out:=out++a.extract ia (ia + k);ia:=ia + k
    if ia + 1 == a.size then return lastOfA out ia ib
    if ia == a.size then return done out ia ib
   out:=out.push (<- df b ib);ib:=ib + 1
   if ib == b.size then return done out ia ib
   let some k <- jh true (<- df a ia) b ib (b.size - ib) 0|return done out ia ib
   bcount:=k
   if k > 0 then
    out:=out++b.extract ib (ib + k);ib:=ib + k
    if ib == b.size then return done out ia ib
   out:=out.push (<- df a ia);ia:=ia + 1
   if ia + 1 == a.size then return lastOfA out ia ib
   if acount < 7 && bcount < 7 then break
  minGallop:=minGallop + 1
  qF minGallop
 unsupported "internal:list.sort.merge-bound"):=rfl
abbrev LoS:=Option (Array aw)×Array aw×Nat×Nat×Nat×Nat×Nat
def aaH(a b out:Array aw)(ia ib mg ac bc:Nat):StateT be Sem (ForInStep LoS):=do
 let x <- df a ia
 if (ia + 1 + 1 == a.size)=true then pure (.done (some (out.push x++b.extract ib b.size++a.extract (ia + 1) a.size),out.push x,ia + 1,ib,mg,ac,bc))
 else if (decide (ac < 7) && decide (bc < 7))=true then pure (.done (none,out.push x,ia + 1,ib,mg,ac,bc))
 else pure (.yield (none,out.push x,ia + 1,ib,mg,ac,bc))
def NZ(a b out:Array aw)(ia ib mg ac bc:Nat):StateT be Sem (ForInStep LoS):=do
 let y <- df b ib
 if (ib + 1 == b.size)=true then pure (.done (some (out.push y++a.extract ia a.size++b.extract (ib + 1) b.size),out.push y,ia,ib + 1,mg,ac,bc))
 else do
  let x <- df a ia
  let __x <- jh true x b (ib + 1) (b.size - (ib + 1)) 0
  match __x with
  |some k =>
   if k > 0 then
    if (ib + 1 + k == b.size)=true then pure (.done (some (out.push y++b.extract (ib + 1) (ib + 1 + k)++a.extract ia a.size++b.extract (ib + 1 + k) b.size),out.push y++b.extract (ib + 1) (ib + 1 + k),ia,ib + 1 + k,mg,ac,k))
    else aaH a b (out.push y++b.extract (ib + 1) (ib + 1 + k)) ia (ib + 1 + k) mg ac k
   else aaH a b (out.push y) ia (ib + 1) mg ac k
  |_=>pure (.done (some (out.push y++a.extract ia a.size++b.extract (ib + 1) b.size),out.push y,ia,ib + 1,mg,ac,bc))
def dB(st st':be):Prop:=ay st'=ay st/\kindOf st'=kindOf st/\bX st'=bX st/\fq st'=fq st
theorem dB.refl(st:be):dB st st:=⟨rfl,rfl,rfl,rfl⟩
theorem dB.trans{x y z:be}(h:dB x y)(g:dB y z):dB x z:=⟨g.1.trans h.1,g.2.1.trans h.2.1,g.2.2.1.trans h.2.2.1,g.2.2.2.trans h.2.2.2⟩
section
variable{prog:aE}{w:az}{A:aS}{E:aa->ae->Prop}{s:ae}{a₀:Array aw}{κ:fm}{rk:aw->Int}{a b:Array aw}
theorem qG{g:Nat}{Q:Unit->be->Prop}{st:be}(h:∀st',dB st st'->Q () st'):wpS (ar prog w) A E s (qF g) Q st :=
 i7 (h _ ⟨rfl,rfl,rfl,rfl⟩)
structure Ul (prog:aE)(w:az)(A:aS)(s:ae)(κ:fm)(rk:aw->Int)(a₀ a b:Array aw):Prop where
 h0:Ax prog w A s κ rk a₀
 sa:fJ rk a.toList
 sb:fJ rk b.toList
 ma:∀x∈a.toList,x∈a₀.toList
 mb:∀x∈b.toList,x∈a₀.toList
 la:0 < a.size
 lb:0 < b.size
 lt0:R rk b 0 < R rk a 0
 last:∀x∈b.toList,rk x<=R rk a (a.size - 1)
theorem qb{xs:Array aw}{i:Nat}{x:aw}(h:xs[i]?=some x):x∈xs.toList:=by obtain⟨hi,rfl⟩:=ie.mp h;simp
theorem fV{xs:Array aw}{i:Nat}(h:i < xs.size):∃x,xs[i]?=some x:=⟨_,getElem?_pos xs i h⟩
theorem Ul.aaI(m:Ul prog w A s κ rk a₀ a b){out:Array aw}{ia ib:Nat}(h:Mg rk a b out ia ib)(e:ia + 1=a.size):Iu rk a b (out++b.extract ib b.size++a.extract ia a.size):=by refine h.aeS m.sa m.sb fun y hy x hx=>?_;obtain⟨x',hx'⟩:=fV (xs:=a) (i:=ia) (by lia);have e1:=m.last y (List.mem_of_mem_drop hy);rw[show a.size - 1=ia by lia,jx hx']at e1;exact eI e1 (rH m.sa hx' hx)
theorem Ul.aij(m:Ul prog w A s κ rk a₀ a b){out:Array aw}{ia ib:Nat}(h:Mg rk a b out ia ib)(e:ib=b.size):Iu rk a b (out++a.extract ia a.size++b.extract ib b.size):=by refine h.done m.sa m.sb fun x hx y hy=>?_;subst e;rw[ml (by simp)]at hy;cases hy
def LoQ(rk:aw->Int)(a b:Array aw)(κ:fm)(st:be)(n:Nat):ForInStep LoS->be->Prop:=fun r st'=>dB st st'/\match r with
 | .done c=>(∃m,c.1=some m/\Iu rk a b m)∨(c.1=none/\Mg rk a b c.2.1 c.2.2.1 c.2.2.2.1/\c.2.2.1 + 1 < a.size/\c.2.2.2.1 < b.size/\n<=c.2.1.size)
 | .yield c=>c.1=none/\Mg rk a b c.2.1 c.2.2.1 c.2.2.2.1/\c.2.2.1 + 1 < a.size/\c.2.2.2.1 < b.size/\n < c.2.1.size
theorem Le(m:Ul prog w A s κ rk a₀ a b){out:Array aw}{ia ib mg ac bc n:Nat}{st0 st:be}(hS:dB st0 st)(h:Mg rk a b out ia ib)(h1:ia + 1 < a.size)(h2:ib < b.size)(hn:n<=out.size)(hc:∀x y,a[ia]?=some x->y∈b.toList.drop ib->rk x<=rk y) :
  wpS (ar prog w) A E s (aaH a b out ia ib mg ac bc) (LoQ rk a b κ st0 n) st:=by
 unfold aaH;obtain⟨x,hx⟩:=fV (xs:=a) (i:=ia) (by lia);refine aI (cB hx ?_);have h':=h.Ce m.sa hx (fun y hy=>hc x y hx hy);have sz:n < (out.push x).size:=by rw[g9];lia
 split
 ·rename_i e;exact bg ⟨hS,.inl ⟨_,rfl,m.aaI h' (by simpa using e)⟩⟩
 ·rename_i e;have e':ia + 1 + 1 < a.size:=by
   have:¬ia + 1 + 1=a.size:=by simpa using e
   lia
  split
  ·exact bg ⟨hS,.inr ⟨rfl,h',e',h2,fR sz⟩⟩
  ·exact bg ⟨hS,rfl,h',e',h2,sz⟩
theorem Fz(m:Ul prog w A s κ rk a₀ a b){out:Array aw}{ia ib mg ac bc n:Nat}{st0 st:be}(hk:kindOf st=κ)(hS:dB st0 st)(h:Mg rk a b out ia ib)(h1:ia + 1 < a.size)(h2:ib < b.size)(hn:n<=out.size)(hc:∀y x,b[ib]?=some y->x∈a.toList.drop ia->rk y<=rk x) :
  wpS (ar prog w) A E s (NZ a b out ia ib mg ac bc) (LoQ rk a b κ st0 n) st:=by
 unfold NZ;obtain⟨y,hy⟩:=fV (xs:=b) (i:=ib) h2;refine aI (cB hy ?_);have h':=h.Ld m.sb hy (fun x hx=>hc y x hy hx);have sz:n < (out.push y).size:=by rw[g9];lia
 split
 ·rename_i e;exact bg ⟨hS,.inl ⟨_,rfl,m.aij h' (by simpa using e)⟩⟩
 ·rename_i e;have e':ib + 1 < b.size:=by
   have:¬ib + 1=b.size:=by simpa using e
   lia
  obtain⟨x,hx⟩:=fV (xs:=a) (i:=ia) (by lia);refine aI (cB hx ?_);refine aI (lN m.h0 hk (m.ma x (qb hx)) m.mb (by lia) (by lia) (Uj m.sb _ _ (by lia)) fun k k1 k2 k3=>?_);have chunk:∀z∈(b.toList.drop (ib + 1)).take k,∀v∈a.toList.drop ia,rk z<=rk v:=fun z hz v hv=>by
   obtain⟨j,hj,ej⟩:=nW hz;have:=k2 j hj;unfold bp at this;rw[jx ej]at this;have q:rk z < rk x:=by simpa using this
   exact eI (gf q) (rH m.sa hx hv)
  have rest:∀v,v∈b.toList.drop (ib + 1 + k)->rk x<=rk v:=fun v hv=>by obtain⟨j,hj,ej⟩:=Eh hv;rw[oS (ib + 1) k j]at ej;have:=k3 (k + j) (by lia) (by lia);unfold bp at this;rw[jx ej]at this;simpa using this
  dsimp only;split
  ·rename_i kp;have h'':=h'.NT m.sb (k:=k) (by lia) chunk;have sz':n<=(out.push y++b.extract (ib + 1) (ib + 1 + k)).size:=by rw[k0];lia
   split
   ·rename_i e2;exact bg ⟨hS,.inl ⟨_,rfl,m.aij h'' (by simpa using e2)⟩⟩
   ·rename_i e2;have e2':ib + 1 + k < b.size:=by
     have:¬ib + 1 + k=b.size:=by simpa using e2
     lia
    exact Le m hS h'' h1 e2' sz' fun x' v hx' hv=>by rw[hx]at hx';cases hx';exact rest v hv
  ·rename_i kp;obtain rfl:k=0:=by lia
   exact Le m hS h' h1 e' (fR sz) fun x' v hx' hv=>by rw[hx]at hx';cases hx';exact rest v hv
end
section
variable{prog:aE}{w:az}{A:aS}{E:aa->ae->Prop}{s:ae}{a₀:Array aw}{κ:fm}{rk:aw->Int}{a b:Array aw}
theorem Mg.nil:Mg rk a b #[] 0 0:=⟨eB _,eB _,rfl,by simp,by simp,fun x hx=>by simp at hx⟩
theorem iu{a b:Nat}(h:¬(a == b)=true):a≠b:=fun e=>h (by simp[e])
theorem mR{a b:Nat}(h:(a == b)=true):a=b:=by simpa using h
theorem cH{α:Type}{c:Prop}[Decidable c]{t f:StateT be Sem α}{Q:α->be->Prop}{st:be}(ht:c->wpS (ar prog w) A E s t Q st)(hf:¬c->wpS (ar prog w) A E s f Q st):wpS (ar prog w) A E s (if c then t else f) Q st:=by
 by_cases h:c
 ·rw[if_pos h];exact ht h
 ·rw[if_neg h];exact hf h
theorem FJ(m:Ul prog w A s κ rk a₀ a b){out:Array aw}{ia ib n:Nat}{st0 st:be}(hk:kindOf st=κ)(hS:dB st0 st)(h:Mg rk a b out ia ib)(h1:ia + 1 < a.size)(h2:ib < b.size)(hn:n<=out.size)
  {f:Option Nat->StateT be Sem (ForInStep LoS)}{mg bc:Nat}(hf:∀k,f (some k)=if k > 0 then
    if (ia + k + 1 == a.size)=true then pure (.done (some (out++a.extract ia (ia + k)++b.extract ib b.size++a.extract (ia + k) a.size),out++a.extract ia (ia + k),ia + k,ib,mg,k,bc))
    else if (ia + k == a.size)=true then pure (.done (some (out++a.extract ia (ia + k)++a.extract (ia + k) a.size++b.extract ib b.size),out++a.extract ia (ia + k),ia + k,ib,mg,k,bc))
    else NZ a b (out++a.extract ia (ia + k)) (ia + k) ib mg k bc
   else NZ a b out ia ib mg k bc) :
  wpS (ar prog w) A E s (do let y <- df b ib;let r <- jh false y a ia (a.size - ia) 0;f r) (LoQ rk a b κ st0 n) st:=by
 obtain⟨y,hy⟩:=fV (xs:=b) (i:=ib) h2;refine aI (cB hy ?_);refine aI (lN m.h0 hk (m.mb y (qb hy)) m.ma (by lia) (by lia) (Uj m.sa _ _ (by lia)) fun k k1 k2 k3=>?_);rw[hf];have chunk:∀z∈(a.toList.drop ia).take k,∀v∈b.toList.drop ib,rk z<=rk v:=fun z hz v hv=>by
  obtain⟨j,hj,ej⟩:=nW hz;have:=k2 j hj;unfold bp at this;rw[jx ej]at this;have q:rk z<=rk y:=by simpa using this
  exact eI q (rH m.sb hy hv)
 have rest:∀v,v∈a.toList.drop (ia + k)->rk y<=rk v:=fun v hv=>by
  obtain⟨j,hj,ej⟩:=Eh hv;rw[oS ia k j]at ej;have:=k3 (k + j) (by lia) (by lia);unfold bp at this;rw[jx ej]at this;have q:rk y < rk v:=by simpa using this
  exact gf q
 split
 ·rename_i kp;have h':=h.ur m.sa (k:=k) (by lia) chunk;have sz':n<=(out++a.extract ia (ia + k)).size:=by rw[k0];lia
  split
  ·rename_i e;exact bg ⟨hS,.inl ⟨_,rfl,m.aaI h' (mR e)⟩⟩
  ·rename_i e;have e:=iu e;split
   ·rename_i e2;refine bg ⟨hS,.inl ⟨_,rfl,h'.done m.sa m.sb fun x hx=>?_⟩⟩;rw[mR e2,ml (by simp)]at hx;cases hx
   ·rename_i e2;have e2:=iu e2;exact Fz m hk hS h' (by lia) h2 sz' fun y' x hy' hx=>by rw[hy]at hy';cases hy';exact rest x hx
 ·rename_i kp;obtain rfl:k=0:=by lia
  exact Fz m hk hS h h1 h2 hn fun y' x hy' hx=>by rw[hy]at hy';cases hy';exact rest x hx
theorem Um(m:Ul prog w A s κ rk a₀ a b){st:be}(hk:kindOf st=κ){Q:Array aw->be->Prop}(h:∀mm st',dB st st'->Iu rk a b mm->Q mm st') :
  wpS (ar prog w) A E s (Fy a b) Q st:=by
 rw[Uk];dsimp only;refine aI (kX (gT ⟨rfl,?_⟩));obtain⟨y0,hy0⟩:=fV (xs:=b) (i:=0) m.lb;obtain⟨x0,hx0⟩:=fV (xs:=a) (i:=0) m.la;refine aI (cB hy0 ?_);have l0:=m.lt0;rw[jx hy0,jx hx0]at l0;have M0:Mg rk a b #[y0] 0 1:=Mg.nil.Ld m.sb hy0 fun v hv=>eI (gf l0) (rH m.sa hx0 hv);have la:=m.la;have lb:=m.lb;refine cH (fun e=>bg (h _ _ (.refl _) (m.aij M0 (mR e)))) fun e1=>?_;have e1:=iu e1;refine cH (fun e=>bg (h _ _ (.refl _) (m.aaI M0 (mR e)))) fun e2=>?_;have e2:=iu e2;refine aI (g7 ?_);refine aI (eC (eS (I:=fun x c st'=>dB st st'/\∃out ia ib mg,c=(none,out,ia,ib,mg)/\Mg rk a b out ia ib/\ia + 1 < a.size/\ib < b.size/\x + 1<=out.size)
  (Q:=fun c st'=>dB st st'/\∃mm rest,c=(some mm,rest)/\Iu rk a b mm) ?step ?gB ⟨.refl _,#[y0],0,1,_,rfl,M0,by lia,by lia,by simp⟩) ?post)
 case post =>
  rintro c st' ⟨hS,mm,rest,rfl,hr⟩;exact bg (h mm st' hS hr)
 case gB =>
  rintro c st' ⟨hS,out,ia,ib,mg,rfl,hM,h1,h2,h3⟩;have:=hM.sz;lia
 case step =>
  rintro x c st' _ hx ⟨hS,out,ia,ib,mg,rfl,hM,h1,h2,h3⟩;dsimp only;refine aI (eC (eS (I:=fun y c st''=>dB st st''/\∃out ia ib ac bc,c=(none,out,ia,ib,ac,bc)/\Mg rk a b out ia ib/\ia + 1 < a.size/\ib < b.size/\x + 1 + y<=out.size)
   (Q:=fun c st''=>dB st st''/\((∃mm rest,c=(some mm,rest)/\Iu rk a b mm)∨∃out ia ib ac bc,c=(none,out,ia,ib,ac,bc)/\Mg rk a b out ia ib/\ia + 1 < a.size/\ib < b.size/\x + 2<=out.size)) ?istep ?ifin ⟨hS,out,ia,ib,0,0,rfl,hM,h1,h2,by lia⟩) ?ipost)
  case ifin =>
   rintro c st'' ⟨hS,out,ia,ib,ac,bc,rfl,hM,h1,h2,h3⟩;have:=hM.sz;lia
  case istep =>
   rintro y c st'' _ hy ⟨hS,out,ia,ib,ac,bc,rfl,hM,h1,h2,h3⟩;dsimp only;obtain⟨p,hp⟩:=fV (xs:=b) (i:=ib) h2;obtain⟨q,hq⟩:=fV (xs:=a) (i:=ia) (by lia);refine aI (cB hp (aI (cB hq (aI (Fw m.h0 (hS.2.1.trans hk) (m.mb p (qb hp)) (m.ma q (qb hq)) ?_)))));by_cases c:rk p < rk q
   ·simp only[c,decide_true,if_true];refine aI (cB hp ?_);have hM':=hM.Ld m.sb hp fun v hv=>eI (gf c) (rH m.sa hq hv);split
    ·rename_i e;exact bg ⟨hS,.inl ⟨_,_,rfl,m.aij hM' (mR e)⟩⟩
    ·rename_i e;have e:=iu e;split
     ·exact bg ⟨hS,.inr ⟨_,_,_,_,_,rfl,hM',h1,by lia,by rw[g9];lia⟩⟩
     ·exact bg ⟨hS,_,_,_,_,_,rfl,hM',h1,by lia,by rw[g9];lia⟩
   ·simp only[c,decide_false,br,if_false];refine aI (cB hq ?_);have hM':=hM.Ce m.sa hq fun v hv=>eI (oP.mp c) (rH m.sb hp hv);split
    ·rename_i e;exact bg ⟨hS,.inl ⟨_,_,rfl,m.aaI hM' (mR e)⟩⟩
    ·rename_i e;have e:=iu e;split
     ·exact bg ⟨hS,.inr ⟨_,_,_,_,_,rfl,hM',by lia,h2,by rw[g9];lia⟩⟩
     ·exact bg ⟨hS,_,_,_,_,_,rfl,hM',by lia,h2,by rw[g9];lia⟩
  case ipost =>
   rintro c st'' ⟨hS,⟨mm,rest,rfl,hr⟩|⟨out,ia,ib,ac,bc,rfl,hM,h1,h2,h3⟩⟩
   ·exact bg ⟨hS,mm,_,rfl,hr⟩
   ·dsimp only;refine aI (kX (gT ⟨rfl,?_⟩));refine aI (eC (eS (I:=fun y c st3=>dB st st3/\∃out ia ib mg ac bc,c=(none,out,ia,ib,mg,ac,bc)/\Mg rk a b out ia ib/\ia + 1 < a.size/\ib < b.size/\x + 2 + y<=out.size)
     (Q:=fun c st3=>dB st st3/\((∃mm rest,c=(some mm,rest)/\Iu rk a b mm)∨∃out ia ib mg ac bc,c=(none,out,ia,ib,mg,ac,bc)/\Mg rk a b out ia ib/\ia + 1 < a.size/\ib < b.size/\x + 2<=out.size)) ?aeT ?alJ ⟨hS,out,ia,ib,_,ac,bc,rfl,hM,h1,h2,by lia⟩) ?aeU)
    case alJ =>
     rintro c st3 ⟨hS,out,ia,ib,mg,ac,bc,rfl,hM,h1,h2,h3⟩;have:=hM.sz;lia
    case aeU =>
     rintro c st3 ⟨hS,⟨mm,rest,rfl,hr⟩|⟨out,ia,ib,mg,ac,bc,rfl,hM,h1,h2,h3⟩⟩
     ·exact bg ⟨hS,mm,_,rfl,hr⟩
     ·dsimp only;refine aI (qG fun KN Ir=>?_);exact bg ⟨hS.trans Ir,_,_,_,_,rfl,hM,h1,h2,by lia⟩
    case aeT =>
     rintro y c st3 _ hy ⟨hS,out,ia,ib,mg,ac,bc,rfl,hM,h1,h2,h3⟩;have cD:∀(c:LoS) (st':be),LoQ rk a b κ st (x + 2 + y) (.done c) st'->dB st st'/\((∃mm rest,c=(some mm,rest)/\Iu rk a b mm)∨∃out ia ib mg ac bc,c=(none,out,ia,ib,mg,ac,bc)/\Mg rk a b out ia ib/\ia + 1 < a.size/\ib < b.size/\x + 2<=out.size):=by
      rintro⟨c1,out,ia,ib,mg,ac,bc⟩ st' ⟨hS,⟨mm,e,hr⟩|⟨e,hM,h1,h2,h3⟩⟩
      ·cases e;exact⟨hS,.inl ⟨mm,_,rfl,hr⟩⟩
      ·cases e;dsimp only at h1 h2 h3;exact⟨hS,.inr ⟨_,_,_,_,_,_,rfl,hM,h1,h2,by lia⟩⟩
     have cY:∀(c:LoS) (st':be),LoQ rk a b κ st (x + 2 + y) (.yield c) st'->dB st st'/\∃out ia ib mg ac bc,c=(none,out,ia,ib,mg,ac,bc)/\Mg rk a b out ia ib/\ia + 1 < a.size/\ib < b.size/\x + 2 + (y + 1)<=out.size:=by rintro⟨c1,out,ia,ib,mg,ac,bc⟩ st' ⟨hS,e,hM,h1,h2,h3⟩;cases e;dsimp only at h1 h2 h3;exact⟨hS,_,_,_,_,_,_,rfl,hM,h1,h2,by lia⟩
     dsimp only;refine cH (fun _=>?_) (fun _=>?_)
     ·refine aI (qG fun KN Ir=>?_);exact eC (FJ m ((hS.trans Ir).2.1.trans hk) (hS.trans Ir) hM h1 h2 h3 (fun k=>rfl)) fun r st' hq=>match r,hq with|.done c,hq=>cD c st' hq|.yield c,hq=>cY c st' hq
     ·refine aI (qG fun KN Ir=>?_);exact eC (FJ m ((hS.trans Ir).2.1.trans hk) (hS.trans Ir) hM h1 h2 h3 (fun k=>rfl)) fun r st' hq=>match r,hq with|.done c,hq=>cD c st' hq|.yield c,hq=>cY c st' hq
end
def FN:Array Keyed->Array Keyed->StateT SortSt Sem (Array Keyed):=sortPriv% PySem.Builtin.mergeHi
theorem Uo(a b:Array aw):FN a b=(do
 rule "list.sort.merge-hi"
 let total:=a.size + b.size
 let done (out:Array aw) (na nb:Nat):=a.extract 0 na++b.extract 0 nb++out.reverse
 let firstOfB (out:Array aw) (na nb:Nat):=b.extract 0 nb++a.extract 0 na++out.reverse
 let mut na:=a.size - 1
 let mut nb:=b.size
 let mut out:Array aw:=#[<- df a na]
 if na == 0 then return done out na nb
 if nb == 1 then return firstOfB out na nb
 let mut minGallop:=gallopOf (<- get)
 for _ in [0:total] do
  let mut acount:=0
  let mut bcount:=0
  for _ in [0:total] do
   let some aWins <- lt' (<- df b (nb - 1)) (<- df a (na - 1))|return done out na nb
   if aWins then
    na:=na - 1;out:=out.push (<- df a na);acount:=acount + 1;bcount:=0
    if na == 0 then return done out na nb
    if acount ≥ minGallop then break
   else
    nb:=nb - 1;out:=out.push (<- df b nb);bcount:=bcount + 1;acount:=0
    if nb == 1 then return firstOfB out na nb
    if bcount ≥ minGallop then break
  rule "list.sort.gallop"
  minGallop:=minGallop + 1
  for _ in [0:total] do
   if minGallop > 1 then minGallop:=minGallop - 1
   qF minGallop
   let some at_ <- jh false (<- df b (nb - 1)) a 0 na (na - 1)|return done out na nb
   let k:=na - at_
   acount:=k
   if k > 0 then
    out:=out++(a.extract at_ na).reverse;na:=at_
    if na == 0 then return done out na nb
   nb:=nb - 1;out:=out.push (<- df b nb)
   if nb == 1 then return firstOfB out na nb
   let some at_ <- jh true (<- df a (na - 1)) b 0 nb (nb - 1)|return done out na nb
   let k:=nb - at_
   bcount:=k
   if k > 0 then
    out:=out++(b.extract at_ nb).reverse;nb:=at_
    if nb == 1 then return firstOfB out na nb
    if nb == 0 then return done out na nb
   na:=na - 1;out:=out.push (<- df a na)
   if na == 0 then return done out na nb
   if acount < 7 && bcount < 7 then break
  minGallop:=minGallop + 1
  qF minGallop
 unsupported "internal:list.sort.merge-bound"):=rfl
structure Mh (rk:aw->Int)(a b out:Array aw)(na nb:Nat):Prop where
 ha:na<=a.size
 hb:nb<=b.size
 sz:out.size + (na + nb)=a.size + b.size
 pm:((a.toList.take na++b.toList.take nb)++out.toList.reverse).Perm (a.toList++b.toList)
 up:fJ rk out.toList.reverse
 bd:∀y∈a.toList.take na++b.toList.take nb,∀x∈out.toList,rk y<=rk x
section
variable{rk:aw->Int}{a b out:Array aw}{na nb k:Nat}{x y:aw}
theorem Yu(l:List aw){i n:Nat}(h:i<=n):l.take n=l.take i++(l.take n).drop i:=by
 conv=>lhs;rw[<- mI i (l.take n)]
 rw[List.take_take,Nat.min_eq_left h]
theorem Mh.ur(h:Mh rk a b out na nb)(sa:fJ rk a.toList)(hk:k<=na)(hc:∀x∈(a.toList.take na).drop k,∀y∈b.toList.take nb,rk y<=rk x):Mh rk a b (out++(a.extract k na).reverse) k nb:=by
 have ha:=h.ha;have e:(a.extract k na).toList=(a.toList.take na).drop k:=by rw[rG,List.drop_take]
 have sp:=Yu a.toList hk;have sd:fJ rk (a.toList.take na):=j5 (nS _ _) sa;rw[sp]at sd;obtain⟨s1,s2,s3⟩:=gL.mp sd;have er:(out++(a.extract k na).reverse).toList.reverse=(a.toList.take na).drop k++out.toList.reverse:=by rw[i0,List.reverse_append,Array.toList_reverse,List.reverse_reverse,e]
 refine⟨by lia,h.hb,?_,?_,?_,?_⟩
 ·have:=h.sz;rw[k0,Array.size_reverse,rV];lia
 ·rw[er];refine ij.trans ?_ h.pm
  conv=>rhs;rw[sp]
  simp only[h_];refine oy _ ?_;rw[<- h_,<- h_];exact vw _ ku
 ·rw[er];refine gL.mpr ⟨s2,h.up,fun x hx y hy=>h.bd x ?_ y (o3.mp hy)⟩;rw[sp];simp[hx]
 ·intro y hy x hx;have hx':x∈(a.toList.take na).drop k++out.toList.reverse:=by rw[<- er];exact o3.mpr hx
  rcases du.mp hx' with hx|hx
  ·rcases du.mp hy with hy|hy
   ·exact s3 y hy x hx
   ·exact hc x hx y hy
  ·refine h.bd y ?_ x (o3.mp hx);rw[sp];rcases du.mp hy with hy|hy <;> simp[hy]
theorem Mh.swap(h:Mh rk a b out na nb):Mh rk b a out nb na:=by
 refine⟨h.hb,h.ha,by have:=h.sz;lia,?_,h.up,fun y hy x hx=>h.bd y ?_ x hx⟩
 ·exact(vw _ ku).trans (h.pm.trans ku)
 ·rcases du.mp hy with hy|hy <;> simp[hy]
theorem Mh.NT(h:Mh rk a b out na nb)(sb:fJ rk b.toList)(hk:k<=nb)(hc:∀y∈(b.toList.take nb).drop k,∀x∈a.toList.take na,rk x<=rk y):Mh rk a b (out++(b.extract k nb).reverse) na k :=
 (h.swap.ur sb hk hc).swap
theorem aeV{a:Array aw}{n:Nat}{x:aw}(hn:0 < n)(h:a[n - 1]?=some x):out.push x=out++(a.extract (n - 1) n).reverse:=by
 have e:=aaG (out:=#[]) h;have e2:a.extract (n - 1) n=#[x]:=by rw[show n - 1 + 1=n by lia]at e;simpa using e.symm
 rw[e2];rfl
theorem ard{a:Array aw}{n:Nat}{x z:aw}(hn:0 < n)(h:a[n - 1]?=some x)(hz:z∈(a.toList.take n).drop (n - 1)):z=x:=by
 obtain⟨j,hj⟩:=k6.mp hz;rw[oQ]at hj;have hl:n - 1 + j < n:=by
  rcases ny (n - 1 + j) n with q|q
  ·exact q
  ·rw[rX q]at hj;cases hj
 obtain rfl:j=0:=by lia
 rw[lL hl]at hj;have:a[n - 1]?=some z:=by simpa using hj
 rw[this]at h;cases h;rfl
theorem yE{a:Array aw}{n:Nat}{x z:aw}(hn:0 < n)(sa:fJ rk a.toList)(h:a[n - 1]?=some x)(hz:z∈a.toList.take n):rk z<=rk x:=by
 obtain⟨j,hj⟩:=k6.mp hz;have hl:j < n:=by
  rcases ny j n with q|q
  ·exact q
  ·rw[rX q]at hj;cases hj
 rw[lL hl]at hj;have hj':a[j]?=some z:=by simpa using hj
 obtain⟨q1,_⟩:=ie.mp hj';obtain⟨q2,_⟩:=ie.mp h;have:=Uj sa 0 a.size (by lia) j (n - 1) (by lia) (by lia);rw[iq,iq,jx hj',jx h]at this;exact this
theorem Mh.Ce(h:Mh rk a b out na nb)(sa:fJ rk a.toList)(hn:0 < na)(hx:a[na - 1]?=some x)(hc:∀y∈b.toList.take nb,rk y<=rk x):Mh rk a b (out.push x) (na - 1) nb:=by
 rw[aeV hn hx];exact h.ur sa (by lia) fun z hz y hy=>by rw[ard hn hx hz];exact hc y hy
theorem Mh.Ld(h:Mh rk a b out na nb)(sb:fJ rk b.toList)(hn:0 < nb)(hx:b[nb - 1]?=some x)(hc:∀y∈a.toList.take na,rk y<=rk x):Mh rk a b (out.push x) na (nb - 1):=(h.swap.Ce sb hn hx hc).swap
theorem Mh.done(h:Mh rk a b out na nb)(sa:fJ rk a.toList)(sb:fJ rk b.toList)(hc:∀x∈a.toList.take na,∀y∈b.toList.take nb,rk x<=rk y):Iu rk a b (a.extract 0 na++b.extract 0 nb++out.reverse):=by
 have e:(a.extract 0 na++b.extract 0 nb++out.reverse).toList=(a.toList.take na++b.toList.take nb)++out.toList.reverse:=by rw[i0,i0,rG,rG,Array.toList_reverse];simp
 refine⟨by rw[e];exact h.pm,?_⟩;rw[e];refine gL.mpr ⟨gL.mpr ⟨j5 (nS _ _) sa,j5 (nS _ _) sb,hc⟩,h.up,fun y hy x hx=>h.bd y hy x (o3.mp hx)⟩
theorem Mh.aeS(h:Mh rk a b out na nb)(sa:fJ rk a.toList)(sb:fJ rk b.toList)(hc:∀y∈b.toList.take nb,∀x∈a.toList.take na,rk y<=rk x):Iu rk a b (b.extract 0 nb++a.extract 0 na++out.reverse):=by obtain⟨h1,h2⟩:=h.swap.done sb sa hc;exact⟨h1.trans ku,h2⟩
theorem Oa{a:Array aw}{n k:Nat}{z:aw}(hz:z∈(a.toList.take n).drop k):∃j,k<=j/\j < n/\a[j]?=some z:=by
 obtain⟨j,hj⟩:=k6.mp hz;rw[oQ]at hj;have hl:k + j < n:=by
  rcases ny (k + j) n with q|q
  ·exact q
  ·rw[rX q]at hj;cases hj
 rw[lL hl]at hj;exact⟨k + j,by lia,hl,by simpa using hj⟩
theorem aaJ{a:Array aw}{n:Nat}{z:aw}(hz:z∈a.toList.take n):∃j,j < n/\a[j]?=some z:=by obtain⟨j,_,h2,h3⟩:=Oa (k:=0) (by simpa using hz);exact⟨j,h2,h3⟩
theorem Mh.nil:Mh rk a b #[] a.size b.size:=⟨bo _,bo _,by simp,by rw[tP (by simp),tP (by simp)];simp,by simp,fun y _ x hx=>by simp at hx⟩
end
abbrev HiS:=Option (Array aw)×Nat×Nat×Array aw×Nat×Nat×Nat
def aaK(a b out:Array aw)(na nb mg ac bc:Nat):StateT be Sem (ForInStep HiS):=do
 let x <- df a (na - 1)
 if (na - 1 == 0)=true then pure (.done (some (a.extract 0 (na - 1)++b.extract 0 nb++(out.push x).reverse),na - 1,nb,out.push x,mg,ac,bc))
 else if (decide (ac < 7) && decide (bc < 7))=true then pure (.done (none,na - 1,nb,out.push x,mg,ac,bc))
 else pure (.yield (none,na - 1,nb,out.push x,mg,ac,bc))
def Ob(a b out:Array aw)(na nb mg ac bc:Nat):StateT be Sem (ForInStep HiS):=do
 let y <- df b (nb - 1)
 if (nb - 1 == 1)=true then pure (.done (some (b.extract 0 (nb - 1)++a.extract 0 na++(out.push y).reverse),na,nb - 1,out.push y,mg,ac,bc))
 else do
  let x <- df a (na - 1)
  let __x <- jh true x b 0 (nb - 1) (nb - 1 - 1)
  match __x with
  |some k =>
   if nb - 1 - k > 0 then
    if (k == 1)=true then pure (.done (some (b.extract 0 k++a.extract 0 na++(out.push y++(b.extract k (nb - 1)).reverse).reverse),na,k,out.push y++(b.extract k (nb - 1)).reverse,mg,ac,nb - 1 - k))
    else if (k == 0)=true then pure (.done (some (a.extract 0 na++b.extract 0 k++(out.push y++(b.extract k (nb - 1)).reverse).reverse),na,k,out.push y++(b.extract k (nb - 1)).reverse,mg,ac,nb - 1 - k))
    else aaK a b (out.push y++(b.extract k (nb - 1)).reverse) na k mg ac (nb - 1 - k)
   else aaK a b (out.push y) na (nb - 1) mg ac (nb - 1 - k)
  |_=>pure (.done (some (a.extract 0 na++b.extract 0 (nb - 1)++(out.push y).reverse),na,nb - 1,out.push y,mg,ac,bc))
section
variable{prog:aE}{w:az}{A:aS}{E:aa->ae->Prop}{s:ae}{a₀:Array aw}{κ:fm}{rk:aw->Int}{a b:Array aw}
theorem Ul.aik(m:Ul prog w A s κ rk a₀ a b){out:Array aw}{na nb:Nat}(h:Mh rk a b out na nb)(e:nb=1):Iu rk a b (b.extract 0 nb++a.extract 0 na++out.reverse):=by refine h.aeS m.sa m.sb fun y hy x hx=>?_;subst e;obtain⟨x',hx'⟩:=fV (xs:=a) (i:=0) m.la;obtain⟨y',hy'⟩:=fV (xs:=b) (i:=0) m.lb;have e1:=m.lt0;rw[jx hx',jx hy']at e1;have e2:=yE (n:=1) (by lia) m.sb hy' hy;have e3:=rH (i:=0) m.sa hx' (by simpa using mM hx);lia
theorem Ul.noA(m:Ul prog w A s κ rk a₀ a b){out:Array aw}{na nb:Nat}(h:Mh rk a b out na nb)(e:na=0):Iu rk a b (a.extract 0 na++b.extract 0 nb++out.reverse):=by refine h.done m.sa m.sb fun x hx=>?_;subst e;simp at hx
def HiQ(rk:aw->Int)(a b:Array aw)(κ:fm)(st:be)(n:Nat):ForInStep HiS->be->Prop:=fun r st'=>dB st st'/\match r with
 | .done c=>(∃m,c.1=some m/\Iu rk a b m)∨(c.1=none/\Mh rk a b c.2.2.2.1 c.2.1 c.2.2.1/\0 < c.2.1/\1 < c.2.2.1/\n<=c.2.2.2.1.size)
 | .yield c=>c.1=none/\Mh rk a b c.2.2.2.1 c.2.1 c.2.2.1/\0 < c.2.1/\1 < c.2.2.1/\n < c.2.2.2.1.size
theorem Lf(m:Ul prog w A s κ rk a₀ a b){out:Array aw}{na nb mg ac bc n:Nat}{st0 st:be}(hS:dB st0 st)(h:Mh rk a b out na nb)(h1:0 < na)(h2:1 < nb)(hn:n<=out.size)(hc:∀x y,a[na - 1]?=some x->y∈b.toList.take nb->rk y<=rk x) :
  wpS (ar prog w) A E s (aaK a b out na nb mg ac bc) (HiQ rk a b κ st0 n) st:=by
 unfold aaK;have ha:=h.ha;obtain⟨x,hx⟩:=fV (xs:=a) (i:=na - 1) (by lia);refine aI (cB hx ?_);have h':=h.Ce m.sa h1 hx (fun y hy=>hc x y hx hy);have sz:n < (out.push x).size:=by rw[g9];lia
 refine cH (fun e=>bg ⟨hS,.inl ⟨_,rfl,m.noA h' (mR e)⟩⟩) fun e=>?_;have e:=iu e;exact cH (fun _=>bg ⟨hS,.inr ⟨rfl,h',by show 0 < na - 1;lia,h2,fR sz⟩⟩) fun _=>bg ⟨hS,rfl,h',by show 0 < na - 1;lia,h2,sz⟩
theorem FP(m:Ul prog w A s κ rk a₀ a b){out:Array aw}{na nb mg ac bc n:Nat}{st0 st:be}(hk:kindOf st=κ)(hS:dB st0 st)(h:Mh rk a b out na nb)(h1:0 < na)(h2:1 < nb)(hn:n<=out.size)(hc:∀y x,b[nb - 1]?=some y->x∈a.toList.take na->rk x<=rk y) :
  wpS (ar prog w) A E s (Ob a b out na nb mg ac bc) (HiQ rk a b κ st0 n) st:=by
 unfold Ob;have ha:=h.ha;have hb:=h.hb;obtain⟨y,hy⟩:=fV (xs:=b) (i:=nb - 1) (by lia);refine aI (cB hy ?_);have h':=h.Ld m.sb (by lia) hy (fun x hx=>hc y x hy hx);have sz:n < (out.push y).size:=by rw[g9];lia
 refine cH (fun e=>bg ⟨hS,.inl ⟨_,rfl,m.aik h' (mR e)⟩⟩) fun e=>?_;have e:=iu e;obtain⟨x,hx⟩:=fV (xs:=a) (i:=na - 1) (by lia);refine aI (cB hx ?_);refine aI (lN m.h0 hk (m.ma x (qb hx)) m.mb (by lia) (by lia) (Uj m.sb _ _ (by lia)) fun k k1 k2 k3=>?_);have chunk:∀z∈(b.toList.take (nb - 1)).drop k,∀v∈a.toList.take na,rk v<=rk z:=fun z hz v hv=>by
  obtain⟨j,j1,j2,ej⟩:=Oa hz;have:=k3 j j1 j2;unfold bp at this;rw[iq,jx ej]at this;have q:rk x<=rk z:=by simpa using this
  exact eI (yE h1 m.sa hx hv) q
 have rest:∀v,v∈b.toList.take k->rk v<=rk x:=fun v hv=>by
  obtain⟨j,hj,ej⟩:=aaJ hv;have:=k2 j hj;unfold bp at this;rw[iq,jx ej]at this;have q:rk v < rk x:=by simpa using this
  exact gf q
 dsimp only;refine cH (fun kp=>?_) fun kp=>?_
 ·have h'':=h'.NT m.sb (k:=k) (by lia) chunk;have sz':n<=(out.push y++(b.extract k (nb - 1)).reverse).size:=by rw[k0];lia
  refine cH (fun e2=>bg ⟨hS,.inl ⟨_,rfl,m.aik h'' (mR e2)⟩⟩) fun e2=>?_;have e2:=iu e2;refine cH (fun e3=>bg ⟨hS,.inl ⟨_,rfl,h''.done m.sa m.sb fun x _ y hy=>?_⟩⟩) fun e3=>?_
  ·rw[mR e3]at hy;simp at hy
  ·have e3:=iu e3;exact Lf m hS h'' h1 (by lia) sz' fun x' v hx' hv=>by rw[hx]at hx';cases hx';exact rest v hv
 ·obtain rfl:k=nb - 1:=by lia
  exact Lf m hS h' h1 (by lia) (fR sz) fun x' v hx' hv=>by rw[hx]at hx';cases hx';exact rest v hv
theorem FQ(m:Ul prog w A s κ rk a₀ a b){out:Array aw}{na nb n:Nat}{st0 st:be}(hk:kindOf st=κ)(hS:dB st0 st)(h:Mh rk a b out na nb)(h1:0 < na)(h2:1 < nb)(hn:n<=out.size)
  {f:Option Nat->StateT be Sem (ForInStep HiS)}{mg bc:Nat}(hf:∀k,f (some k)=if na - k > 0 then
    if (k == 0)=true then pure (.done (some (a.extract 0 k++b.extract 0 nb++(out++(a.extract k na).reverse).reverse),k,nb,out++(a.extract k na).reverse,mg,na - k,bc))
    else Ob a b (out++(a.extract k na).reverse) k nb mg (na - k) bc
   else Ob a b out na nb mg (na - k) bc) :
  wpS (ar prog w) A E s (do let y <- df b (nb - 1);let r <- jh false y a 0 na (na - 1);f r) (HiQ rk a b κ st0 n) st:=by
 have ha:=h.ha;have hb:=h.hb;obtain⟨y,hy⟩:=fV (xs:=b) (i:=nb - 1) (by lia);refine aI (cB hy ?_);refine aI (lN m.h0 hk (m.mb y (qb hy)) m.ma (by lia) (by lia) (Uj m.sa _ _ (by lia)) fun k k1 k2 k3=>?_);rw[hf];have chunk:∀z∈(a.toList.take na).drop k,∀v∈b.toList.take nb,rk v<=rk z:=fun z hz v hv=>by
  obtain⟨j,j1,j2,ej⟩:=Oa hz;have:=k3 j j1 j2;unfold bp at this;rw[iq,jx ej]at this;have q:rk y < rk z:=by simpa using this
  exact eI (yE (by lia) m.sb hy hv) (gf q)
 have rest:∀v,v∈a.toList.take k->rk v<=rk y:=fun v hv=>by obtain⟨j,hj,ej⟩:=aaJ hv;have:=k2 j hj;unfold bp at this;rw[iq,jx ej]at this;simpa using this
 refine cH (fun kp=>?_) fun kp=>?_
 ·have h':=h.ur m.sa (k:=k) (by lia) chunk;have sz':n<=(out++(a.extract k na).reverse).size:=by rw[k0];lia
  refine cH (fun e=>bg ⟨hS,.inl ⟨_,rfl,m.noA h' (mR e)⟩⟩) fun e=>?_;have e:=iu e;exact FP m hk hS h' (by lia) h2 sz' fun y' x hy' hx=>by rw[hy]at hy';cases hy';exact rest x hx
 ·obtain rfl:k=na:=by lia
  exact FP m hk hS h h1 h2 hn fun y' x hy' hx=>by rw[hy]at hy';cases hy';exact rest x hx
theorem Uq(m:Ul prog w A s κ rk a₀ a b){st:be}(hk:kindOf st=κ){Q:Array aw->be->Prop}(h:∀mm st',dB st st'->Iu rk a b mm->Q mm st') :
  wpS (ar prog w) A E s (FN a b) Q st:=by
 rw[Uo];dsimp only;have la:=m.la;have lb:=m.lb;refine aI (kX (gT ⟨rfl,?_⟩));obtain⟨x0,hx0⟩:=fV (xs:=a) (i:=a.size - 1) (by lia);refine aI (cB hx0 ?_);have M0:Mh rk a b #[x0] (a.size - 1) b.size:=Mh.nil.Ce m.sa la hx0 fun v hv=>by have:=m.last v (mM hv);rwa [jx hx0]at this
 refine cH (fun e=>bg (h _ _ (.refl _) (m.noA M0 (mR e)))) fun e1=>?_;have e1:=iu e1;refine cH (fun e=>bg (h _ _ (.refl _) (m.aik M0 (mR e)))) fun e2=>?_;have e2:=iu e2;refine aI (g7 ?_);refine aI (eC (eS (I:=fun x c st'=>dB st st'/\∃na nb out mg,c=(none,na,nb,out,mg)/\Mh rk a b out na nb/\0 < na/\1 < nb/\x + 1<=out.size)
  (Q:=fun c st'=>dB st st'/\∃mm rest,c=(some mm,rest)/\Iu rk a b mm) ?step ?gB ⟨.refl _,_,_,#[x0],_,rfl,M0,by lia,by lia,by simp⟩) ?post)
 case post =>
  rintro c st' ⟨hS,mm,rest,rfl,hr⟩;exact bg (h mm st' hS hr)
 case gB =>
  rintro c st' ⟨hS,na,nb,out,mg,rfl,hM,h1,h2,h3⟩;have:=hM.sz;lia
 case step =>
  rintro x c st' _ hx ⟨hS,na,nb,out,mg,rfl,hM,h1,h2,h3⟩;dsimp only;refine aI (eC (eS (I:=fun y c st''=>dB st st''/\∃na nb out ac bc,c=(none,na,nb,out,ac,bc)/\Mh rk a b out na nb/\0 < na/\1 < nb/\x + 1 + y<=out.size)
   (Q:=fun c st''=>dB st st''/\((∃mm rest,c=(some mm,rest)/\Iu rk a b mm)∨∃na nb out ac bc,c=(none,na,nb,out,ac,bc)/\Mh rk a b out na nb/\0 < na/\1 < nb/\x + 2<=out.size)) ?istep ?ifin ⟨hS,na,nb,out,0,0,rfl,hM,h1,h2,by lia⟩) ?ipost)
  case ifin =>
   rintro c st'' ⟨hS,na,nb,out,ac,bc,rfl,hM,h1,h2,h3⟩;have:=hM.sz;lia
  case istep =>
   rintro y c st'' _ hy ⟨hS,na,nb,out,ac,bc,rfl,hM,h1,h2,h3⟩;dsimp only;have ha:=hM.ha;have hb:=hM.hb;obtain⟨p,hp⟩:=fV (xs:=b) (i:=nb - 1) (by lia);obtain⟨q,hq⟩:=fV (xs:=a) (i:=na - 1) (by lia);refine aI (cB hp (aI (cB hq (aI (Fw m.h0 (hS.2.1.trans hk) (m.mb p (qb hp)) (m.ma q (qb hq)) ?_)))));by_cases c:rk p < rk q
   ·simp only[c,decide_true,if_true];refine aI (cB hq ?_);have hM':=hM.Ce m.sa h1 hq fun v hv=>eI (yE (by lia) m.sb hp hv) (gf c);refine cH (fun e=>bg ⟨hS,.inl ⟨_,_,rfl,m.noA hM' (mR e)⟩⟩) fun e=>?_;have e:=iu e;exact cH (fun _=>bg ⟨hS,.inr ⟨_,_,_,_,_,rfl,hM',by lia,h2,by rw[g9];lia⟩⟩) fun _=>bg ⟨hS,_,_,_,_,_,rfl,hM',by lia,h2,by rw[g9];lia⟩
   ·simp only[c,decide_false,br,if_false];refine aI (cB hp ?_);have hM':=hM.Ld m.sb (by lia) hp fun v hv=>eI (yE h1 m.sa hq hv) (oP.mp c);refine cH (fun e=>bg ⟨hS,.inl ⟨_,_,rfl,m.aik hM' (mR e)⟩⟩) fun e=>?_;have e:=iu e;exact cH (fun _=>bg ⟨hS,.inr ⟨_,_,_,_,_,rfl,hM',h1,by lia,by rw[g9];lia⟩⟩) fun _=>bg ⟨hS,_,_,_,_,_,rfl,hM',h1,by lia,by rw[g9];lia⟩
  case ipost =>
   rintro c st'' ⟨hS,⟨mm,rest,rfl,hr⟩|⟨na,nb,out,ac,bc,rfl,hM,h1,h2,h3⟩⟩
   ·exact bg ⟨hS,mm,_,rfl,hr⟩
   ·dsimp only;refine aI (kX (gT ⟨rfl,?_⟩));refine aI (eC (eS (I:=fun y c st3=>dB st st3/\∃na nb out mg ac bc,c=(none,na,nb,out,mg,ac,bc)/\Mh rk a b out na nb/\0 < na/\1 < nb/\x + 2 + y<=out.size)
     (Q:=fun c st3=>dB st st3/\((∃mm rest,c=(some mm,rest)/\Iu rk a b mm)∨∃na nb out mg ac bc,c=(none,na,nb,out,mg,ac,bc)/\Mh rk a b out na nb/\0 < na/\1 < nb/\x + 2<=out.size)) ?aeT ?alJ ⟨hS,na,nb,out,_,ac,bc,rfl,hM,h1,h2,by lia⟩) ?aeU)
    case alJ =>
     rintro c st3 ⟨hS,na,nb,out,mg,ac,bc,rfl,hM,h1,h2,h3⟩;have:=hM.sz;lia
    case aeU =>
     rintro c st3 ⟨hS,⟨mm,rest,rfl,hr⟩|⟨na,nb,out,mg,ac,bc,rfl,hM,h1,h2,h3⟩⟩
     ·exact bg ⟨hS,mm,_,rfl,hr⟩
     ·dsimp only;refine aI (qG fun KN Ir=>?_);exact bg ⟨hS.trans Ir,_,_,_,_,rfl,hM,h1,h2,by lia⟩
    case aeT =>
     rintro y c st3 _ hy ⟨hS,na,nb,out,mg,ac,bc,rfl,hM,h1,h2,h3⟩;have cD:∀(c:HiS) (st':be),HiQ rk a b κ st (x + 2 + y) (.done c) st'->dB st st'/\((∃mm rest,c=(some mm,rest)/\Iu rk a b mm)∨∃na nb out mg ac bc,c=(none,na,nb,out,mg,ac,bc)/\Mh rk a b out na nb/\0 < na/\1 < nb/\x + 2<=out.size):=by
      rintro⟨c1,na,nb,out,mg,ac,bc⟩ st' ⟨hS,⟨mm,e,hr⟩|⟨e,hM,h1,h2,h3⟩⟩
      ·cases e;exact⟨hS,.inl ⟨mm,_,rfl,hr⟩⟩
      ·cases e;dsimp only at h1 h2 h3;exact⟨hS,.inr ⟨_,_,_,_,_,_,rfl,hM,h1,h2,by lia⟩⟩
     have cY:∀(c:HiS) (st':be),HiQ rk a b κ st (x + 2 + y) (.yield c) st'->dB st st'/\∃na nb out mg ac bc,c=(none,na,nb,out,mg,ac,bc)/\Mh rk a b out na nb/\0 < na/\1 < nb/\x + 2 + (y + 1)<=out.size:=by rintro⟨c1,na,nb,out,mg,ac,bc⟩ st' ⟨hS,e,hM,h1,h2,h3⟩;cases e;dsimp only at h1 h2 h3;exact⟨hS,_,_,_,_,_,_,rfl,hM,h1,h2,by lia⟩
     dsimp only;refine cH (fun _=>?_) (fun _=>?_)
     ·refine aI (qG fun KN Ir=>?_);exact eC (FQ m ((hS.trans Ir).2.1.trans hk) (hS.trans Ir) hM h1 h2 h3 (fun k=>rfl)) fun r st' hq=>match r,hq with|.done c,hq=>cD c st' hq|.yield c,hq=>cY c st' hq
     ·refine aI (qG fun KN Ir=>?_);exact eC (FQ m ((hS.trans Ir).2.1.trans hk) (hS.trans Ir) hM h1 h2 h3 (fun k=>rfl)) fun r st' hq=>match r,hq with|.done c,hq=>cD c st' hq|.yield c,hq=>cY c st' hq
end
theorem Ur(i:Nat):mergeAt' i=(do
 let s <- get
 let (some (sa,na,power),some (sb,nb,_)):=((bX s)[i]?,(bX s)[i + 1]?)|unsupported "internal:list.sort.pending"
 set (nz s (((bX s).setIfInBounds i (sa,na + nb,power)).eraseIdxIfInBounds (i + 1)))
 let some k <- jh false (<- df (ay s) sb) (ay s) sa na 0|return false
 let (sa,na):=(sa + k,na - k)
 if na == 0 then return true
 let some nb <- jh true (<- df (ay s) (sa + na - 1)) (ay s) sb nb (nb - 1)|return false
 if nb == 0 then return true
 let x:=(ay s).extract sa sb
 let y:=(ay s).extract sb (sb + nb)
 let merged <- if na<=nb then Fy x y else FN x y
 modify fun s=>setArr s (merged.toList.zipIdx.foldl (fun a (p,j)=>a.setIfInBounds (sa + j) p) (ay s))
 return (fq (<- get)).isNone):=rfl
section
variable{prog:aE}{w:az}{A:aS}{E:aa->ae->Prop}{s:ae}{a₀:Array aw}{κ:fm}{rk:aw->Int}
theorem Us{base:Nat}:∀(M:List aw) (n:Nat) (Pre Z T:List aw) (arr:Array aw),arr.toList=Pre++(Z++T)->base + n=Pre.length->M.length=Z.length ->
  ((M.zipIdx n).foldl (fun a (p:aw×Nat)=>a.setIfInBounds (base + p.2) p.1) arr).toList=Pre++(M++T)
 | [],n,Pre,Z,T,arr,h,_,hl=>by obtain rfl:Z=[]:=ox.mp hl.symm;simpa using h
 |m::M,n,Pre,Z,T,arr,h,hb,hl=>by
  cases Z with
  |nil=>cases hl
  |cons z Z =>
   have e:(arr.setIfInBounds (base + n) m).toList=(Pre++[m])++(Z++T):=by rw[Array.toList_setIfInBounds,h,hb];simp[List.set_append]
   have:=Us (base:=base) M (n + 1) (Pre++[m]) Z T _ e (by simp;lia) (by simpa using hl);rw[List.zipIdx_cons,kQ,this];simp
theorem Oc{xs:Array aw}{P L S:List aw}(h:xs.toList=P++(L++S)){i:Nat}(hi:i < L.length):R rk xs (P.length + i)=rk L[i]:=by refine jx ?_;rw[<- gd,h,gE (by lia),f9 (by lia)];rw[show P.length + i - P.length=i by lia,d_ hi]
theorem Yv{xs:Array aw}{P L S:List aw}(h:xs.toList=P++(L++S)):Up rk xs P.length L.length↔fJ rk L:=by
 constructor
 ·intro u;refine ko.mpr ?_;intro i j hi hj hij;have:=u i j (by lia) hj;rwa [Oc h hi,Oc h hj]at this
 ·intro u i j hij hj;rw[Oc h (by lia),Oc h hj];by_cases e:i=j
  ·subst e;exact g8 _
  ·exact ko.mp u i j (by lia) hj (by lia)
theorem Ut{st:be}{i sa na nb pw pw2:Nat}{Q:Bool->be->Prop}(h0:Ax prog w A s κ rk a₀)(hp:(ay st).Perm a₀)(hk:kindOf st=κ)(hf:fq st=none)
  (hi:(bX st)[i]?=some (sa,na,pw)) (hj:(bX st)[i + 1]?=some (sa + na,nb,pw2)) (na1:1<=na) (nb1:1<=nb) (hz:sa + na + nb<=a₀.size) (ua:Up rk (ay st) sa na) (ub:Up rk (ay st) (sa + na) nb)
  (h:∀st',(ay st').Perm a₀->kindOf st'=κ->fq st'=none->bX st'=((bX st).setIfInBounds i (sa,na + nb,pw)).eraseIdxIfInBounds (i + 1)->(∀q,q < sa∨sa + na + nb<=q->(ay st')[q]?=(ay st)[q]?)->Up rk (ay st') sa (na + nb)->Q true st') :
  wpS (ar prog w) A E s (mergeAt' i) Q st:=by
 rw[Ur];refine aI (g7 ?_);dsimp only;rw[hi,hj];dsimp only;have arf:∀(st1:be) (Q':PUnit->be->Prop),Q' ⟨⟩ st1->wpS (ar prog w) A E s (set st1:StateT be Sem PUnit) Q' st:=fun st1 Q' hq=>by unfold wpS;rw[StateT.run_set];exact ax ⟨rfl,hq⟩
 refine aI (arf _ _ ?_);have sz:(ay st).size=a₀.size:=hp.size_eq;have mem:∀x∈(ay st).toList,x∈a₀.toList:=fun x hx=>(rS.mp hp).mem_iff.mp hx;generalize ail:nz st (((bX st).setIfInBounds i (sa,na + nb,pw)).eraseIdxIfInBounds (i + 1))=st1;have k1:kindOf st1=κ:=by rw[<- ail];exact hk
 have f1:fq st1=none:=by rw[<- ail];exact hf
 have a1:ay st1=ay st:=by rw[<- ail]
 have p1:bX st1=((bX st).setIfInBounds i (sa,na + nb,pw)).eraseIdxIfInBounds (i + 1):=by rw[<- ail]
 obtain⟨y,hy⟩:=fV (xs:=ay st) (i:=sa + na) (by lia);obtain⟨z,hz'⟩:=fV (xs:=ay st) (i:=sa + na - 1) (by lia);generalize ay st=xs at *;refine aI (cB hy ?_);refine aI (lN h0 k1 (mem y (qb hy)) mem (by lia) (by lia) ua fun k kn kl kr=>?_);have kl':∀q,q < k->R rk xs (sa + q)<=rk y:=fun q hq=>by have:=kl q hq;unfold bp at this;simpa using this
 have kr':∀q,k<=q->q < na->rk y < R rk xs (sa + q):=fun q h1 h2=>by have:=kr q h1 h2;unfold bp at this;simpa using this
 have ub0:∀q,q < nb->rk y<=R rk xs (sa + na + q):=fun q hq=>by have:=ub 0 q (by lia) hq;rwa [mB,jx hy]at this
 have whole:(∀q,q < na->∀q',q' < nb->R rk xs (sa + q)<=R rk xs (sa + na + q'))->Up rk xs sa (na + nb):=fun hq i j hij hj=>by
  by_cases c:j < na
  ·exact ua i j hij c
  ·by_cases d:i < na
   ·have:=hq i d (j - na) (by lia);rwa [show sa + na + (j - na)=sa + j by lia]at this
   ·have:=ub (i - na) (j - na) (by lia) (by lia);rwa [show sa + na + (j - na)=sa + j by lia,show sa + na + (i - na)=sa + i by lia]at this
 dsimp only;refine cH (fun e=>bg ?_) fun e=>?_
 ·have e:=mR e;refine h st1 (by rw[a1];exact hp) k1 f1 p1 (fun _ _=>by rw[a1]) ?_;rw[a1];exact whole fun q hq q' hq'=>eI (kl' q (by lia)) (ub0 q' hq')
 have e:=iu e;rw[show sa + k + (na - k) - 1=sa + na - 1 by lia];refine aI (cB hz' ?_);refine aI (lN h0 k1 (mem z (qb hz')) mem (by lia) (by lia) ub fun n nn nl nr=>?_);have nl':∀q,q < n->R rk xs (sa + na + q) < rk z:=fun q hq=>by have:=nl q hq;unfold bp at this;simpa using this
 have nr':∀q,n<=q->q < nb->rk z<=R rk xs (sa + na + q):=fun q h1 h2=>by have:=nr q h1 h2;unfold bp at this;simpa using this
 have uaz:∀q,q < na->R rk xs (sa + q)<=rk z:=fun q hq=>by have:=ua q (na - 1) (by lia) (by lia);rwa [show sa + (na - 1)=sa + na - 1 by lia,jx hz']at this
 refine cH (fun e2=>bg ?_) fun e2=>?_
 ·have e2:=mR e2;refine h st1 (by rw[a1];exact hp) k1 f1 p1 (fun _ _=>by rw[a1]) ?_;rw[a1];exact whole fun q hq q' hq'=>eI (uaz q hq) (nr' q' (by lia) hq')
 have e2:=iu e2;have hxl:xs.toList.length=a₀.size:=by rw[iF];exact sz
 obtain⟨P,hP⟩:∃P,P=xs.toList.take sa:=⟨_,rfl⟩
 obtain⟨A1,hA1⟩:∃P,P=(xs.toList.drop sa).take k:=⟨_,rfl⟩
 obtain⟨X,hX⟩:∃P,P=(xs.toList.drop (sa + k)).take (na - k):=⟨_,rfl⟩
 obtain⟨Y,hY⟩:∃P,P=(xs.toList.drop (sa + na)).take n:=⟨_,rfl⟩
 obtain⟨B2,hB2⟩:∃P,P=(xs.toList.drop (sa + na + n)).take (nb - n):=⟨_,rfl⟩
 obtain⟨S,hS⟩:∃P,P=xs.toList.drop (sa + na + nb):=⟨_,rfl⟩
 have lP:P.length=sa:=by rw[hP,hZ];lia
 have lA:A1.length=k:=by rw[hA1,hZ,l5];lia
 have lX:X.length=na - k:=by rw[hX,hZ,l5];lia
 have lY:Y.length=n:=by rw[hY,hZ,l5];lia
 have lB:B2.length=nb - n:=by rw[hB2,hZ,l5];lia
 have hl:xs.toList=P++(A1++(X++(Y++(B2++S)))):=by rw[hP,hA1,hX,hY,hB2,hS];have s5:=oG xs.toList (sa + na + n) (nb - n);rw[show sa + na + n + (nb - n)=sa + na + nb by lia]at s5;rw[<- s5,<- oG xs.toList (sa + na) n];have s3:=oG xs.toList (sa + k) (na - k);rw[show sa + k + (na - k)=sa + na by lia]at s3;rw[<- s3,<- oG xs.toList sa k,mI]
 have eX:(xs.extract (sa + k) (sa + na)).toList=X:=by rw[rG,hX];congr 1;lia
 have eY:(xs.extract (sa + na) (sa + na + n)).toList=Y:=by rw[rG,hY];congr 1;lia
 have aA:fJ rk (A1++X):=by
  have:xs.toList=P++((A1++X)++(Y++(B2++S))):=by rw[hl];simp
  refine(Yv this).mp ?_;rw[lP,dy,lA,lX,show k + (na - k)=na by lia];exact ua
 have aB:fJ rk (Y++B2):=by
  have:xs.toList=(P++(A1++X))++((Y++B2)++S):=by rw[hl];simp
  have u:=Yv (rk:=rk) this;rw[dy,dy,lP,lA,lX,dy,lY,lB,show sa + (k + (na - k))=sa + na by lia,show n + (nb - n)=nb by lia]at u;exact u.mp ub
 obtain⟨sA,sX,sAX⟩:=gL.mp aA;obtain⟨sY,sB,sYB⟩:=gL.mp aB;have aoz:∀v∈A1,rk v<=rk y:=fun v hv=>by rw[hA1]at hv;obtain⟨j,hj,ej⟩:=nW hv;have:=kl' j hj;rwa [jx ej]at this
 have ari:∀v∈X,rk v<=rk z:=fun v hv=>by rw[hX]at hv;obtain⟨j,hj,ej⟩:=nW hv;have:=uaz (k + j) (by lia);rwa [<- oS,jx ej]at this
 have ain:∀v∈Y,rk y<=rk v/\rk v < rk z:=fun v hv=>by rw[hY]at hv;obtain⟨j,hj,ej⟩:=nW hv;have q1:=ub0 j (by lia);have q2:=nl' j hj;rw[jx ej]at q1 q2;exact⟨q1,q2⟩
 have alK:∀v∈B2,rk z<=rk v:=fun v hv=>by rw[hB2]at hv;obtain⟨j,hj,ej⟩:=nW hv;have:=nr' (n + j) (by lia) (by lia);rwa [<- oS,jx ej]at this
 have gX:∀q,q < na - k->(xs.extract (sa + k) (sa + na))[q]?=xs[sa + k + q]?:=fun q hq=>by rw[Array.getElem?_extract,if_pos (by lia)]
 have gY:∀q,q < n->(xs.extract (sa + na) (sa + na + n))[q]?=xs[sa + na + q]?:=fun q hq=>by rw[Array.getElem?_extract,if_pos (by lia)]
 have szX:(xs.extract (sa + k) (sa + na)).size=na - k:=by rw[rV];lia
 have szY:(xs.extract (sa + na) (sa + na + n)).size=n:=by rw[rV];lia
 have m:Ul prog w A s κ rk a₀ (xs.extract (sa + k) (sa + na)) (xs.extract (sa + na) (sa + na + n)):=by
  refine⟨h0,by rw[eX];exact sX,by rw[eY];exact sY,fun v hv=>mem v ?_,fun v hv=>mem v ?_,by lia,by lia,?_,fun v hv=>?_⟩
  ·rw[eX]at hv;rw[hl];simp[hv]
  ·rw[eY]at hv;rw[hl];simp[hv]
  ·rw[mq (gX 0 (by lia)),mq (gY 0 (by lia)),mB,mB,jx hy];exact kr' k (bo _) (by lia)
  ·rw[szX,mq (gX (na - k - 1) (by lia)),show sa + k + (na - k - 1)=sa + na - 1 by lia,jx hz'];rw[eY]at hv;exact gf (ain v hv).2
 have gB:∀(mm:Array aw) (st2:be),dB st1 st2->Iu rk (xs.extract (sa + k) (sa + na)) (xs.extract (sa + na) (sa + na + n)) mm->wpS (ar prog w) A E s (do
   modify fun s=>setArr s (mm.toList.zipIdx.foldl (fun a (p,j)=>a.setIfInBounds (sa + k + j) p) (ay s))
   let s <- get
   pure (fq s).isNone) Q st2:=fun mm st2 hS2 ⟨hr,hu⟩=>by
  rw[eX,eY]at hr;have lm:mm.toList.length=(X++Y).length:=hr.length_eq;have put:=Us (base:=sa + k) mm.toList 0 (P++A1) (X++Y) (B2++S) xs (by rw[hl];simp) (by rw[dy,lP,lA];lia) lm;refine aI (i7 (aI (g7 ?_)));have e3:ay st2=xs:=hS2.1.trans a1;have key:∀ys:Array aw,ys.toList=P++(A1++(mm.toList++(B2++S)))->∀st',ay st'=ys->kindOf st'=κ->fq st'=none->bX st'=bX st1->Q true st':=by
   intro ys hys st' e4 e5 e6 e7;refine h st' ?_ e5 e6 (e7.trans p1) ?_ ?_
   ·rw[e4];refine Array.Perm.trans (rS.mpr ?_) hp;rw[hys,hl];refine oy _ (oy _ ?_);rw[<- h_ X Y];exact vw _ hr
   ·intro q hq;rw[e4,<- gd,<- gd,hys,hl];rw[dy,lX,lY]at lm;rcases hq with hq|hq
    ·rw[f9 (by lia),f9 (by lia)]
    ·have e8:P++(A1++(mm.toList++(B2++S)))=(P++(A1++(mm.toList++B2)))++S:=by simp
     have e9:P++(A1++(X++(Y++(B2++S))))=(P++(A1++(X++(Y++B2))))++S:=by simp
     have l1:(P++(A1++(mm.toList++B2))).length=sa + na + nb:=by simp only[dy];lia
     have l2:(P++(A1++(X++(Y++B2)))).length=sa + na + nb:=by simp only[dy];lia
     rw[e8,e9,gE (by lia),gE (by lia),l1,l2]
   ·rw[e4];have e8:ys.toList=P++((A1++(mm.toList++B2))++S):=by rw[hys];simp
    have u:=Yv (rk:=rk) e8;have l1:(A1++(mm.toList++B2)).length=na + nb:=by simp only[dy]at lm ⊢;lia
    rw[lP,l1]at u;refine u.mpr (gL.mpr ⟨sA,gL.mpr ⟨hu,sB,fun v hv t ht=>?_⟩,fun v hv t ht=>?_⟩)
    ·rcases du.mp (hr.mem_iff.mp hv) with hv|hv
     ·exact eI (ari v hv) (alK t ht)
     ·exact eI (gf (ain v hv).2) (alK t ht)
    ·rcases du.mp ht with ht|ht
     ·rcases du.mp (hr.mem_iff.mp ht) with ht|ht
      ·exact sAX v hv t ht
      ·exact eI (aoz v hv) (ain t ht).1
     ·have q1:=aoz v hv;have q2:=(ain y (by
       have:=dC.mp (show Y[0]?=some y by rw[hY,lL (by lia),oQ,mB];simpa using hy);obtain⟨q,rfl⟩:=this;exact eQ q)).2
      have q3:=alK t ht;lia
  rw[<- e3]at put;have:=key _ (by rw[put];simp) (setArr st2 (mm.toList.zipIdx.foldl (fun a (p,j)=>a.setIfInBounds (sa + k + j) p) (ay st2))) rfl (hS2.2.1.trans k1) (hS2.2.2.2.trans f1) hS2.2.2.1;have e10:(fq (setArr st2 (mm.toList.zipIdx.foldl (fun a (p,j)=>a.setIfInBounds (sa + k + j) p) (ay st2)))).isNone=true:=by show(fq st2).isNone=true;rw[hS2.2.2.2.trans f1];rfl
  rw[e10];exact bg this
 exact cH (fun _=>aI (Um m k1 gB)) fun _=>aI (Uq m k1 gB)
end
def Rn(rk:aw->Int)(xs:Array aw):Nat->List (Nat×Nat×Nat)->Nat->Prop
 |a,[],e=>a=e
 |a,t::l,e=>t.1=a/\1<=t.2.1/\Up rk xs a t.2.1/\Rn rk xs (a + t.2.1) l e
section
variable{rk:aw->Int}{xs ys:Array aw}
theorem Rn.le:∀{l:List (Nat×Nat×Nat)}{a e:Nat},Rn rk xs a l e->a + l.length<=e
 | [],a,e,h=>by simp only[Rn]at h;simp;lia
 |t::l,a,e,h=>by obtain⟨h1,h2,h3,h4⟩:=h;have:=Rn.le h4;simp only[cy];lia
theorem Rn.app:∀{l l':List (Nat×Nat×Nat)}{a e:Nat},Rn rk xs a (l++l') e↔∃m,Rn rk xs a l m/\Rn rk xs m l' e
 | [],l',a,e=>by
  constructor
  ·intro h;exact⟨a,rfl,h⟩
  ·rintro⟨m,rfl,h⟩;exact h
 |t::l,l',a,e=>by
  constructor
  ·rintro⟨h1,h2,h3,h4⟩;obtain⟨m,g1,g2⟩:=Rn.app.mp h4;exact⟨m,⟨h1,h2,h3,g1⟩,g2⟩
  ·rintro⟨m,⟨h1,h2,h3,h4⟩,g⟩;exact⟨h1,h2,h3,Rn.app.mpr ⟨m,h4,g⟩⟩
theorem Up.congr{a n:Nat}(h:Up rk xs a n)(hc:∀q,a<=q->q < a + n->ys[q]?=xs[q]?):Up rk ys a n:=fun i j hij hj=>by rw[mq (hc (a + i) (by lia) (by lia)),mq (hc (a + j) (by lia) (by lia))];exact h i j hij hj
theorem Rn.congr:∀{l:List (Nat×Nat×Nat)}{a e:Nat},Rn rk xs a l e->(∀q,a<=q->q < e->ys[q]?=xs[q]?)->Rn rk ys a l e
 | [],a,e,h,_=>h
 |t::l,a,e,⟨h1,h2,h3,h4⟩,hc=>by have:=h4.le;exact⟨h1,h2,h3.congr fun q q1 q2=>hc q q1 (by lia),h4.congr fun q q1 q2=>hc q (by lia) q2⟩
theorem Rn.pow:∀{l l':List (Nat×Nat×Nat)}{a e:Nat},Rn rk xs a l e->l'.map (fun t=>(t.1,t.2.1))=l.map (fun t=>(t.1,t.2.1))->Rn rk xs a l' e
 | [],l',a,e,h,hm=>by
  obtain rfl:l'=[]:=by simpa using hm
  exact h
 |t::l,[],a,e,h,hm=>by cases hm
 |t::l,t'::l',a,e,⟨h1,h2,h3,h4⟩,hm=>by simp only[cn,List.cons.injEq,tJ]at hm;obtain⟨⟨m1,m2⟩,m3⟩:=hm;exact⟨m1.trans h1,by rw[m2];exact h2,by rw[m2];exact h3,by rw[m2];exact h4.pow m3⟩
theorem FT(f:Nat×Nat×Nat->Nat×Nat×Nat)(hf:∀t,((f t).1,(f t).2.1)=(t.1,t.2.1)):∀(l:List (Nat×Nat×Nat)) (i:Nat),(l.modify i f).map (fun t=>(t.1,t.2.1))=l.map (fun t=>(t.1,t.2.1))
 | [],i=>by simp
 |t::l,0=>by simp only[List.modify_zero_cons,cn,hf]
 |t::l,i + 1=>by simp only[List.modify_succ_cons,cn,FT f hf l i]
theorem alL{α:Type}(l:List α)(i:Nat)(h:i + 1 < l.length):l=l.take i++(l[i]::l[i + 1]::l.drop (i + 2)):=by
 conv=>lhs;rw[<- mI i l,iP (by lia),iP (by lia)]
theorem arj{α:Type}(P:List α)(t u v:α)(S:List α)(i:Nat)(hP:P.length=i):((P++(t::u::S)).set i v).eraseIdx (i + 1)=P++(v::S):=by
 subst hP
 induction P with
 |nil=>rfl
 |cons p P ih =>
  simp only[vx,cy,i8,qE,ih]
end
section
variable{prog:aE}{w:az}{A:aS}{E:aa->ae->Prop}{s:ae}{a₀:Array aw}{κ:fm}{rk:aw->Int}
structure Sr (κ:fm)(rk:aw->Int)(a₀:Array aw)(lo:Nat)(st:be):Prop where
 perm:(ay st).Perm a₀
 kind:kindOf st=κ
 failed:fq st=none
 runs:Rn rk (ay st) 0 (bX st).toList lo
theorem wV{st:be}{i e:Nat}{Q:Bool->be->Prop}(h0:Ax prog w A s κ rk a₀)(h:Sr κ rk a₀ e st)(he:e<=a₀.size)(hi:i + 1 < (bX st).size)
  (hq:∀st',Sr κ rk a₀ e st'->(bX st').size + 1=(bX st).size->(∀q,e<=q->(ay st')[q]?=(ay st)[q]?)->Q true st'):wpS (ar prog w) A E s (mergeAt' i) Q st:=by
 have hr:=h.runs;have sp:=alL (bX st).toList i (by simpa using hi);generalize hpre:(bX st).toList.take i=pre at sp;generalize (bX st).toList.drop (i + 2)=post at sp;have lp:pre.length=i:=by rw[<- hpre,hZ];simp;lia
 rw[sp]at hr;obtain⟨m,r1,h1,h2,h3,h4,h5,h6,h7⟩:=Rn.app.mp hr;simp only[Array.getElem_toList]at h1 h2 h3 h4 h5 h6 h7 sp;have e1:(bX st)[i]?=some (m,(bX st)[i].2.1,(bX st)[i].2.2):=by rw[getElem?_pos _ i (by lia)];exact congrArg some (Prod.ext h1 rfl)
 have e2:(bX st)[i + 1]?=some (m + (bX st)[i].2.1,(bX st)[i + 1].2.1,(bX st)[i + 1].2.2):=by rw[getElem?_pos _ (i + 1) (by lia)];exact congrArg some (Prod.ext h4 rfl)
 have l7:=h7.le;refine Ut h0 h.perm h.kind h.failed e1 e2 h2 h5 (by lia) h3 h6 fun st' p1 p2 p3 p4 p5 p6=>?_;have e3:(bX st').toList=pre++((m,(bX st)[i].2.1 + (bX st)[i + 1].2.1,(bX st)[i].2.2)::post):=by rw[p4,Array.toList_eraseIdxIfInBounds,Array.toList_setIfInBounds,sp];exact arj _ _ _ _ _ _ lp
 refine hq st' ⟨p1,p2,p3,?_⟩ ?_ fun q hq=>p5 q (.inr (by lia))
 ·rw[e3];have l1:=r1.le;refine Rn.app.mpr ⟨m,r1.congr fun q _ q2=>p5 q (.inl q2),rfl,by show 1<=_ + _;lia,p6,?_⟩;show Rn rk (ay st') (m + (_ + _)) post e;rw[<- oS];exact h7.congr fun q q1 _=>p5 q (.inr q1)
 ·have q1:=congrArg eT e3;have q2:=congrArg eT sp;simp only[iF,dy,cy]at q1 q2;lia
theorem Sr.push{st:be}{lo n:Nat}(h:Sr κ rk a₀ lo st)(hn:1<=n)(hu:Up rk (ay st) lo n):Sr κ rk a₀ (lo + n) (nz st ((bX st).push (lo,n,0))):=by refine⟨h.perm,h.kind,h.failed,?_⟩;show Rn rk (ay st) 0 ((bX st).push (lo,n,0)).toList (lo + n);rw[qi];exact Rn.app.mpr ⟨lo,h.runs,rfl,hn,hu,rfl⟩
theorem Sr.ajY{st:be}{lo:Nat}(h:Sr κ rk a₀ lo st)(f:Nat×Nat×Nat->Nat×Nat×Nat)(hf:∀t,((f t).1,(f t).2.1)=(t.1,t.2.1)){i:Nat}:Sr κ rk a₀ lo (nz st ((bX st).modify i f)):=by refine⟨h.perm,h.kind,h.failed,h.runs.pow ?_⟩;show((bX st).modify _ _).toList.map _=_;rw[Array.toList_modify];exact FT f hf _ _
theorem FW:∀(f n r:Nat),1<=n + r->1<=o4 f n r
 | 0,n,r,h=>h
 |f + 1,n,r,h=>by
  rw[minRun'_succ];split
  ·exact h
  ·exact FW f (n / 2) (max r (n % 2)) (by lia)
theorem Od{st:be}{Q:Unit->be->Prop}(h0:Ax prog w A s κ rk a₀)(hp:ay st=a₀)(hk:kindOf st=κ)(hf:fq st=none)(hpd:bX st=#[])(h2:2<=a₀.size)
  (hq:∀st',(ay st').Perm a₀->fq st'=none->Up rk (ay st') 0 a₀.size->Q () st'):wpS (ar prog w) A E s sortRuns' Q st:=by
 rw[sortRuns'_eq];refine aI (g7 ?_);dsimp only;rw[hp];have mr:1<=o4 a₀.size a₀.size 0:=FW _ _ _ (by lia);refine aI (eC (eS (I:=fun x c st'=>∃lo,c=(none,lo)/\x<=lo/\lo<=a₀.size/\Sr κ rk a₀ lo st')
  (Q:=fun c st'=>c=(none,a₀.size)/\Sr κ rk a₀ a₀.size st') ?step ?gB ⟨0,rfl,bo _,by lia,by rw[hp],hk,hf,by rw[hpd];rfl⟩) ?post)
 case gB =>
  rintro c st' ⟨lo,rfl,h1,h2,hS⟩;obtain rfl:lo=a₀.size:=by lia
  exact⟨rfl,hS⟩
 case post =>
  rintro c st' ⟨rfl,hS⟩;dsimp only;refine aI (eC (eS (I:=fun x c st''=>c=(none,())/\Sr κ rk a₀ a₀.size st''/\((bX st'').size<=1∨(bX st'').size + x<=a₀.size))
   (Q:=fun c st''=>c=(none,())/\Sr κ rk a₀ a₀.size st''/\(bX st'').size<=1) ?s2 ?f2 ⟨rfl,hS,.inr (by have:=hS.runs.le;simpa using this)⟩) ?p2)
  case f2 =>
   rintro c st'' ⟨rfl,hS,hl⟩;exact⟨rfl,hS,by lia⟩
  case s2 =>
   rintro x c st'' _ hx ⟨rfl,hS,hl⟩;refine aI (g7 ?_);refine cH (fun e=>bg ⟨rfl,hS,e⟩) fun e=>?_;have ite_le:∀(c:Prop) [Decidable c],(if c then (bX st'').size - 2 - 1 else (bX st'').size - 2) + 1 < (bX st'').size:=fun c _=>by split <;> lia
   refine aI (wV h0 hS (bo _) ?_ fun st2 hS2 hz _=>?_)
   ·exact ite_le _
   ·simp only[eR,br,if_false];exact bg ⟨rfl,hS2,by lia⟩
  case p2 =>
   rintro c st'' ⟨rfl,hS,hl⟩;dsimp only;refine bg (hq st'' hS.perm hS.failed ?_);have hr:=hS.runs;cases e:(bX st'').toList with
   |nil=>rw[e]at hr;simp only[Rn]at hr;lia
   |cons t l =>
    have:l=[]:=by have:=congrArg eT e;simp only[iF,cy]at this;exact ox.mp (by lia)
    subst this;rw[e]at hr;obtain⟨_,_,r3,r4⟩:=hr;simp only[Rn]at r4;rw[show t.2.1=a₀.size by lia]at r3;exact r3
 case step =>
  rintro x c st' _ hx ⟨lo,rfl,h1,h3,hS⟩;dsimp only;refine cH (fun e=>?_) fun e=>?_
  ·obtain rfl:lo=a₀.size:=by lia
   exact bg ⟨rfl,hS⟩
  ·have hB:SB κ a₀ (ay st') (bX st') lo st':=⟨hS.perm,hS.kind,hS.failed,rfl,fun _ _=>rfl⟩
   have back:∀st2,SB κ a₀ (ay st') (bX st') lo st2->Sr κ rk a₀ lo st2:=fun st2 hB2=>⟨hB2.perm,hB2.kind,hB2.failed,by
    rw[hB2.pend];exact hS.runs.congr fun q _ q2=>hB2.keep q q2⟩
   refine aI (abW h0 (show lo + (a₀.size - lo)<=a₀.size by lia) (by lia) hB fun m st2 hB2 m1 m2 um=>?_);dsimp only;refine cH (fun c=>?_) fun c=>?_
   ·refine aI (kX (gT ⟨rfl,?_⟩));refine aI (aif h0 (show lo + min (a₀.size - lo) (o4 a₀.size a₀.size 0)<=a₀.size by lia) (by lia) hB2 um fun st3 hB3 u3=>?_);simp only[eR,br,if_false];have hS0:=back st3 hB3;have Uu:∀KN,Sr κ rk a₀ lo KN->(∀q,lo<=q->(ay KN)[q]?=(ay st3)[q]?)->Sr κ rk a₀ (lo + min (a₀.size - lo) (o4 a₀.size a₀.size 0)) (nz KN ((bX KN).push (lo,min (a₀.size - lo) (o4 a₀.size a₀.size 0),0))):=fun KN h4 hk4=>h4.push (by lia) (u3.congr fun q q1 _=>hk4 q q1);refine aI (g7 ?_);cases cc:(bX st3).back? with
    |none =>
     dsimp only;exact aI (i7 (bg ⟨_,rfl,by lia,by lia,Uu _ hS0 fun _ _=>rfl⟩))
    |some t =>
     obtain⟨s1,n1,p1⟩:=t;dsimp only;refine aI (eC (eS (I:=fun _ c st'=>c=(none,())/\Sr κ rk a₀ lo st'/\∀q,lo<=q->(ay st')[q]?=(ay st3)[q]?)
      (Q:=fun c st'=>c=(none,())/\Sr κ rk a₀ lo st'/\∀q,lo<=q->(ay st')[q]?=(ay st3)[q]?) ?aeW (fun _ _ hh=>hh) ⟨rfl,hS0,fun _ _=>rfl⟩) ?aeX)
     case aeX =>
      rintro c st' ⟨rfl,hS,hk⟩;dsimp only;refine aI (i7 (aI (i7 (bg ⟨_,rfl,by lia,by lia,Uu _ (hS.ajY _ ?_) hk⟩))));exact fun t=>rfl
     case aeW =>
      rintro x c st' _ hx ⟨rfl,hS,hk⟩;refine aI (g7 ?_);by_cases c:(bX st').size > 1
      ·rw[if_pos c,getElem?_pos (bX st') ((bX st').size - 2) (by lia)];dsimp only;refine cH (fun _=>bg ⟨rfl,hS,hk⟩) fun _=>?_;refine aI (wV h0 hS (by lia) (by lia) fun st2 hS2 _ hk2=>?_);simp only[eR,br,if_false];exact bg ⟨rfl,hS2,fun q hq=>(hk2 q hq).trans (hk q hq)⟩
      ·rw[if_neg c];exact bg ⟨rfl,hS,hk⟩
   ·have hS0:=back st2 hB2;have Uu:∀KN,Sr κ rk a₀ lo KN->(∀q,lo<=q->(ay KN)[q]?=(ay st2)[q]?)->Sr κ rk a₀ (lo + m) (nz KN ((bX KN).push (lo,m,0))):=fun KN h4 hk4=>h4.push (by lia) (um.congr fun q q1 _=>hk4 q q1);refine aI (g7 ?_);cases cc:(bX st2).back? with
    |none =>
     dsimp only;exact aI (i7 (bg ⟨_,rfl,by lia,by lia,Uu _ hS0 fun _ _=>rfl⟩))
    |some t =>
     obtain⟨s1,n1,p1⟩:=t;dsimp only;refine aI (eC (eS (I:=fun _ c st'=>c=(none,())/\Sr κ rk a₀ lo st'/\∀q,lo<=q->(ay st')[q]?=(ay st2)[q]?)
      (Q:=fun c st'=>c=(none,())/\Sr κ rk a₀ lo st'/\∀q,lo<=q->(ay st')[q]?=(ay st2)[q]?) ?aeW (fun _ _ hh=>hh) ⟨rfl,hS0,fun _ _=>rfl⟩) ?aeX)
     case aeX =>
      rintro c st' ⟨rfl,hS,hk⟩;dsimp only;refine aI (i7 (aI (i7 (bg ⟨_,rfl,by lia,by lia,Uu _ (hS.ajY _ ?_) hk⟩))));exact fun t=>rfl
     case aeW =>
      rintro x c st' _ hx ⟨rfl,hS,hk⟩;refine aI (g7 ?_);by_cases c:(bX st').size > 1
      ·rw[if_pos c,getElem?_pos (bX st') ((bX st').size - 2) (by lia)];dsimp only;refine cH (fun _=>bg ⟨rfl,hS,hk⟩) fun _=>?_;refine aI (wV h0 hS (by lia) (by lia) fun st2 hS2 _ hk2=>?_);simp only[eR,br,if_false];exact bg ⟨rfl,hS2,fun q hq=>(hk2 q hq).trans (hk q hq)⟩
      ·rw[if_neg c];exact bg ⟨rfl,hS,hk⟩
end
end Sb
namespace Sb
open PySem PySem.W PyProof.Rows So
def rkI(lt:Nat->Nat->Bool)(n i:Nat):Int:=((bE n).filter fun j=>lt j i).length
theorem Oe{α:Type}{p q:α->Bool}:∀{l:List α},(∀x∈l,p x=true->q x=true)->(l.filter p).length<=(l.filter q).length
 | [],_=>bo _
 |x::l,h=>by
  have ih:=Oe (l:=l) fun y hy=>h y (.tail _ hy);have hx:=h x (.head _);rw[nB,nB];cases c:p x with
  |false =>
   simp only[br,if_false];split
   ·simp only[cy];lia
   ·exact ih
  |true =>
   rw[hx c];simp only[if_true,cy];lia
theorem aeY{α:Type}{p q:α->Bool}:∀{l:List α}{z:α},(∀x∈l,p x=true->q x=true)->z∈l->p z=false->q z=true->(l.filter p).length < (l.filter q).length
 | [],_,_,hz,_,_=>by cases hz
 |x::l,z,h,hz,pz,qz=>by
  have ih0:=Oe (l:=l) fun y hy=>h y (.tail _ hy);have hx:=h x (.head _);rw[nB,nB];rcases bP.mp hz with rfl|hz
  ·rw[pz,qz];simp only[br,if_false,if_true,cy];lia
  ·have ih:=aeY (l:=l) (fun y hy=>h y (.tail _ hy)) hz pz qz;cases c:p x with
   |false =>
    simp only[br,if_false];split
    ·simp only[cy];lia
    ·exact ih
   |true =>
    rw[hx c];simp only[if_true,cy];lia
theorem akb{lt:Nat->Nat->Bool}(O:Ord lt){n i j:Nat}(hi:i < n):decide (rkI lt n i < rkI lt n j)=lt i j:=by
 unfold rkI;cases c:lt i j with
 |true =>
  refine decide_eq_true (Int.ofNat_lt.mpr (aeY (z:=i) (fun k _ hk=>?_) (eJ.mpr hi) (irr O i) c));cases d:lt k j with
  |true=>rfl
  |false =>
   have h1:lt i k=false:=O.as k i hk;have h2:=O.tr j k i d h1;rw[c]at h2;cases h2
 |false =>
  refine decide_eq_false fun q=>?_;have q:=Int.ofNat_lt.mp q;have:=Oe (p:=fun k=>lt k j) (q:=fun k=>lt k i) (l:=bE n) fun k _ hk=>by
   cases d:lt k i with
   |true=>rfl
   |false =>
    have h2:=O.tr j i k c d;rw[hk]at h2;cases h2
  lia
theorem aeZ{α:Type}{d:α}{l1 l2:List α}(h:l1.Perm l2):∃q:List Nat,q.Perm (bE l2.length)/\l1=q.map fun i=>l2.getD i d:=by
 induction h with
 |nil=>exact⟨[],.refl _,rfl⟩
 |cons x h ih =>
  obtain⟨q,hq,e⟩:=ih;refine⟨0::q.map (· + 1),?_,?_⟩
  ·rw[cy,mh];exact(hq.map _).cons 0
  ·rw[cn,fg,e];simp[pS]
 |swap x y l =>
  refine⟨1::0::(bE l.length).map (· + 2),?_,?_⟩
  ·rw[cy,cy,mh,mh,cn,fg];exact ij.swap 0 1 _
  ·rw[cn,cn,fg];have:l=(bE l.length).map fun i=>l.getD i d:=by
    apply kT
    ·simp
    ·intro i h1 h2;simp[h1]
   simp only[pS];rw[List.getD_cons_succ,List.getD_cons_zero,List.getD_cons_zero];congr 2
 |trans h1 h2 ih1 ih2 =>
  obtain⟨q1,p1,e1⟩:=ih1;obtain⟨q2,p2,e2⟩:=ih2;have l2:=h2.length_eq;have lq:=p2.length_eq;rw[ir]at lq;refine⟨q1.map fun i=>q2.getD i 0,?_,?_⟩
  ·refine(p1.map _).trans (ij.trans (oD ?_) p2);apply kT
   ·simp;lia
   ·intro i h1 h2;simp only[cf,ir]at h1;simp only[List.getElem_map,List.getElem_range,e_];rw[d_ h2];rfl
  ·rw[e1,fg];refine oo fun i hi=>?_;have hi':i < q2.length:=by have:=eJ.mp (p1.mem_iff.mp hi);lia
   show ot _ i d=ot _ (ot q2 i 0) d;rw[e2];simp only[e_,cw,d_ hi',og,om]
section
variable{prog:aE}{w:az}{A:aS}{E:aa->ae->Prop}{s:ae}
theorem afa{lt:Nat->Nat->Bool}{κ:fm}{vs:List aa}{Q:be->ae->Prop}(O:Ord lt)(h2:2<=vs.length)(ha:aov prog w A κ vs lt s)
  (hd:∀i i',i < vs.length->i' < vs.length->vs.getD i aa.none=vs.getD i' aa.none->∀j,lt j i=lt j i')
  (h:∀st,Yr lt vs st->Q st s):ah (ar prog w) A ((sortRuns').run (r8 κ (vs.toArray.zip vs.toArray) #[] 7 none)) (fun r s'=>Q r.2 s') E s:=by
 classical
 let it:Nat->aw:=fun i=>(vs.getD i aa.none,vs.getD i aa.none)
 let rk:aw->Int:=fun x=>if h:∃i,i < vs.length/\it i=x then rkI lt vs.length (vy h) else 0
 have rki:∀i,i < vs.length->rk (it i)=rkI lt vs.length i:=fun i hi=>by
  have ex:∃j,j < vs.length/\it j=it i:=⟨i,hi,rfl⟩
  show(if h:∃j,j < vs.length/\it j=it i then rkI lt vs.length (vy h) else 0)=_;rw[dif_pos ex];obtain⟨c1,c2⟩:=Classical.choose_spec ex;unfold rkI;have:=hd _ i c1 hi (congrArg Prod.fst c2);rw[show(fun j=>lt j (vy ex))=fun j=>lt j i from funext this]
 have hz:(vs.toArray.zip vs.toArray).toList=(bE vs.length).map it:=by
  apply kT
  ·simp
  ·intro i h1 h2;simp at h1;simp[it,h1]
 have hsz:(vs.toArray.zip vs.toArray).size=vs.length:=by simp
 have hA:Ax prog w A s κ rk (vs.toArray.zip vs.toArray):=by intro x y C E' hx hy hC;rw[hz]at hx hy;obtain⟨i,hi,rfl⟩:=c8.mp hx;obtain⟨j,hj,rfl⟩:=c8.mp hy;have hi:=eJ.mp hi;have hj:=eJ.mp hj;rw[rki i hi,rki j hj,akb O hi]at hC;exact ha i j C E' hi hj hC
 have main:=Od (prog:=prog) (w:=w) (A:=A) (E:=E) (s:=s) (st:=r8 κ (vs.toArray.zip vs.toArray) #[] 7 none) (Q:=fun _ st=>Yr lt vs st) hA rfl rfl rfl rfl (by rw[hsz];exact h2) fun st p1 p2 p3=>?_
 ·exact d6 main (fun r s' ⟨e,hs⟩=>by subst e;exact h _ hs) fun _ _ e=>e
 ·obtain⟨q,hq,e⟩:=aeZ (d:=it 0) (rS.mp p1);have ln:(vs.toArray.zip vs.toArray).toList.length=vs.length:=by simp
  rw[ln]at hq;have lq:=hq.length_eq;rw[ir]at lq;have qlt:∀i∈q,i < vs.length:=fun i hi=>eJ.mp (hq.mem_iff.mp hi);have e':(ay st).toList=q.map it:=by rw[e];refine oo fun i hi=>?_;rw[hz,e_,cw,List.getElem?_range (qlt i hi)];rfl
  refine⟨q.toArray,⟨by simp[lq],fun i=>?_,by simpa using hq⟩,fun i j hij hj=>?_,?_,p2⟩
  ·rw[kq];by_cases c:i < q.length
   ·have:q.toArray[i]?=some q[i]:=by simp[c]
    rw[this];exact qlt _ (eQ c)
   ·have:q.toArray[i]?=none:=by simp;lia
    rw[this];show 0 < vs.length;lia
  ·have hi':i < q.length:=by lia
   have hj':j < q.length:=by lia
   have g:∀k (hk:k < q.length),R rk (ay st) k=rkI lt vs.length q[k]:=fun k hk=>by rw[<- rki _ (qlt _ (eQ hk))];refine jx ?_;rw[<- gd,e',cw,d_ hk];rfl
   have u:=p3 i j (by lia) (by rw[hsz];exact hj);rw[iq,iq,g i hi',g j hj']at u;have e1:q.toArray.getD i 0=q[i]:=by simp[kq,hi']
   have e2:q.toArray.getD j 0=q[j]:=by simp[kq,hj']
   rw[e1,e2,<- akb O (qlt _ (eQ hj'))];exact decide_eq_false (by lia)
  ·apply qh.mp;rw[Array.toList_map,e',fg];rfl
end
end Sb
namespace So
open PySem PySem.W PyProof.Rows PySem.Calls
section
variable{prog:aE}{w:az}{A:aS}{E:aa->ae->Prop}{s:ae}
theorem Lg:∀{ks js:List Int}{xs:List aa},ItemsAre (cq prog w) ks xs->ItemsAre (cq prog w) js xs->ks=js
 |_,_,_,.nil,.nil=>rfl
 |_,_,_,.cons h1 h2,.cons h3 h4=>by obtain⟨t,e1⟩:=lh h1;obtain⟨u,e2⟩:=lh h3;rw[e1]at e2;cases e2;rw[Lg h2 h4]
theorem KeysAre.det{h:Heap}{vs:List aa}{bB:List (List Int)}(k:KeysAre prog w h vs bB):∀i i',i < vs.length->i' < vs.length->vs.getD i aa.none=vs.getD i' aa.none->∀j,zH (bB.getD j []) (bB.getD i [])=zH (bB.getD j []) (bB.getD i' []):=by intro i i' hi hi' he j;obtain⟨b,e1,o,its,n,q1,q2,q3,q4⟩:=k.2 i vs[i] (d_ hi);obtain⟨b',e2,o',its',n',r1,r2,r3,r4⟩:=k.2 i' vs[i'] (d_ hi');rw[e_,e_,d_ hi,d_ hi',om,om,e1,e2]at he;cases he;rw[q1]at r1;cases r1;rw[q3]at r3;cases r3;rw[Lg q4 r4]
theorem FZ{a:ab}{vs:List aa}{bB:List (List Int)}{n:Nat}{P:nv->ae->Prop}(ho:s.heap.get? a=some (eD "list" vs.toArray n))
  (hk:KeysAre prog w s.heap vs bB) (hne:∀ks∈bB,ks≠[]) (h64:vs.length < 1000)
  (h:∀(p:Array Nat),Ud bB p->P (.done (.ret .none)) { s with heap:=sortedHeap s.heap a vs (kB (p.toList.map fun i=>vs.getD i aa.none)) }) :
  ah (ar prog w) A (Builtin.«list.sort» ⟨[.ref a],[]⟩) P E s:=by
 rw[list_sort_plain];have ha:a < s.heap.objs.size:=bq ho;refine af (listItems_at ho rfl ?_);refine af (vz ho rfl ?_ (by rw[cK,d8];lia) (eB _));obtain⟨e1,ho1⟩:∃e1,(s.heap.update a (c_ fun _=>#[])).get? a=some (eD "list" #[] e1):=⟨_,vE ho (fun _=>#[])⟩
 refine af (vF ho1 rfl ?_);refine af (wpAny_newTuple ?_ (by show vs.length<=_;rw[d8];lia));refine af (wpAny_newList ?_ (eB _));refine ez ?_;have ho6:(((s.heap.update a (c_ fun _=>#[])).push (eD "tuple" vs.toArray 0)).push (eD "list" #[] 0)).get? a=some (eD "list" #[] e1):=by rw[Heap.get?_push_ne _ _ _ (by rw[size_push',r_];exact b_ (ki ha)),Heap.get?_push_ne _ _ _ (by rw[r_];exact b_ ha)];exact ho1
 show ah (ar prog w) A _ P E { s with heap:=((s.heap.update a (c_ fun _=>#[])).push (eD "tuple" vs.toArray 0)).push (eD "list" #[] 0) };dsimp only;have hsz:vs.toArray.size=vs.length:=by simp
 have hk6:KeysAre prog w (((s.heap.update a (c_ fun _=>#[])).push (eD "tuple" vs.toArray 0)).push (eD "list" #[] 0)) vs bB:=hk.moved fun b o e c=>by
  refine cb _ (cb _ ?_);have:b≠a:=fun z=>by subst z;rw[ho]at e;cases e;exact absurd (aa.type.inj (show aa.type "list"=aa.type "tuple" from c)) (by decide)
  rw[k7 _ _ _ _ this];exact e
 by_cases h2:vs.toArray.size < 2
 ·rw[if_pos h2,if_pos h2];refine af (ax ?_);rw[StateT.run_pure];refine af (ax ?_);dsimp only;refine af (vF ho6 rfl ?_);refine af (vz ho6 rfl ?_ (hsz2:=by rw[Array.size_map];show(pairsOf vs).size<=_;rw[pairsOf_size,d8];lia));simp only[bne_self_eq_false,br,if_false];have hz:bB.length < 2:=by rw[hk.1,<- hsz];exact h2
  have hq:=h (kB (bE bB.length)) (Ue hz);have e:(ay (r8 general' (vs.toArray.zip vs.toArray) #[] 7 none)).map (·.2)=kB ((kB (bE bB.length)).toList.map fun i=>vs.getD i aa.none):=by rw[hk.1];show(vs.toArray.zip vs.toArray).map (·.2)=_;apply qh.mp;apply rL;intro i;simp;by_cases hi:i < vs.length <;> simp[hi]
  exact ax (by rw[e];exact hq)
 ·rw[if_neg h2,if_neg h2];obtain⟨fs,ht,hl,hfi⟩:=hk6.tups hne;have h2':2<=vs.length:=by rw[<- hsz];lia
  refine af (kat_kind (T:=.type "int") ht (by lia) (fun v hv=>?_) rfl ?_)
  ·obtain⟨i,t,rfl⟩:=hfi v hv;exact Looks.now
  ·refine af (d6 (Sb.afa (E:=E) (Q:=fun st' s'=>s'={ s with heap:=((s.heap.update a (c_ fun _=>#[])).push (eD "tuple" vs.toArray 0)).push (eD "list" #[] 0) }/\Yr (fun i j=>zH (bB.getD i []) (bB.getD j [])) vs st') (alH bB) h2' hk6.asks hk6.det fun st' hs=>⟨rfl,hs⟩) ?_ fun _ _ e=>e);rintro⟨⟨⟩,st'⟩ s' ⟨rfl,p,a1,a2,a3,hf⟩;dsimp only at a3 hf ⊢;refine af (vF ho6 rfl ?_);rw[a3];refine af (vz ho6 rfl ?_ (hsz2:=by simp only[cK,cf,iF,a1.sz];rw[d8];lia));rw[hf];simp only[bne_self_eq_false,br,if_false];rw[<- hk.1]at a1 a2;exact ax (h p (aeM a1 a2))
end
end So
namespace So
open PySem PySem.Spec PySem.W PyProof.Rows PySem.Calls PySem.SetTable Tb
section
variable{prog:aE}{w:az}{A:aS}{E:aa->ae->Prop}{s:ae}{U:ab->List Int->Prop}
def abr(prog:aE)(w:az)(U:ab->List Int->Prop)(o:Obj)(bB:List (List Int)):Prop :=
 ∃(L:List tH) (ep:Nat) (t:bS) (f:Int×aa->List Int),o=gQ L ep t/\Good t L/\L.length * 5 < t.mask * 3/\t.mask < 8000/\(t.plain=true/\t.led=!Ij w)/\(∀e∈L,∃b,e.2.2=.ref b/\e.2.1=hK prog w (f e.2)/\U b (f e.2))/\(L.map fun e=>f e.2).Perm bB/\bB.Nodup
theorem fQ.obj{h:Heap}{a:ab}{bB:List (List Int)}(x:fQ prog w U h a bB):∃o,h.get? a=some o/\abr prog w U o bB:=by obtain⟨L,ep,t,f,ho,g,room,mb,pl,hf,hp,nd,uu⟩:=x;refine⟨_,ho,L,ep,t,f,rfl,g,room,mb,pl,fun e he=>?_,hp,nd⟩;obtain⟨b,h1,h2,h3⟩:=hf e he;exact⟨b,h1,h3,uu e he b h1⟩
theorem abr.at{h:Heap}{a:ab}{o:Obj}{bB:List (List Int)}(x:abr prog w U o bB)(ho:h.get? a=some o)(hU:∀b ks,U b ks->dc (cq prog w) h ks b):fQ prog w U h a bB:=by
 obtain⟨L,ep,t,f,rfl,g,room,mb,pl,hf,hp,nd⟩:=x;refine⟨L,ep,t,f,ho,g,room,mb,pl,fun e he=>?_,hp,nd,fun e he b hb=>?_⟩
 ·obtain⟨b,h1,h2,h3⟩:=hf e he;exact⟨b,h1,hU _ _ h3,h2⟩
 ·obtain⟨b',h1,h2,h3⟩:=hf e he;rw[hb]at h1;cases h1;exact h3
def aaL(U:ab->List Int->Prop)(out:List aa)(bB:List (List Int)):Prop:=out.length=bB.length/\∀(i:Nat) v,out[i]?=some v->∃b,v=.ref b/\U b (bB.getD i [])
theorem Iv{l l':List (List Int)}(p:l.Perm l'):bZ l=bZ l':=Fv ((eV l).trans p) (qD l)
theorem wW{vs:List aa}{bB Og:List (List Int)}{p:Array Nat}(ho:aaL U vs Og)(hp:Ud Og p)(pm:Og.Perm bB):aaL U (p.toList.map fun i=>vs.getD i aa.none) (bZ bB):=by
 rw[<- Iv pm,<- hp.2];refine⟨by simp,fun i v hv=>?_⟩;rw[cw]at hv;cases e:p.toList[i]? with
 |none=>rw[e]at hv;cases hv
 |some j =>
  rw[e]at hv;simp at hv;have hj:j < Og.length:=by have:j∈bE Og.length:=hp.1.mem_iff.mp (kN e);simpa using this
  have hj':j < vs.length:=by rw[ho.1];exact hj
  obtain⟨b,q1,q2⟩:=ho.2 j vs[j] (d_ hj');refine⟨b,?_,?_⟩
  ·rw[<- hv];simp[hj',q1]
  ·have:((p.toList.map fun i=>Og.getD i []).getD i [])=Og.getD j []:=by rw[e_,cw,e];rfl
   rw[this];exact q2
theorem zV{x:aa}{vs:List aa}{bB:List (List Int)}{Q:aa->ae->Prop}
  (aro:∀(Q':List aa->ae->Prop) (E':aa->ae->Prop),(∀h' tk,(∀b o,s.heap.get? b=some o->h'.get? b=some o)->s.heap.objs.size<=h'.objs.size->Q' vs { s with heap:=h',toks:=tk })->ah (ar prog w) A.in1 (collect x) Q' E' s)
  (hk:KeysAre prog w s.heap vs bB) (hne:∀ks∈bB,ks≠[]) (h64:vs.length < 1000)
  (h:∀h' tk l n p,(∀b o,s.heap.get? b=some o->h'.get? b=some o)->s.heap.objs.size<=l->Ud bB p->h'.get? l=some (eD "list" (kB (p.toList.map fun i=>vs.getD i aa.none)) n)->Q (.ref l) { s with heap:=h',toks:=tk }) :
  ah (ar prog w) A (call (.builtin "sorted") [x]) Q E s:=by
 refine Calls.call_function_entry kind_sorted plain_sorted entry_sorted (args_sorted1 _) ?_;unfold Builtin.«sorted»;refine af (m:=checkCount "sorted" 1 1 _) (ax ?_);refine af (aro _ _ fun h1 tk k1 z1=>?_);refine af (wpAny_newList ?_ (by rw[d8];lia));have hoL:(h1.push (eD "list" vs.toArray 0)).get? h1.objs.size=some (eD "list" vs.toArray 0):=cS _ rfl;have k2:∀b o,s.heap.get? b=some o->(h1.push (eD "list" vs.toArray 0)).get? b=some o:=fun b o e=>cb _ (k1 b o e);show ah _ _ _ _ _ { s with heap:=h1.push (eD "list" vs.toArray 0),toks:=tk };refine af (ez (gc slot_list_sort ⟨_,hoL,rfl⟩ entry_list_sort (FZ hoL (hk.moved fun b o e _=>k2 b o e) hne h64 fun p hp=>⟨_,rfl,?_⟩) (args_list_sort _)));refine ax ⟨_,rfl,?_⟩;unfold sortedHeap;have ne1:∀b o,s.heap.get? b=some o->b≠h1.objs.size:=fun b o e=>b_ (et (bq e) z1);have g0:=cb (eD "list" #[] 0) (cb (eD "tuple" vs.toArray 0) (vE hoL (fun _=>#[])));refine h _ _ _ _ p (fun b o e=>?_) z1 hp (vE g0 (fun _=>kB (p.toList.map fun i=>vs.getD i aa.none)));rw[k7 _ _ _ _ (ne1 b o e)];refine cb _ (cb _ ?_);rw[k7 _ _ _ _ (ne1 b o e)];exact k2 b o e
theorem Yw{D:ab}{bB:List (List Int)}{Q:aa->ae->Prop}(hh:A.handled=none)(hS:fQ prog w U s.heap D bB)(hne:∀ks∈bB,ks≠[])(h64:bB.length < 1000)
  (h:∀h' tk l n (out:List aa),(∀b o,s.heap.get? b=some o->h'.get? b=some o)->s.heap.objs.size<=l->aaL U out (bZ bB)->h'.get? l=some (eD "list" out.toArray n)->Q (.ref l) { s with heap:=h',toks:=tk }) :
  ah (ar prog w) A (call (.builtin "sorted") [.ref D]) Q E s:=by
 obtain⟨L,ep,t,f,ho,g,room,mb,pl,hf,hp,nd,uu⟩:=hS;have hlen:L.length=bB.length:=by have:=hp.length_eq;simpa using this
 have h7:=g.m7;have gs:Goes w L t:=⟨g.lies (by lia),by lia,pl.1,pl.2⟩
 have op:=KZ w D ep L;have osz:(pY w D ep L).toList.length=L.length:=by rw[iF,vH]
 have kp:((pY w D ep L).toList.map f).Perm bB:=((op.map f).trans (oD (by rw[fg];rfl))).trans hp;have each:∀x∈(pY w D ep L).toList,∃b,x.2=.ref b/\dc (cq prog w) s.heap (f x) b/\U b (f x):=fun x hx=>by obtain⟨e,he,rfl⟩:=c8.mp (op.mem_iff.mp hx);obtain⟨b,h1,h2,h3⟩:=hf e he;exact⟨b,h1,h2,uu e he b h1⟩
 have at_:∀(i:Nat) v,((pY w D ep L).toList.map (·.2))[i]?=some v->∃x,x∈(pY w D ep L).toList/\v=x.2/\((pY w D ep L).toList.map f).getD i []=f x:=fun i v hv=>by
  rw[cw]at hv;cases e:(pY w D ep L).toList[i]? with
  |none=>rw[e]at hv;cases hv
  |some x =>
   rw[e]at hv;refine⟨x,kN e,(c9 hv).symm,?_⟩;rw[e_,cw,e];rfl
 refine zV (vs:=(pY w D ep L).toList.map (·.2)) (bB:=(pY w D ep L).toList.map f) (fun Q' E' hq=>?_) ⟨by simp,fun i v hv=>?_⟩ (fun ks hks=>?_) (by rw[cf,osz];lia) fun h' tk l n p k hl hsp hg=>?_
 ·exact Uc (by simpa using hh) ho gs (by lia) hq
 ·obtain⟨x,hx,rfl,e⟩:=at_ i v hv;obtain⟨b,h1,h2,h3⟩:=each x hx;exact⟨b,h1,by rw[e];exact h2⟩
 ·exact hne ks (kp.mem_iff.mp hks)
 ·refine h h' tk l n _ k hl (wW ⟨by simp,fun i v hv=>?_⟩ hsp kp) hg;obtain⟨x,hx,rfl,e⟩:=at_ i v hv;obtain⟨b,h1,h2,h3⟩:=each x hx;exact⟨b,h1,by rw[e];exact h3⟩
end
end So
namespace Vl
open PySem PySem.Spec L2 So Tb
def aio(P:aE)(w:az)(U:ab->List Int->Prop)(a:ab)(bB:List (List Int)):Heap->Prop:=fun h=>∃o,h.get? a=some o/\abr P w U o bB
section
variable{X:Cx}{B:Bs}{W:Wi}
theorem Oh{pins:List (ab×Obj)}{σ:St}{H:Hp}{s:ae}{b:ab}{ks:List Int}(I:Inv X pins σ H s)(h:pR X.K H b (ks.map V.int)):dc (cq X.prog X.w) s.heap ks b:=by
 obtain⟨its,r,⟨o,ho,hc,n,hd⟩,hz⟩:=I.tuple h;refine⟨o,its.toArray,n,ho,hc,hd,?_⟩;show ItemsAre _ ks its;clear hd h hz
 induction ks generalizing its with
 |nil=>cases r;exact .nil
 |cons k ks ih =>
  cases r with
  |cons r1 r2 =>
   obtain⟨t,rfl⟩:=r1;exact .cons (intKind_is X.prog X.w k t) (ih _ r2)
def akc(P:aE)(w:az)(K:ai):List V->Hp->VK->Prop:=fun xs H Q=>∃(p:ab) (ys:List V) (bB:List (List Int)) (U:ab->List Int->Prop),xs=[.ref p]/\(tL K H p ys∨pR K H p ys)/\bB.length=ys.length/\(cj bB).length < 1000 /\
 (∀(i:Nat) v,ys[i]?=some v->∃b,v=.ref b/\pR K H b ((bB.getD i []).map V.int)/\U b (bB.getD i []))/\∀l,H l=none->Q (.ref l) (upd H l (.ext (aio P w U l (cj bB))))
theorem Vals.get'{xs:List V}{us:List aa}(r:Vals xs us){i:Nat}{u:aa}(h:us[i]?=some u):∃x,xs[i]?=some x/\RelV x u:=by
 cases e:xs[i]? with
 |none=>have:=r.none_of e;rw[this]at h;cases h
 |some x=>obtain⟨u',h1,h2⟩:=r.get e;rw[h]at h1;cases h1;exact⟨x,rfl,h2⟩
theorem abX(hc:X.calm=true)(hu:X.A.units + 8 < bu):iR X (.type "set") (akc X.prog X.w X.K):=by
 intro pins s σ H xs us Q I r h;obtain⟨p,ys,bB,U,rfl,hs,hlen,hz,hk,q⟩:=h;obtain⟨u,rfl,rx⟩:=r.one;cases rx;obtain⟨its,rv,hseq⟩:∃its:List aa,Vals ys its/\(s.heap.IsList p its.toArray∨s.heap.IsTuple p its.toArray):=by
  rcases hs with hs|hs
  ·obtain⟨its,rv,pl,_⟩:=I.list hs;exact⟨its,rv,.inl pl.isList⟩
  ·obtain⟨its,rv,pl,_⟩:=I.tuple hs;exact⟨its,rv,.inr pl⟩
 have hl:=rv.length;refine NK (U:=U) (bB:=bB) (I.ok.hd hc) hu hseq hz (fun i v hv=>?_) (by rw[cK];lia) fun h' tk k hS=>?_
 ·obtain⟨x,h1,h2⟩:=Vals.get' rv (i:=i) (u:=v) (by simpa using hv);obtain⟨b,rfl,h3,h4⟩:=hk i x h1;exact⟨b,h2,Oh I h3,h4⟩
 ·refine⟨.ref s.heap.objs.size,_,I.laid (t':=tk) k (bo _) (show fY X.prog X.w _ h' _ (.ext (aio X.prog X.w U s.heap.objs.size (cj bB))) from⟨So.fQ.obj hS,?_,?_⟩),rfl,q _ I.fresh⟩
  ·obtain⟨o,ho,_⟩:=So.fQ.obj hS;exact⟨o,ho⟩
  ·rintro h1 h2 ⟨o,ho,x⟩ hk';exact⟨o,hk' o ho,x⟩
def aip(P:aE)(w:az)(K:ai):List V->Hp->VK->Prop:=fun xs H Q=>∃(p:ab) (bB:List (List Int)) (U:ab->List Int->Prop),xs=[.ref p]/\H p=some (.ext (aio P w U p bB))/\(∀b ks,U b ks->pR K H b (ks.map V.int))/\(∀ks∈bB,ks≠[])/\bB.length < 1000 /\
 ∀l ys,H l=none->ys.length=(bZ bB).length->(∀(i:Nat) v,ys[i]?=some v->∃b,v=.ref b/\U b ((bZ bB).getD i []))->Q (.ref l) (upd H l (.lst ys))
theorem Oi(hc:X.calm=true):iR X (.builtin "sorted") (aip X.prog X.w X.K):=by
 intro pins s σ H xs us Q I r h;obtain⟨p,bB,U,rfl,hp,hU,hne,h64,q⟩:=h;obtain⟨u,rfl,rx⟩:=r.one;cases rx;obtain⟨⟨o,ho,x⟩,_⟩:=I.hok _ _ hp;have hS:=So.abr.at x ho (fun b ks hb=>Oh I (hU b ks hb));refine So.Yw (I.ok.hd hc) hS hne h64 fun h' tk l n out k hl ho hg=>?_;have hln:H l=none:=I.hok.fresh hl;have hv:∃ys:List V,Vals ys out/\ys.length=(bZ bB).length/\∀(i:Nat) v,ys[i]?=some v->∃b,v=.ref b/\U b ((bZ bB).getD i []):=by
  refine⟨out.map fun v=>match v with|.ref b=>V.ref b|_=>V.non,?_,by simp[ho.1],fun i v hv=>?_⟩
  ·have:∀v∈out,∃b,v=aa.ref b:=fun v hv=>by obtain⟨i,hi⟩:=k6.mp hv;obtain⟨b,e,_⟩:=ho.2 i v hi;exact⟨b,e⟩
   clear ho hg
   induction out with
   |nil=>exact .nil
   |cons a out ih =>
    obtain⟨b,rfl⟩:=this a (.head _);exact .cons rfl (ih fun v hv=>this v (.tail _ hv))
  ·rw[cw]at hv;cases e:out[i]? with
   |none=>rw[e]at hv;cases hv
   |some v' =>
    rw[e]at hv;obtain⟨b,rfl,h2⟩:=ho.2 i v' e;exact⟨b,(c9 hv).symm,h2⟩
 obtain⟨ys,rv,yl,yv⟩:=hv;have e0:s.heap.objs.size<=l:=hl;refine⟨.ref l,_,I.laid (t':=tk) k hl (show fY X.prog X.w _ h' _ (.lst ys) from⟨?_,out,n,rv,hg⟩),rfl,q l ys hln yl yv⟩;have:(bZ bB).length=bB.length:=(eV bB).length_eq;rw[yl,this,d8];lia
def mU:List D->Option (List Int)
 | []=>some []
 | .int i::ds=>(mU ds).map (i::·)
 |_=>none
def mV:List D->Option (List (List Int))
 | []=>some []
 | .tup ds::es=>match mU ds with|some k=>(mV es).map (k::·)|none=>none
 |_=>none
def aj(ks:List Int):D:=.tup (ks.map .int)
theorem abY(ks:List Int):mU (ks.map .int)=some ks:=by
 induction ks with
 |nil=>rfl
 |cons k ks ih=>simp[mU,ih]
theorem Ga:∀{ds:List D}{ks:List Int},mU ds=some ks->ds=ks.map .int
 | [],ks,h=>by simp[mU]at h;subst h;rfl
 | .int i::ds,ks,h=>by
  simp only[mU]at h;cases e:mU ds with
  |none=>rw[e]at h;cases h
  |some k=>rw[e]at h;simp at h;subst h;rw[Ga e];rfl
 | .non::ds,ks,h=>by simp[mU]at h
 | .bl _::ds,ks,h=>by simp[mU]at h
 | .str _::ds,ks,h=>by simp[mU]at h
 | .tup _::ds,ks,h=>by simp[mU]at h
 | .lst _::ds,ks,h=>by simp[mU]at h
 | .nU _ _::ds,ks,h=>by simp[mU]at h
 | .jW _ _::ds,ks,h=>by simp[mU]at h
theorem Lh(bB:List (List Int)):mV (bB.map aj)=some bB:=by
 induction bB with
 |nil=>rfl
 |cons k bB ih=>simp[mV,aj,abY]at ih ⊢;exact ih
theorem yF:∀{ds:List D}{bB:List (List Int)},mV ds=some bB->ds=bB.map aj
 | [],ks,h=>by simp[mV]at h;subst h;rfl
 | .tup es::ds,ks,h=>by
  simp only[mV]at h;cases e:mU es with
  |none=>rw[e]at h;cases h
  |some k =>
   rw[e]at h;cases e2:mV ds with
   |none=>rw[e2]at h;cases h
   |some k2=>rw[e2]at h;simp at h;subst h;rw[yF e2,Ga e];rfl
 | .int i::ds,ks,h=>by simp[mV]at h
 | .non::ds,ks,h=>by simp[mV]at h
 | .bl _::ds,ks,h=>by simp[mV]at h
 | .str _::ds,ks,h=>by simp[mV]at h
 | .lst _::ds,ks,h=>by simp[mV]at h
 | .nU _ _::ds,ks,h=>by simp[mV]at h
 | .jW _ _::ds,ks,h=>by simp[mV]at h
theorem rJ{K:ai}{G:Hp}:∀{ks:List Int}{vs:List V},bI K G (ks.map .int) vs->vs=ks.map V.int
 | [],vs,r=>bD.mp r
 |k::ks,vs,r=>by obtain⟨v,vs',rfl,r1,r2⟩:=aQ.mp r;rw[aM.mp r1,rJ r2];rfl
theorem Uv{K:ai}{G:Hp}{ks:List Int}{v:V}:Rep K G (aj ks) v↔∃b,v=.ref b/\UG K G b ks:=by
 unfold aj UG;constructor
 ·intro h;obtain⟨a,vs,rfl,q,r⟩:=bA.mp h;rw[rJ r]at q;exact⟨a,rfl,q⟩
 ·rintro⟨b,rfl,q⟩;exact bA.mpr ⟨b,_,rfl,q,vA ks⟩
theorem Li{K:ai}{G:Hp}{bB:List (List Int)}{vs:List V}(r:bI K G (bB.map aj) vs):bB.length=vs.length/\∀(i:Nat) v,vs[i]?=some v->∃b,v=.ref b/\UG K G b (bB.getD i []):=by
 refine⟨by have:=r.length;simpa using this,fun i v hv=>?_⟩;obtain⟨d,h1,h2⟩:=r.get' hv;rw[cw]at h1;cases e:bB[i]? with
 |none=>rw[e]at h1;cases h1
 |some ks =>
  rw[e]at h1;cases h1;obtain⟨b,q1,q2⟩:=Uv.mp h2;exact⟨b,q1,by rw[e_,e];exact q2⟩
theorem nY{K:ai}{G:Hp}:∀{bB:List (List Int)}{vs:List V},vs.length=bB.length->(∀(i:Nat) v,vs[i]?=some v->∃b,v=.ref b/\UG K G b (bB.getD i []))->bI K G (bB.map aj) vs
 | [],vs,h,_=>bD.mpr (ox.mp h)
 |k::bB,[],h,_=>by cases h
 |k::bB,v::vs,h,a=>by refine aQ.mpr ⟨v,vs,rfl,Uv.mpr (a 0 v rfl),nY (by simpa using h) fun i u hu=>?_⟩;exact a (i + 1) u hu
def afc(P:aE)(w:az)(K:ai)(W:Wi)(σ:St)(G H:Hp)(r:Rs (List (List Int)))(Q:VK):Prop :=
 match r with
 | .ok bB=>∀a H' G',Ext G H G' H'->H a=none->H' a=some (.ext (aio P w (UG K G') a bB))->Q (.ref a) H'
 | .ex c n=>∀H' G',Ext G H G' H'->W c n σ H'
 | .no=>False
def tK(P:aE)(w:az)(K:ai)(B:Bs)(W:Wi)(f:au->Rs (List (List Int))):TE:=fun σ H Q=>∃ρ G,SR K B σ H ρ G/\afc P w K W σ G H (f ρ) Q
def SK(X:Cx)(B:Bs)(W:Wi)(e:ag)(f:au->Rs (List (List Int))):Prop:=PE X e (tK X.prog X.w X.K B W f)
def Oj:D->Rs (List (List Int))
 | .lst ds=>match mV ds with|some bB=>if (cj bB).length < 1000 then .ok bB else .no|none=>.no
 | .tup ds=>match mV ds with|some bB=>if (cj bB).length < 1000 then .ok bB else .no|none=>.no
 |_=>.no
def fK(f:au->Rs D):au->Rs (List (List Int)):=fun ρ=>(f ρ).bind fun d=>(Oj d).bind fun bB=>.ok (cj bB)
theorem aiq{G H:Hp}(gh:Same G H)(tp:∀a xs,H a=some (.tup xs)->G a=some (.tup xs)){p:ab}{φ:Heap->Prop}(hp:H p=none):Ext G H G (upd H p (.ext φ)) where
 gg:=.refl _
 hh:=fun b o e=>by rw[bh (bf e hp)];exact e
 gh:=fun b o e=>by rw[bh (bf (gh _ _ e) hp)];exact gh _ _ e
 tp:=fun b ys e=>by
  by_cases q:b=p
  ·subst q;rw[bH]at e;cases e
  ·rw[bh q]at e;exact tp _ _ e
 nw:=fun b o e n=>n
theorem alM{e:ag}{p pos:Pos}{f:au->Rs D}(hc:X.calm=true) (hu:X.A.units + 8 < bu) (hm:X.mg "set"=none) (he:SE X B W e f) (hg:Gl X "set":=by rfl) (hst:ba [e] X.env=[(false,a_ e X.env)]:=by rfl) :
  SK X B W (.Call (.Name "set" p) [e] [] pos) (fK f):=by
 refine PE.imp (vm (abX hc hu) hg hm PyProof.Rows.boot_set (dY he jr hst) (by decide) (by decide) hst rfl) fun σ H Q h=>?_;obtain⟨ρ,G,s,p⟩:=h;refine⟨ρ,G,s,?_⟩;unfold fK at p;cases e1:f ρ with
 |ok d =>
  rw[e1]at p;have p':afc X.prog X.w X.K W σ G H ((Oj d).bind fun bB=>.ok (cj bB)) Q:=p;intro v H' G' x r;have gB:∀(a:ab) (vs:List V) (bB:List (List Int)),v=.ref a->(tL X.K H' a vs∨pR X.K H' a vs)->bI X.K G' (bB.map aj) vs->(cj bB).length < 1000->afc X.prog X.w X.K W σ G H (.ok (cj bB)) Q->akc X.prog X.w X.K [v] H' Q:=by
   intro a vs bB ea hs rr hz pp;obtain⟨hl,hk⟩:=Li rr;refine⟨a,vs,bB,UG X.K G',by rw[ea],hs,hl,hz,fun i u hu'=>?_,fun l hl'=>?_⟩
   ·obtain⟨b,q1,q2⟩:=hk i u hu';exact⟨b,q1,Same.gW x.gh q2,q2⟩
   ·exact pp l _ G' (x.trans (aiq x.gh x.tp hl')) (by cases e:H l with|none=>rfl|some o=>have:=x.hh _ _ e;rw[hl']at this;cases this) bH
  unfold Oj at p';split at p'
  ·rename_i ds;split at p'
   ·rename_i bB ek;by_cases hz:(cj bB).length < 1000
    ·rw[if_pos hz]at p';obtain⟨a,vs,rfl,q,rr⟩:=aY.mp r;have hl:=rr.length;rw[yF ek]at rr;exact gB a vs bB rfl (.inl (x.gh.seq q)) rr hz p'
    ·rw[if_neg hz]at p';exact p'.elim
   ·exact p'.elim
  ·rename_i ds;split at p'
   ·rename_i bB ek;by_cases hz:(cj bB).length < 1000
    ·rw[if_pos hz]at p';obtain⟨a,vs,rfl,q,rr⟩:=bA.mp r;have hl:=rr.length;rw[yF ek]at rr;exact gB a vs bB rfl (.inr (Same.gW x.gh q)) rr hz p'
    ·rw[if_neg hz]at p';exact p'.elim
   ·exact p'.elim
  ·exact p'.elim
 |ex c n=>rw[e1]at p;exact p
 |no=>rw[e1]at p;exact p
instance (bB:List (List Int)):Decidable (∀ks∈bB,ks≠[]):=inferInstance
def Ol:List (List Int)->Rs D:=fun bB=>if (∀ks∈bB,ks≠[])/\bB.length < 1000 then .ok (.lst ((bZ bB).map aj)) else .no
def Gb(f:au->Rs (List (List Int))):au->Rs D:=fun ρ=>(f ρ).bind Ol
theorem Yx{e:ag}{p pos:Pos}{f:au->Rs (List (List Int))}(hc:X.calm=true) (hm:X.mg "sorted"=none) (he:SK X B W e f) (hg:Gl X "sorted":=by rfl) (hst:ba [e] X.env=[(false,a_ e X.env)]:=by rfl) :
  SE X B W (.Call (.Name "sorted" p) [e] [] pos) (Gb f):=by
 refine PE.imp (qu (Oi hc) hg hm se (dY he jr hst) (by decide) (by decide) hst rfl) fun σ H Q h=>?_;obtain⟨ρ,G,s,p⟩:=h;refine⟨ρ,G,s,?_⟩;unfold Gb at p;cases e1:f ρ with
 |ok bB =>
  rw[e1]at p;intro a H' G' x _ ha;have p':Post X.K W σ G H (Ol bB) Q:=p;unfold Ol at p';by_cases hc':(∀ks∈bB,ks≠[])/\bB.length < 1000
  ·rw[if_pos hc']at p';refine⟨a,bB,UG X.K G',rfl,ha,fun b ks hb=>Same.gW x.gh hb,hc'.1,hc'.2,fun l ys hl hy hv=>?_⟩;have x2:=rA (xs:=ys) x.gh x.tp hl;refine p' _ _ _ (x.trans x2) (aY.mpr ⟨l,ys,rfl,.of bH,?_⟩);exact(nY hy hv).mono x2.gg
  ·rw[if_neg hc']at p';exact p'.elim
 |ex c n=>rw[e1]at p;exact p
 |no=>rw[e1]at p;exact p
end
section
variable{X:Cx}{B:Bs}{W:Wi}
def COr(a b:List (List Int)):Prop:=a.length + b.length < 900
def aoA(a b:List (List Int)):Prop:=a.length < 900/\b.length < 900
def aoB(a b:List (List Int)):Prop:=a.length < 900/\b.length < 900/\(b=[]∨¬a.length / 4 > b.length)
instance (a b:List (List Int)):Decidable (COr a b):=by unfold COr;exact inferInstance
instance (a b:List (List Int)):Decidable (aoA a b):=by unfold aoA;exact inferInstance
instance (a b:List (List Int)):Decidable (aoB a b):=by unfold aoB;exact inferInstance
end
end Vl
namespace Vl
open PySem PySem.Spec L2
def alN(i:Nat)(fs:au->Rs (List D)):au->Ou:=fun ρ=>oR (fs ρ) ρ fun ds=>if ds.length<=1000 then .nx (ρ.set i (.ow ds)) else .no
def arp(i:Nat)(f:au->Rs D):au->Ou:=fun ρ=>match ρ[i]? with|some (.ow ds)=>oR (f ρ) ρ fun d=>if ds.length < 1000000 then .nx (ρ.set i (.ow (ds++[d]))) else .no|_=>.no
def air(i:Nat)(g:au->Ou):au->Ou:=fun ρ=>g (Ik i ρ)
section
variable{X:Cx}{K:ai}{B:Bs}{W:Wi}{σ:St}{G H:Hp}{ρ:au}
theorem alO(i:Nat){x:Str}{es:List ag}{pos pos' lp:Pos}{f:au->Rs (List D)}(hN:X.N.Nodup)(he:SA X B W es f)(hi:X.N[i]?=some x:=by rfl)(hx:Mu X.env.scope x:=by first|exact Or.inl rfl|exact Or.inr rfl)(hs:eL (.List es lp) (some (.Name x pos')) pos.line X.env=pure false:=by rfl)(hf:X.fn x=true∨X.env.scope.names.lookup x=some .local:=by first|exact .inl rfl|exact .inr rfl|assumption) :
  SS X B W (.Assign [.Name x pos'] (.List es lp) pos) (alN i f):=alj hN hi hx he hs hf
theorem afd(i:Nat){st:List bj}{g:au->Ou}(h:wk X B W st g):wk X B W st (air i g):=ahK i h
theorem uw{e:ag}{p pos:Pos}{fa:au->Rs D}(hm:X.mg "tuple"=none) (ha:SE X B W e fa) (hg:Gl X "tuple":=by rfl) (he:ba [e] X.env=[(false,a_ e X.env)]:=by rfl):SE X B W (.Call (.Name "tuple" p) [e] [] pos) (fA (ao fa aR) jt) :=
 KD wj Tf hg hm PyProof.Rows.boot_tuple (ak ha aK he) (by decide) (by decide) he rfl
def afe:List D->Rs D
 | [.lst ds]=>.ok (.lst ds)
 | [.tup ds]=>.ok (.lst ds)
 |_=>.no
def Yy:List D->Rs D
 | [.int i]=>.ok (.int i)
 | [.bl b]=>.ok (.int (if b then 1 else 0))
 |_=>.no
theorem alP:sZ K (fun xs H Q=>(∃i,xs=[.int i]/\Q (.int i) H)∨∃k,xs=[.bl k]/\Q (.int (if k then 1 else 0)) H) Yy:=by
 intro B W σ ρ G H ds vs Q s r p;unfold Yy at p;split at p
 ·obtain⟨v,vs',rfl,r1,r2⟩:=aQ.mp r;rw[bD.mp r2,aM.mp r1];exact .inl ⟨_,rfl,Post.ok s p (aM.mpr rfl)⟩
 ·obtain⟨v,vs',rfl,r1,r2⟩:=aQ.mp r;rw[bD.mp r2,bL.mp r1];exact .inr ⟨_,rfl,Post.ok s p (aM.mpr rfl)⟩
 ·exact p.elim
theorem alQ{e:ag}{p pos:Pos}{fa:au->Rs D}(hm:X.mg "int"=none) (ha:SE X B W e fa) (hg:Gl X "int":=by rfl) (he:ba [e] X.env=[(false,a_ e X.env)]:=by rfl):SE X B W (.Call (.Name "int" p) [e] [] pos) (fA (ao fa aR) Yy) :=
 KD abz alP hg hm PyProof.Rows.Boot.«int» (ak ha aK he) (by decide) (by decide) he rfl
def yG:D->Bool
 | .non=>true
 |_=>false
def arq:D->D->Rs D:=fun x y=>match y with|.non=>.ok (.bl (yG x))|_=>.no
def aoC:D->D->Rs D:=fun x y=>match y with|.non=>.ok (.bl (!yG x))|_=>.no
variable{a b:ag}{pos:Pos}{fa fb:au->Rs D}
end
end Vl
namespace Vl
open PySem PySem.Spec L2 So Tb
section
variable{X:Cx}{B:Bs}{W:Wi}{K:ai}
def afg(K:ai):List V->Hp->VK->Prop:=fun xs H Q=>∃(p:ab) (ys:List V) (bB:List (List Int)) (U:ab->List Int->Prop),xs=[.ref p]/\tL K H p ys/\bB.length=ys.length/\ys.length < 1000/\(∀ks∈bB,ks≠[]) /\
 (∀(i:Nat) v,ys[i]?=some v->∃b,v=.ref b/\pR K H b ((bB.getD i []).map V.int)/\U b (bB.getD i [])) /\
 ∀l zs,H l=none->zs.length=(bZ bB).length->(∀(i:Nat) v,zs[i]?=some v->∃b,v=.ref b/\U b ((bZ bB).getD i []))->Q (.ref l) (upd H l (.lst zs))
theorem afh{U:ab->List Int->Prop}{out:List aa}{bB:List (List Int)}(ho:aaL U out bB):∃ys:List V,Vals ys out/\ys.length=bB.length/\∀(i:Nat) v,ys[i]?=some v->∃b,v=.ref b/\U b (bB.getD i []):=by
 refine⟨out.map fun v=>match v with|.ref b=>V.ref b|_=>V.non,?_,by simp[ho.1],fun i v hv=>?_⟩
 ·have:∀v∈out,∃b,v=aa.ref b:=fun v hv=>by obtain⟨i,hi⟩:=k6.mp hv;obtain⟨b,e,_⟩:=ho.2 i v hi;exact⟨b,e⟩
  clear ho
  induction out with
  |nil=>exact .nil
  |cons a out ih =>
   obtain⟨b,rfl⟩:=this a (.head _);exact .cons rfl (ih fun v hv=>this v (.tail _ hv))
 ·rw[cw]at hv;cases e:out[i]? with
  |none=>rw[e]at hv;cases hv
  |some v' =>
   rw[e]at hv;obtain⟨b,rfl,h2⟩:=ho.2 i v' e;exact⟨b,(c9 hv).symm,h2⟩
theorem Yz:iR X (.builtin "sorted") (afg X.K):=by
 intro pins s σ H xs us Q I r h;obtain⟨p,ys,bB,U,rfl,hs,hlen,hz,hne,hk,q⟩:=h;obtain⟨u,rfl,rx⟩:=r.one;cases rx;obtain⟨its,rv,pl,_⟩:=I.list hs;have hl:=rv.length;have each:∀(i:Nat) v,its[i]?=some v->∃b,v=.ref b/\dc (cq X.prog X.w) s.heap (bB.getD i []) b/\U b (bB.getD i []):=fun i v hv=>by obtain⟨x,h1,h2⟩:=Vals.get' rv hv;obtain⟨b,rfl,h3,h4⟩:=hk i x h1;exact⟨b,h2,Oh I h3,h4⟩
 refine So.zV (vs:=its) (bB:=bB) (fun Q' E' hq=>?_) ⟨by lia,fun i v hv=>let ⟨b,h1,h2,_⟩:=each i v hv;⟨b,h1,h2⟩⟩ hne (by lia) fun h' tk l n p' k hl' hsp hg=>?_
 ·refine PyProof.Rows.collect_list pl.isList ?_ (by rw[d8];lia);refine hq _ s.toks (fun b o e=>?_) ?_
  ·rw[k7 _ _ _ _ (b_ (bq e))];exact cb _ e
  ·rw[r_,PyProof.Rows.size_push'];exact n6 _
 ·have ho:=wW (U:=U) (vs:=its) (bB:=bB) (Og:=bB) ⟨by lia,fun i v hv=>let ⟨b,h1,_,h3⟩:=each i v hv;⟨b,h1,h3⟩⟩ hsp (.refl _);obtain⟨zs,r1,zl,zv⟩:=afh ho;have hln:H l=none:=I.hok.fresh hl';refine⟨.ref l,_,I.laid (t':=tk) k hl' (show fY X.prog X.w _ h' _ (.lst zs) from⟨?_,_,n,r1,hg⟩),rfl,q l zs hln zl zv⟩;have:(bZ bB).length=bB.length:=(eV bB).length_eq;rw[zl,this,d8];lia
def YB(x:Int):List Int->List Int
 | []=>[x]
 |y::ys=>if y < x then y::YB x ys else x::y::ys
def yH(l:List Int):List Int:=l.foldr YB []
theorem zW(x:Int):∀l,(YB x l).Perm (x::l)
 | []=>.refl _
 |y::ys=>by
  unfold YB;split
  ·exact((zW x ys).cons y).trans (ij.swap x y ys)
  ·exact .refl _
theorem wX:∀l,(yH l).Perm l
 | []=>.refl _
 |x::l=>(zW x (yH l)).trans ((wX l).cons x)
theorem aaM(x:Int):∀l,l.Pairwise (·<=·)->(YB x l).Pairwise (·<=·)
 | [],_=>by simp[YB]
 |y::ys,h=>by
  obtain⟨h1,h2⟩:=fI.mp h;unfold YB;split
  ·rename_i c;refine fI.mpr ⟨fun z hz=>?_,aaM x ys h2⟩;rcases bP.mp ((zW x ys).mem_iff.mp hz) with rfl|hz
   ·lia
   ·exact h1 z hz
  ·rename_i c;refine fI.mpr ⟨fun z hz=>?_,h⟩;rcases bP.mp hz with rfl|hz
   ·lia
   ·have:=h1 z hz;lia
theorem Uw:∀l,(yH l).Pairwise (·<=·)
 | []=>.nil
 |x::l=>aaM x _ (Uw l)
theorem Gd:∀{l l':List Int},l.Perm l'->l.Pairwise (·<=·)->l'.Pairwise (·<=·)->l=l'
 | [],l',p,_,_=>(List.nil_perm.mp p).symm
 |x::l,[],p,_,_=>by cases List.perm_nil.mp p
 |x::l,y::l',p,h,h'=>by
  obtain⟨h1,h2⟩:=fI.mp h;obtain⟨h1',h2'⟩:=fI.mp h';have e:x=y:=by
   have m1:=bP.mp (p.mem_iff.mp (dA (a:=x) (l:=l)));have m2:=bP.mp (p.mem_iff.mpr (dA (a:=y) (l:=l')));rcases m1 with m1|m1
   ·exact m1
   ·rcases m2 with m2|m2
    ·exact m2.symm
    ·have:=h1' x m1;have:=h1 y m2;lia
  subst e;rw[Gd (p.cons_inv) h2 h2']
theorem afi{l l':List Int}(p:l.Perm l')(h:l.Pairwise (·<=·)):l=yH l':=Gd (p.trans (wX l').symm) h (Uw l')
theorem vo:∀{us:List aa}{ns:List Int},PyProof.Rows.IntsAre us ns->Vals (ns.map V.int) us:=by
 intro us ns h
 induction h with
 |nil=>exact .nil
 |cons n t _ ih=>exact .cons ⟨t,rfl⟩ ih
def afj(K:ai):List V->Hp->VK->Prop:=fun xs H Q=>∃(p:ab) (ns:List Int),xs=[.ref p]/\tL K H p (ns.map V.int)/\ns.length < 64/\∀l,H l=none->Q (.ref l) (upd H l (.lst ((yH ns).map V.int)))
theorem YC:iR X (.builtin "sorted") (afj X.K):=by
 intro pins s σ H xs us Q I r h;obtain⟨p,ns,rfl,hs,hz,q⟩:=h;obtain⟨u,rfl,rx⟩:=r.one;cases rx;obtain⟨its,rv,pl,_⟩:=I.list hs;have hl:=rv.length;simp only[cf]at hl;refine PyProof.Rows.sorted_ints pl.isList (XM rv) (by lia) fun out ns' h1 h2 h3=>?_;have e:ns'=yH ns:=afi h2 h3;subst e;have hsz:((s.heap.push (kC "list" #[] 0)).update s.heap.objs.size (c_ (·++its.toArray))).objs.size=s.heap.objs.size + 1:=by rw[r_,PyProof.Rows.size_push']
 have hoL:(((s.heap.push (kC "list" #[] 0)).update s.heap.objs.size (c_ (·++its.toArray))).push (kC "list" its.toArray 0)).get? (s.heap.objs.size + 1)=some (kC "list" its.toArray 0):=by rw[<- hsz];exact cS _ rfl
 have keep:∀b o,s.heap.get? b=some o->(((s.heap.push (kC "list" #[] 0)).update s.heap.objs.size (c_ (·++its.toArray))).push (kC "list" its.toArray 0)).get? b=some o:=fun b o q=>by refine cb _ ?_;rw[k7 _ _ _ _ (b_ (bq q))];exact cb _ q
 have g0:=cb (kC "list" #[] 0) (cb (kC "tuple" its.toArray 0) (PyProof.Rows.get?_update_seq hoL (fun _=>#[])));have g1:=PyProof.Rows.get?_update_seq g0 (fun _=>out);have hln:H (s.heap.objs.size + 1)=none:=I.hok.fresh (n6 _);refine⟨.ref (s.heap.objs.size + 1),_,I.laid (t':=s.toks) (fun b o z=>?_) (n6 _) (show fY X.prog X.w _ _ _ (.lst ((yH ns).map V.int)) from⟨?_,out.toList,_,vo h1,by rw[Array.toArray_toList];exact g1⟩),rfl,q _ hln⟩
 ·unfold PyProof.Rows.sortedAll PyProof.Rows.sortedHeap;have ne:b≠s.heap.objs.size + 1:=b_ (ki (bq z));rw[k7 _ _ _ _ ne];refine cb _ (cb _ ?_);rw[k7 _ _ _ _ ne];exact keep b o z
 ·rw[cf,(wX ns).length_eq,d8];lia
def ux:List D->Rs D
 | [.lst ds]=>match mV ds with
  |some bB=>if (∀ks∈bB,ks≠[])/\bB.length < 1000 then .ok (.lst ((bZ bB).map aj)) else .no
  |none=>match mU ds with
   |some ns=>if ns.length < 64 then .ok (.lst ((yH ns).map .int)) else .no
   |none=>.no
 |_=>.no
theorem afk:sZ K (fun xs H Q=>afg K xs H Q∨afj K xs H Q) ux:=by
 intro B W σ ρ G H ds vs Q s r p;unfold ux at p;split at p
 ·rename_i ds;obtain⟨v,vs',rfl,r1,r2⟩:=aQ.mp r;obtain⟨a,us,rfl,q,rr⟩:=aY.mp r1;rw[bD.mp r2];split at p
  ·rename_i bB ek;split at p
   ·rename_i hc;rw[yF ek]at rr;obtain⟨hl,hk⟩:=Li rr;refine .inl ⟨a,us,bB,UG K G,rfl,s.en.gh.seq q,hl,by lia,hc.1,fun i v hv=>?_,fun l zs hl' hz hv=>?_⟩
    ·obtain⟨b,q1,q2⟩:=hk i v hv;exact⟨b,q1,Same.gW s.en.gh q2,q2⟩
    ·have x:=rA (xs:=zs) s.en.gh s.en.tp hl';exact p _ _ _ x (aY.mpr ⟨l,zs,rfl,.of bH,(nY hz hv).mono x.gg⟩)
   ·exact p.elim
  ·split at p
   ·rename_i ns ei;split at p
    ·rename_i hc;rw[Ga ei]at rr;have eu:=rJ rr;subst eu;refine .inr ⟨a,ns,rfl,s.en.gh.seq q,hc,fun l hl=>?_⟩;have x:=rA (xs:=(yH ns).map V.int) s.en.gh s.en.tp hl;exact p _ _ _ x (aY.mpr ⟨l,_,rfl,.of bH,vA _⟩)
    ·exact p.elim
   ·exact p.elim
 ·exact p.elim
theorem iR.or{f:aa}{r r':List V->Hp->VK->Prop}(h:iR X f r)(h':iR X f r'):iR X f (fun xs H Q=>r xs H Q∨r' xs H Q):=fun pins s σ H xs us Q I rv q=>q.elim (h pins s σ H xs us Q I rv) (h' pins s σ H xs us Q I rv)
theorem afl{e:ag}{p pos:Pos}{fa:au->Rs D}(hm:X.mg "sorted"=none) (ha:SE X B W e fa) (hg:Gl X "sorted":=by rfl) (he:ba [e] X.env=[(false,a_ e X.env)]:=by rfl):SE X B W (.Call (.Name "sorted" p) [e] [] pos) (fA (ao fa aR) ux) :=
 yg (iR.or Yz YC) afk hg hm se (ak ha aK he) (by decide) (by decide) he rfl
end
end Vl
namespace Vl
open PySem PySem.Spec L2
section
variable{X:Cx}{B:Bs}{W:Wi}{K:ai}
end
theorem ais(i:Nat){X:Cx}{B:Bs}{W:Wi}{y:Str}{py spos:Pos}{tg iter:ag}{elt:ag}{sc:Scope}{pos:Pos}{N:List Str}{nt:Nat}{caps:List Nat}{h:Tg}{fe:au->Rs D}{fi:au->Rs (List D)}(hN:X.N.Nodup)
  (c:wQ X sc N nt caps) (hc:X.calm=true) (hnames:sc.names.all (fun y=>y.2 != .local || sc.names.lookup y.1 == some .local)=true) (hi:SI X B W tg iter fi) (hno:rB h)
  (ht:∀s₀ H₀ C ex pins B',SG (kh X N s₀ H₀ sc (gj sc X.env) C ex pins) B' tg h)
  (he:∀s₀ H₀ C ex pins B',SE (kh X N s₀ H₀ sc (gj sc X.env) C ex pins) B' WF elt fe)
  (hs:∀x,f6 iter X.env x=pure x:=by intro _;rfl) (hi':X.N[i]?=some y:=by rfl) (hx:Mu X.env.scope y:=by first|exact Or.inl rfl|exact Or.inr rfl)
  (hsw:eL (.ListComp elt [⟨tg,iter,[],0⟩] sc pos) (some (.Name y py)) spos.line X.env=pure true:=by rfl)
  (hf:X.fn y=true∨X.env.scope.names.lookup y=some .local:=by first|exact .inl rfl|exact .inr rfl|assumption) :
  SS X B W (.Assign [.Name y py] (.ListComp elt [⟨tg,iter,[],0⟩] sc pos) spos) (kj i (dw h (fun _=>.ok true) fe nt caps fi)) :=
 Fd hN hi' hx c hc (fun y hy hl=>by
  have:=iS.mp hnames y hy;simp only[p_,bne_iff_ne,beq_iff_eq,ne_eq]at this;exact this.elim (fun z=>absurd hl z) id) hi hno ht (.inl ⟨rfl,rfl⟩) he hs hsw hf
theorem Lj(i:Nat){X:Cx}{B:Bs}{W:Wi}{y:Str}{py spos:Pos}{tg iter:ag}{elt cnd:ag}{sc:Scope}{pos:Pos}{N:List Str}{nt:Nat}{caps:List Nat}{h:Tg}{ft:au->Rs Bool}{fe:au->Rs D}{fi:au->Rs (List D)}(hN:X.N.Nodup)
  (c:wQ X sc N nt caps) (hc:X.calm=true) (hnames:sc.names.all (fun y=>y.2 != .local || sc.names.lookup y.1 == some .local)=true) (hi:SI X B W tg iter fi) (hno:rB h)
  (ht:∀s₀ H₀ C ex pins B',SG (kh X N s₀ H₀ sc (gj sc X.env) C ex pins) B' tg h)
  (hif:∀s₀ H₀ C ex pins B',ST (kh X N s₀ H₀ sc (gj sc X.env) C ex pins) B' WF cnd ft)
  (he:∀s₀ H₀ C ex pins B',SE (kh X N s₀ H₀ sc (gj sc X.env) C ex pins) B' WF elt fe)
  (hs:∀x,f6 iter X.env x=pure x:=by intro _;rfl) (hi':X.N[i]?=some y:=by rfl) (hx:Mu X.env.scope y:=by first|exact Or.inl rfl|exact Or.inr rfl)
  (hsw:eL (.ListComp elt [⟨tg,iter,[cnd],0⟩] sc pos) (some (.Name y py)) spos.line X.env=pure true:=by rfl)
  (hf:X.fn y=true∨X.env.scope.names.lookup y=some .local:=by first|exact .inl rfl|exact .inr rfl|assumption) :
  SS X B W (.Assign [.Name y py] (.ListComp elt [⟨tg,iter,[cnd],0⟩] sc pos) spos) (kj i (dw h ft fe nt caps fi)) :=
 Fd hN hi' hx c hc (fun y hy hl=>by
  have:=iS.mp hnames y hy;simp only[p_,bne_iff_ne,beq_iff_eq,ne_eq]at this;exact this.elim (fun z=>absurd hl z) id) hi hno ht (.inr ⟨cnd,rfl,hif⟩) he hs hsw hf
section
variable{X:Cx}{B:Bs}{W:Wi}{K:ai}{a b:ag}{pos:Pos}{fa fb:au->Rs D}
end
section
variable{X:Cx}{B:Bs}{W:Wi}
theorem yI{pins:List (ab×Obj)}{σ:St}{H:Hp}{s:ae}{b:ab}{ks:List Int}(I:Inv X pins σ H s)(h:pR X.K H b (ks.map V.int)):dc (cq X.prog X.w) s.heap ks b:=by
 obtain⟨its,r,⟨o,ho,hc,n,hd⟩,hz⟩:=I.tuple h;refine⟨o,its.toArray,n,ho,hc,hd,?_⟩;show ItemsAre _ ks its;clear hd h hz
 induction ks generalizing its with
 |nil=>cases r;exact .nil
 |cons k ks ih =>
  cases r with
  |cons r1 r2 =>
   obtain⟨t,rfl⟩:=r1;exact .cons (intKind_is X.prog X.w k t) (ih _ r2)
abbrev DP(U:ab->List Int->Prop):=Paired (fun(p:List Int×V) (q:List Int×ab×aa)=>p.1=q.1/\U q.2.1 q.1/\RelV p.2 q.2.2)
theorem Ge{pins:List (ab×Obj)}{σ:St}{H:Hp}{s:ae}{d:ab}{U:ab->List Int->Prop}{bK:List (List Int×V)}(I:Inv X pins σ H s)(hd:BW H d U bK)(hU:∀b ks,U b ks->UG X.K H b ks) :
  ∃xs,s.heap.DictOfH (nK (cq X.prog X.w)) d xs/\(d == gp)=false/\DP U bK xs/\(xs.map (·.1)).Nodup:=by
 obtain⟨φ,hd,hφ⟩:=hd;obtain⟨o,es,ep,xs,h1,h2,h3,h4,h5,h6,h7⟩:=hφ _ (I.hok d _ hd).1;refine⟨xs,⟨o,es,ep,h1,h2,h3,h5,fun x hx=>?_,h6⟩,h4,h7,h6⟩;have:∀{bK:List (List Int×V)}{xs:List (List Int×ab×aa)},DP U bK xs->∀x∈xs,U x.2.1 x.1:=by
  intro bK xs r
  induction r with
  |nil=>intro x hx;cases hx
  |cons r1 _ ih =>
   intro x hx;rcases bP.mp hx with rfl|hx
   ·exact r1.2.1
   ·exact ih x hx
 exact yI I (hU _ _ (this h7 x hx))
def uy(bK:List (List Int×V))(ks:List Int):Option V:=(bK.find? fun p=>decide (p.1=ks)).map (·.2)
def YD(bK:List (List Int×V))(ks:List Int)(v:V):List (List Int×V):=if (uy bK ks).isSome then bK.map (fun p=>if p.1=ks then (p.1,v) else p) else bK++[(ks,v)]
theorem uz{U:ab->List Int->Prop}{ks:List Int}:∀{bK:List (List Int×V)}{xs:List (List Int×ab×aa)},DP U bK xs->(uy bK ks=none/\atKey xs ks=none)∨∃v q,uy bK ks=some v/\atKey xs ks=some q/\RelV v q.2
 | [],_,.nil=>.inl ⟨rfl,rfl⟩
 |p::bK,q::xs,.cons r t=>by
  by_cases c:p.1=ks
  ·have c':q.1=ks:=r.1▸c;exact .inr ⟨p.2,q.2,by simp[uy,fx,c],by simp[atKey,fx,c'],r.2.2⟩
  ·have c':¬q.1=ks:=fun z=>c (r.1.trans z);have e1:uy (p::bK) ks=uy bK ks:=by simp[uy,fx,c]
   have e2:atKey (q::xs) ks=atKey xs ks:=by simp[atKey,fx,c']
   rw[e1,e2];exact uz t
theorem Paired.app{α β:Type}{F:α->β->Prop}:∀{l₁ l₁':List α}{l₂ l₂':List β},Paired F l₁ l₂->Paired F l₁' l₂'->Paired F (l₁++l₁') (l₂++l₂')
 |_,_,_,_,.nil,t'=>t'
 |_,_,_,_,.cons r t,t'=>.cons r (Paired.app t t')
theorem afm{U:ab->List Int->Prop}{ks:List Int}{b:ab}{v:V}{u:aa}{bK:List (List Int×V)}{xs:List (List Int×ab×aa)}(r:DP U bK xs)(hb:U b ks)(rv:RelV v u):DP U (YD bK ks v) (storedH xs ks b u):=by
 rcases uz (ks:=ks) r with ⟨e1,e2⟩|⟨v',q,e1,e2,_⟩
 ·unfold YD storedH;rw[e1,e2];exact Paired.app r (.cons ⟨rfl,hb,rv⟩ .nil)
 ·unfold YD storedH;rw[e1,e2];show DP U (bK.map _) (xs.map _);clear e1 e2
  induction r with
  |nil=>exact .nil
  |cons r1 _ ih =>
   refine .cons ?_ ih;rename_i p q' _ _ _;by_cases c:p.1=ks
   ·have c':q'.1=ks:=r1.1▸c;unfold putAt;dsimp only;rw[if_pos c,if_pos c'];exact⟨r1.1,r1.2.1,rv⟩
   ·have c':¬q'.1=ks:=fun z=>c (r1.1.trans z);unfold putAt;dsimp only;rw[if_neg c,if_neg c'];exact r1
def aaN(K:ai):R2:=fun x y H Q=>∃(b d:ab) (ks:List Int) (U:ab->List Int->Prop) (bK:List (List Int×V)),x=.ref b/\y=.ref d/\pR K H b (ks.map V.int)/\BW H d U bK/\(∀b ks,U b ks->UG K H b ks)/\Q (.bl (uy bK ks).isSome) H
theorem aaO(hu:X.A.units + 1 < bu):wg X (fv .In) (aaN X.K):=by
 intro pins s σ H x y v u Q I rx ry ⟨b,d,ks,U,bK,e1,e2,hb,hd,hU,q⟩;subst e1;subst e2;cases rx;cases ry;obtain⟨xs,hm,hs,hp,_⟩:=Ge I hd hU;refine wpAny_in_heap (sf hu) (yI I hb) hs hm ⟨_,H,I.tok _,?_,q⟩;rcases uz (ks:=ks) hp with ⟨e1,e2⟩|⟨v',q',e1,e2,_⟩
 ·rw[e1,e2];rfl
 ·rw[e1,e2];rfl
def afn(K:ai):R2:=fun x y H Q=>∃(b d:ab) (ks:List Int) (U:ab->List Int->Prop) (bK:List (List Int×V)) (v:V),x=.ref d/\y=.ref b/\pR K H b (ks.map V.int)/\BW H d U bK/\(∀b ks,U b ks->UG K H b ks)/\uy bK ks=some v/\Q v H
theorem ait(hu:X.A.units + 1 < bu):wg X getItem (afn X.K):=by
 intro pins s σ H x y v u Q I rx ry ⟨b,d,ks,U,bK,v',e1,e2,hb,hd,hU,hv,q⟩;subst e1;subst e2;cases rx;cases ry;obtain⟨xs,hm,hs,hp,_⟩:=Ge I hd hU;rcases uz (ks:=ks) hp with ⟨e1,e2⟩|⟨v2,q',e1,e2,r2⟩
 ·rw[hv]at e1;cases e1
 ·rw[hv]at e1;cases e1;exact wpAny_getItem_heap (sf hu) (yI I hb) hm e2 ⟨_,H,I.tok _,r2,q⟩
theorem aaP{U:ab->List Int->Prop}{P:aE}{w:az}{d:ab}{h':Heap}{xs:List (List Int×ab×aa)}{bK:List (List Int×V)}{H:Hp}(hm:h'.DictOfH (nK (cq P w)) d xs)(hs:(d == gp)=false)(hp:DP U bK xs):fY P w H h' d (.ext (pU U d bK)):=by obtain⟨o,es,ep,h1,h2,h3,h4,h5,h6⟩:=hm;refine⟨⟨o,es,ep,xs,h1,h2,h3,hs,h4,h6,hp⟩,⟨o,h1⟩,?_⟩;rintro g1 g2 ⟨o,es,ep,xs,h1,h2,h3,hs,h4,h6,hp⟩ k;exact⟨o,es,ep,xs,k _ h1,h2,h3,hs,h4,h6,hp⟩
end
section
variable{X:Cx}{B:Bs}{W:Wi}
theorem pU.mono{U U':ab->List Int->Prop}{a:ab}{bK:List (List Int×V)}{xs:List (List Int×ab×aa)}(h:∀b ks,U b ks->U' b ks)(r:DP U bK xs):DP U' bK xs:=Paired.aku r fun p q z=>⟨z.1,h _ _ z.2.1,z.2.2⟩
def aoD(K:ai):ahv:=fun o i v H Q=>∃(b d:ab) (ks:List Int) (U U':ab->List Int->Prop) (bK:List (List Int×V)),o=.ref d/\i=.ref b/\pR K H b (ks.map V.int)/\H d=some (.ext (pU U d bK))/\(∀b ks,U b ks->U' b ks)/\(∀b ks,U' b ks->UG K H b ks)/\U' b ks/\bK.length<=1000000 /\
 Q (upd H d (.ext (pU U' d (YD bK ks v))))
theorem afo(hu:X.A.units + 1 < bu):akG X (aoD X.K):=by
 intro pins s σ H o i v ov iv u Q I ro ri rv ⟨b,d,ks,U,U',bK,e1,e2,hb,hd,hm,hU,hk,hz,q⟩;subst e1;subst e2;cases ro;cases ri;obtain⟨xs,hx,hs,hp,_⟩:=Ge I (aao hd) fun b ks z=>hU b ks (hm b ks z);refine wpAny_setItem_heap (sf hu) (yI I hb) hx (fun h' hx' sb=>?_) (by rw[<- Paired.length hp];exact sz6 hz);refine⟨_,I.write (x:=d) (e:=d) (t':=_) (by rw[hd];trivial) (.inl rfl) (fun b' u' ne e=>?_) ?_ (aaP hx' hs (afm (pU.mono (a:=d) hm hp) hk rv)),q⟩
 ·exact(sb.2 b' ne).symm▸e
 ·obtain⟨o,_,_,e,_⟩:=hx';exact⟨o,e⟩
theorem aiu{pos:Pos}:PE X (.Dict [] [] pos) (fun _ H Q=>∀l,H l=none->Q (.ref l) (upd H l (.ext (pU (fun _ _=>False) l [])))):=by
 intro pins s σ H Q I h;have far:gp≠s.heap.objs.size:=fun z=>by have lt:=(I.mod.glob.keeps I.bk).lt;rw[<- z]at lt;exact absurd lt (by decide)
 refine wpAny_Dict_empty ⟨.ref s.heap.objs.size,_,I.laid (t':=s.toks) (fun b u e=>cb _ e) (bo _) (aaP (.new s.heap) (by simpa using dQ far) .nil),rfl,h _ I.fresh⟩
theorem aiv{i:Nat}{x:Str}{pos pos' lp:Pos}(hN:X.N.Nodup)(hi:X.N[i]?=some x)(hx:Mu X.env.scope x)(hs:eL (.Dict [] [] lp) (some (.Name x pos')) pos.line X.env=pure false:=by rfl)(hf:X.fn x=true∨X.env.scope.names.lookup x=some .local:=by first|exact .inl rfl|exact .inr rfl|assumption) :
  SS X B W (.Assign [.Name x pos'] (.Dict [] [] lp) pos) (fun ρ=>.nx (ρ.set i (.od []))):=by
 refine PS.imp (zM hN hi hx aiu hs hf) fun De σ H ⟨ρ,G,s,p⟩=>fun l hl=>?_;exact p _ _ G (s.aed rfl ⟨_,[],rfl,fun _ _ z=>z.elim,.nil⟩ hl) (.refl _)
def rK:List D->Option (List Int)
 | []=>some []
 | .int i::ds=>(rK ds).map (i::·)
 |_::_=>none
def mY:D->Option (List Int)
 | .tup ds=>rK ds
 |_=>none
theorem Gf{K:ai}{G:Hp}:∀{ds:List D}{vs:List V}{ks:List Int},bI K G ds vs->rK ds=some ks->vs=ks.map V.int
 | [],vs,ks,r,e=>by cases e;exact bD.mp r
 |d::ds,vs,ks,r,e=>by
  obtain⟨v,vs',rfl,r1,r2⟩:=aQ.mp r;cases d with
  |int i =>
   simp only[rK]at e;cases e2:rK ds with
   |none=>rw[e2]at e;cases e
   |some js =>
    rw[e2]at e;cases e;rw[aM.mp r1,Gf r2 e2];rfl
  |_=>cases e
theorem DN{K:ai}{G:Hp}{d:D}{v:V}{ks:List Int}(r:Rep K G d v)(e:mY d=some ks):∃b,v=.ref b/\pR K G b (ks.map V.int):=by
 cases d with
 |tup ds =>
  obtain⟨a,vs,rfl,h,rr⟩:=bA.mp r;exact⟨a,rfl,Gf rr e▸h⟩
 |_=>cases e
def cg(kvs:List (List Int×D))(ks:List Int):Option D:=(kvs.find? fun p=>decide (p.1=ks)).map (·.2)
def iw(kvs:List (List Int×D))(ks:List Int)(d:D):List (List Int×D):=if (cg kvs ks).isSome then kvs.map (fun p=>if p.1=ks then (p.1,d) else p) else kvs++[(ks,d)]
theorem fu.get{K:ai}{G:Hp}{ks:List Int}{kvs:List (List Int×D)}{bK:List (List Int×V)}(h:fu K G kvs bK):(cg kvs ks=none/\uy bK ks=none)∨∃d v,cg kvs ks=some d/\uy bK ks=some v/\Rep K G d v:=by
 induction h with
 |nil=>exact .inl ⟨rfl,rfl⟩
 | @cons k d v kvs bK r t ih =>
  by_cases c:k=ks
  ·exact .inr ⟨d,v,by simp[cg,fx,c],by simp[uy,fx,c],r⟩
  ·have e1:cg ((k,d)::kvs) ks=cg kvs ks:=by simp[cg,fx,c]
   have e2:uy ((k,v)::bK) ks=uy bK ks:=by simp[uy,fx,c]
   rw[e1,e2];exact ih
theorem fu.app{K:ai}{G:Hp}{k:List Int}{d:D}{v:V}{kvs:List (List Int×D)}{bK:List (List Int×V)}(h:fu K G kvs bK)(r:Rep K G d v):fu K G (kvs++[(k,d)]) (bK++[(k,v)]):=by
 induction h with
 |nil=>exact .cons r .nil
 |cons r1 _ ih=>exact .cons r1 ih
theorem fu.len{K:ai}{G:Hp}{kvs:List (List Int×D)}{bK:List (List Int×V)}(h:fu K G kvs bK):kvs.length=bK.length:=by
 induction h with
 |nil=>rfl
 |cons _ _ ih=>simp[ih]
theorem fu.put{K:ai}{G:Hp}{ks:List Int}{d:D}{v:V}{kvs:List (List Int×D)}{bK:List (List Int×V)}(h:fu K G kvs bK)(r:Rep K G d v):fu K G (iw kvs ks d) (YD bK ks v):=by
 rcases h.get (ks:=ks) with ⟨e1,e2⟩|⟨_,_,e1,e2,_⟩
 ·unfold iw YD;rw[e1,e2];exact h.app r
 ·unfold iw YD;rw[e1,e2];show fu K G (kvs.map _) (bK.map _);clear e1 e2
  induction h with
  |nil=>exact .nil
  | @cons k d' v' kvs bK r1 _ ih =>
   by_cases c:k=ks
   ·simpa[c] using fu.cons r ih
   ·simpa[c] using fu.cons r1 ih
theorem SR.od{K:ai}{σ:St}{H G:Hp}{ρ:au}(h:SR K B σ H ρ G){i:Nat}{kvs:List (List Int×D)}(q:ρ[i]?=some (.od kvs)) :
  ∃a U bK,σ[i]?=some (some (.ref a))/\H a=some (.ext (pU U a bK))/\G a=none/\B.2 a=none/\(∀b ks,U b ks->UG K G b ks)/\fu K G kvs bK:=by
 obtain⟨a,o,h1,h2,h3,h4,U,bK,rfl,h5,h6⟩:=h.own i _ q rfl;exact⟨a,U,bK,h1,h2,h3,h4,h5,h6⟩
end
section
variable{X:Cx}{B:Bs}{W:Wi}
theorem alR(hu:X.A.units + 1 < bu):IxR X (afn X.K):=by
 intro value slice pins s σ H x y v u Q I rx ry h hs;obtain⟨b,d,ks,U,bK,v',e1,e2,hb,hd,hU,hv,q⟩:=id h;obtain⟨xs,hm,_,_,_⟩:=Ge I hd hU;have ht:s.TypeIs v "dict":=by subst e1;cases rx;exact hm.typeIs
 exact PyProof.Rows.tail_any ht slot_dict_getitem.lookup (ait hu pins s σ H x y v u Q I rx ry h) hs
theorem YF{K:ai}{σ:St}{H G H' G':Hp}{ρ:au}{j:Nat}{kvs:List (List Int×D)}{k:D}{v:V}{ks:List Int}(s:SR K B σ H ρ G)(q:ρ[j]?=some (.od kvs))(y:Ext G H G' H')(r:Rep K G' k v)(e:mY k=some ks) :
  ∃b d U bK,v=.ref b/\σ[j]?=some (some (.ref d))/\pR K H' b (ks.map V.int)/\UG K G' b ks/\H' d=some (.ext (pU U d bK))/\(∀b ks,U b ks->UG K G' b ks)/\(∀b ks,UG K G' b ks->UG K H' b ks)/\fu K G' kvs bK:=by
 obtain⟨b,rfl,hb⟩:=DN r e;obtain⟨d,U,bK,h1,h2,h3,h4,h5,h6⟩:=s.od q;exact⟨b,d,U,bK,rfl,h1,Same.gW y.gh hb,hb,y.hh _ _ h2,fun c js z=>Same.gW y.gg (h5 c js z),fun c js z=>Same.gW y.gh z,h6.mono y.gg⟩
def qH(j:Nat)(fe fk:au->Rs D):au->Ou:=fun ρ=>oR (fe ρ) ρ fun v=>match ρ[j]? with
 |some (.od kvs)=>oR (fk ρ) ρ fun k=>(match mY k with
  |some ks=>if kvs.length<=1000000 then .nx (ρ.set j (.od (iw kvs ks v))) else .no
  |none=>.no)
 |_=>.no
theorem aiw{e b:ag}{x:Str}{p1 tp pos:Pos}{j:Nat}{fe fk:au->Rs D}(hu:X.A.units + 1 < bu)(he:SE X B W e fe)(hv:PE X (.Name x p1) (RW j))(hb:SE X B W b fk)
  (hs:kH [.Subscript (.Name x p1) b tp] e pos.line X.env=pure false:=by rfl) (hw:kK [.Subscript (.Name x p1) b tp] e X.env=pure none:=by rfl)
  (h1:(d4 [.Subscript (.Name x p1) b tp] X.env).map (·.2)=[assign (.Subscript (.Name x p1) b tp) X.env]:=by rfl)
  (ha:∀v,assign (.Subscript (.Name x p1) b tp) X.env v=(do
   let ov <- d3 [v] (a_ (.Name x p1) X.env)
   let iv <- d3 [v,ov] (a_ b X.env)
   kG tp
   d3 [v,ov,iv] (setItem ov iv v)
   release [v,ov,iv] []):=by intro _;rfl) :
  SS X B W (.Assign [.Subscript (.Name x p1) b tp] e pos) (qH j fe fk):=by
 refine PS.imp (Mv he (Xy hv hb (afo hu) ha) hs hw h1) fun De σ H fZ=>?_;obtain⟨ρ,G,s,p⟩:=fZ;unfold qH at p;refine⟨ρ,G,s,jg s p fun d v H' G' _ y r p'=>?_⟩;cases e2:ρ[j]? with
 |none=>rw[e2]at p';exact p'.elim
 |some z =>
  rw[e2]at p';cases z with
  |od kvs =>
   have s':=s.ext y;obtain⟨d0,U0,afp,h1,h2,_⟩:=s'.od e2;refine⟨_,h1,ρ,G',s',jg s' p' fun k v2 H2 G2 _ y2 r2 p2=>?_⟩;cases e1:mY k with
   |none=>rw[e1]at p2;exact p2.elim
   |some ks =>
    rw[e1]at p2;dsimp only at p2;by_cases hl:kvs.length<=1000000
    ·rw[if_pos hl]at p2;obtain⟨b',d1,U,bK,rfl,q1,q2,q3,q4,q5,q6,q7⟩:=YF s' e2 y2 r2 e1;rw[h1]at q1;cases q1;refine⟨b',d0,ks,U,UG X.K G2,bK,rfl,rfl,q2,q4,q5,q6,q3,by rw[<- q7.len];exact hl,?_⟩;exact p2 σ _ G2 ((s'.ext y2).yh e2 rfl h1 rfl ⟨UG X.K G2,_,rfl,fun _ _ z=>z,q7.put (r.mono y2.gg)⟩) (.refl _)
    ·rw[if_neg hl]at p2;exact p2.elim
  |_=>exact p'.elim
def afq(K:ai):V->List V->Hp->VK->Prop:=fun x vs H Q=>∃(b d:ab) (w:V) (ks:List Int) (U:ab->List Int->Prop) (bK:List (List Int×V)),x=.ref d/\vs=[.ref b,w]/\pR K H b (ks.map V.int)/\BW H d U bK/\(∀b ks,U b ks->UG K H b ks)/\Q ((uy bK ks).getD w) H
theorem aaQ(hu:X.A.units + 1 < bu):MtR X "dict.get" (afq X.K):=by
 intro pins s σ H x vs v us Q I rx rv ⟨b,d,w,ks,U,bK,e1,e2,hb,hd,hU,q⟩;subst e1;subst e2;cases rx;cases rv with
 |cons r1 rv =>
  cases rv with
  |cons r2 rv =>
   cases rv;cases r1;obtain⟨xs,hm,hs,hp,_⟩:=Ge I hd hU;refine call_meetsIn vS hm.typeIs F.entry_dict_get (F.args_dict_get_3 _ _ _) (meetsH_dict_get_default (nK (cq X.prog X.w)) d b hs _) ⟨sf hu,ks,xs,yI I hb,hm,?_⟩;refine⟨_,H,I.tok _,?_,q⟩;rcases uz (ks:=ks) hp with ⟨w1,w2⟩|⟨v',q',w1,w2,w3⟩
   ·rw[w1,w2];exact r2
   ·rw[w1,w2];exact w3
def Gg(j:Nat)(fs:au->Rs (List D)):au->Rs D:=fun ρ=>match ρ[j]? with
 |some (.od kvs)=>(fs ρ).bind fun es=>match es with
  | [k,w]=>(match mY k with|some ks=>.ok ((cg kvs ks).getD w)|none=>.no)
  |_=>.no
 |_=>.no
theorem aix{k d:ag}{x:Str}{p1 p2 cp:Pos}{j:Nat}{fs:au->Rs (List D)}(hu:X.A.units + 1 < bu)(hv:PE X (.Name x p1) (RW j))(ha:SA X B W [k,d] fs)
  (h1:l9 (.Name x p1) "get" X.env (a_ (.Name x p1) X.env)=a_ (.Name x p1) X.env:=by rfl) (h2:ba [k,d] X.env=[(false,a_ k X.env),(false,a_ d X.env)]:=by rfl)
  (h3:((di cp (ba [k,d] X.env)).all (fun q=>!q.1) && (jI cp (jS [] X.env)).all (fun q=>q.1.isSome) && decide (([k,d]:List ag).length + 0 + 0 < 30))=true:=by rfl)
  (h4:(p2.endLine == cp.line)=true:=by rfl) (h5:((di cp (ba [k,d] X.env)).any fun q=>q.1)=false:=by rfl) :
  SE X B W (.Call (.Attribute (.Name x p1) "get" p2) [k,d] [] cp) (Gg j fs):=by
 intro pins s σ H Q I ⟨ρ,G,sr,p⟩;unfold Gg at p;cases e2:ρ[j]? with
 |none=>rw[e2]at p;exact p.elim
 |some z =>
  rw[e2]at p;cases z with
  |od kvs =>
   obtain⟨d0,U0,afp,g1,g2,_⟩:=sr.od e2;refine sR h1 h3 h4 rfl (jc (hv pins s σ H (fun y H1=>y=.ref d0/\H1=H) I ⟨_,g1,rfl,rfl⟩) fun v s1 fZ=>?_);obtain⟨y,H1,I1,r1,hy,hH⟩:=fZ;subst hy;subst hH;cases r1;obtain⟨⟨o',es',ep',xs',w1,w2,_⟩,_,_⟩:=(show fY X.prog X.w H1 s1.heap d0 (.ext (pU U0 d0 afp)) from I1.hok d0 _ g2)
   refine⟨"dict","dict.get",F.plainAttrs_dict,vS,F.type_dict_get,⟨o',w1,w2.1⟩,fun a ea=>?_,?_⟩
   ·cases ea;exact⟨o',w1,w2.2.1⟩
   have p':Post X.K W σ G H1 ((fs ρ).bind fun es=>match es with
     | [k,w]=>(match mY k with|some ks=>.ok ((cg kvs ks).getD w)|none=>.no)
     |_=>.no) Q:=p
   have hA:=ha cp pins s1 σ H1 (fun vs H2=>afq X.K (.ref d0) vs H2 Q) I1 ⟨ρ,G,sr,?_⟩
   ·rw[h2]at hA h5 ⊢;refine sT h5 (s_ ?_);exact jc hA fun us s2 ⟨vs,H2,I2,r2,q2⟩=>aaQ hu pins s2 σ H2 (.ref d0) vs (.ref d0) us Q I2 rfl r2 q2
   ·cases e:fs ρ with
    |no=>rw[e]at p';exact p'.elim
    |ex c n=>rw[e]at p';exact p'
    |ok es =>
     rw[e]at p';intro vs H' G' y r
     match es,p',r with
     | [],p',r=>exact p'.elim
     | [_],p',r=>exact p'.elim
     |_::_::_::_,p',r=>exact p'.elim
     | [k,w],p',r =>
      obtain⟨v1,vs1,rfl,r1,r2⟩:=aQ.mp r;obtain⟨v2,vs2,rfl,r3,r4⟩:=aQ.mp r2;cases bD.mp r4;have p3:Post X.K W σ G H1 (match mY k with|some ks=>.ok ((cg kvs ks).getD w)|none=>.no) Q:=p';cases e1:mY k with
      |none=>rw[e1]at p3;exact p3.elim
      |some ks =>
       rw[e1]at p3;dsimp only at p3;obtain⟨b',d1,U,bK,rfl,q1,q2,q3,q4,q5,q6,q7⟩:=YF sr e2 y r1 e1;rw[g1]at q1;cases q1;refine⟨b',d0,v2,ks,U,bK,rfl,rfl,q2,aao q4,fun c js z=>q6 c js (q5 c js z),?_⟩;rcases q7.get (ks:=ks) with ⟨w1,w2⟩|⟨dd,vv,w1,w2,w3⟩
       ·rw[w2];rw[w1]at p3;exact p3 v2 H' G' y r3
       ·rw[w2];rw[w1]at p3;exact p3 vv H' G' y w3
  |_=>exact p.elim
end
section
variable{X:Cx}{B:Bs}{W:Wi}
theorem Ux{M:Model}{A:aS}{E:aa->ae->Prop}{s:ae}{v u:aa}{Q:aa->ae->Prop}(h:ah M A (fv .In v u) (fun r s'=>∃c,r=.bool c/\Q (.bool (!c)) s') E s) :
  ah M A (fv .NotIn v u) Q E s:=by
 have h':ah M A (contains u v >>= fun b=>pure (aa.bool b)) (fun r s'=>∃c,r=aa.bool c/\Q (.bool (!c)) s') E s:=h;show ah M A (contains u v >>= fun b=>pure (aa.bool (!b))) Q E s;intro Γ p hΓ;have h2:=h' Γ p hΓ;simp only[Sem.wp_bind',Sem.wp_pure']at h2 ⊢;refine Sem.wp_mono M Γ _ (fun b p1 s1 z=>?_) (fun _ _ _ z=>z) _ _ h2;obtain⟨c,e,q⟩:=z;cases e;exact q
def afr(K:ai):R2:=fun x y H Q=>aaN K x y H fun z H'=>∃c,z=.bl c/\Q (.bl (!c)) H'
theorem afs(hu:X.A.units + 1 < bu):wg X (fv .NotIn) (afr X.K):=by intro pins s σ H x y v u Q I rx ry h;refine Ux (d6 (aaO hu pins s σ H x y v u _ I rx ry h) (fun r s' ⟨z,H',I',rz,c,e,q⟩=>?_) fun _ _ e=>e);subst e;cases rz;exact⟨c,rfl,V.bl (!c),H',I',rfl,q⟩
end
def Iw(i:Nat):au->Ou:=fun ρ=>.nx (ρ.set i (.od []))
section
variable{X:Cx}{B:Bs}{W:Wi}
theorem rM(i:Nat){x:Str}{pos pos' lp:Pos}(hN:X.N.Nodup)(hi:X.N[i]?=some x:=by rfl)(hx:Mu X.env.scope x:=by first|exact Or.inl rfl|exact Or.inr rfl)(hs:eL (.Dict [] [] lp) (some (.Name x pos')) pos.line X.env=pure false:=by rfl)(hf:X.fn x=true∨X.env.scope.names.lookup x=some .local:=by first|exact .inl rfl|exact .inr rfl|assumption) :
  SS X B W (.Assign [.Name x pos'] (.Dict [] [] lp) pos) (Iw i):=aiv hN hi hx hs hf
theorem Gh(h:X.A.units + 8 < bu):X.A.units + 1 < bu:=by lia
theorem aaR(j:Nat) {k d:ag}{x:Str}{p1 p2 cp:Pos}{fs:au->Rs (List D)}(hu:X.A.units + 8 < bu) (ha:SA X B W [k,d] fs) (hN:X.N[j]?=some x:=by rfl) (hv:RL X.env.scope x:=by first|exact Or.inl rfl|exact Or.inr (Or.inl rfl)|exact Or.inr (Or.inr rfl)) (hd:(x == ("__debug__":Str))=false:=by decide)
  (hcd:(x == ("__classdict__":Str))=false:=by decide)
  (h1:l9 (.Name x p1) "get" X.env (a_ (.Name x p1) X.env)=a_ (.Name x p1) X.env:=by rfl) (h2:ba [k,d] X.env=[(false,a_ k X.env),(false,a_ d X.env)]:=by rfl)
  (h3:((di cp (ba [k,d] X.env)).all (fun q=>!q.1) && (jI cp (jS [] X.env)).all (fun q=>q.1.isSome) && decide (([k,d]:List ag).length + 0 + 0 < 30))=true:=by rfl)
  (h4:(p2.endLine == cp.line)=true:=by rfl) (h5:((di cp (ba [k,d] X.env)).any fun q=>q.1)=false:=by rfl) :
  SE X B W (.Call (.Attribute (.Name x p1) "get" p2) [k,d] [] cp) (Gg j fs):=aix (Gh hu) (jq hN hv hd hcd) ha h1 h2 h3 h4 h5
theorem pB(j:Nat) {e b:ag}{x:Str}{p1 tp pos:Pos}{fe fk:au->Rs D}(hu:X.A.units + 8 < bu) (he:SE X B W e fe) (hb:SE X B W b fk) (hN:X.N[j]?=some x:=by rfl) (hv:RL X.env.scope x:=by first|exact Or.inl rfl|exact Or.inr (Or.inl rfl)|exact Or.inr (Or.inr rfl)) (hd:(x == ("__debug__":Str))=false:=by decide)
  (hcd:(x == ("__classdict__":Str))=false:=by decide)
  (hs:kH [.Subscript (.Name x p1) b tp] e pos.line X.env=pure false:=by rfl) (hw:kK [.Subscript (.Name x p1) b tp] e X.env=pure none:=by rfl)
  (h1:(d4 [.Subscript (.Name x p1) b tp] X.env).map (·.2)=[assign (.Subscript (.Name x p1) b tp) X.env]:=by rfl)
  (ha:∀v,assign (.Subscript (.Name x p1) b tp) X.env v=(do
   let ov <- d3 [v] (a_ (.Name x p1) X.env)
   let iv <- d3 [v,ov] (a_ b X.env)
   kG tp
   d3 [v,ov,iv] (setItem ov iv v)
   release [v,ov,iv] []):=by intro _;rfl) :
  SS X B W (.Assign [.Subscript (.Name x p1) b tp] e pos) (qH j fe fk):=aiw (Gh hu) he (jq hN hv hd hcd) hb hs hw h1 ha
end
section
variable{X:Cx}{K:ai}{B:Bs}{W:Wi}{σ:St}{G H:Hp}{ρ:au}{a b c:ag}{pos:Pos}{fa fb fc:au->Rs D}
end
section
variable{X:Cx}{B:Bs}{W:Wi}
end
end Vl
namespace L2
open PySem PySem.Spec PyProof.Rows
section
variable{X:Cx}{pins:List (ab×Obj)}{σ:List (Option V)}{H:Hp}{s:ae}{h':Heap}
theorem Inv.vI{t':Nat}{ch:List ab}(I:Inv X pins σ H s)(k:∀b u,b∉ch->s.heap.get? b=some u->h'.get? b=some u)(hf:∀b∈ch,qY X pins H b):Inv X pins σ H { s with heap:=h',toks:=t' }:=by
 have nch:∀b u,H b=some u->b∉ch:=fun b u e z=>by rw[(hf b z).1]at e;cases e
 refine I.step (g':=s.gens) (d':=s.drawn) (ch:=ch) (fun b hb=>⟨(hf b hb).2.2.2.1,(hf b hb).2.1,(hf b hb).2.2.2.2.1,(hf b hb).2.2.2.2.2⟩) (fun b o _ _ hc e _=>k b o hc e) (fun b o _ _ hc e _=>⟨o.slots,k b o hc e⟩) (fun _ _ _ _ n=>n)
  (fun b o hc e=>⟨o,k b o hc e⟩) (fun _ _ e=>e) (fun _ _ _ e=>e) (fun b ps e=>⟨#[],by rw[e];simp⟩) (fun m hm=>?_) (fun b u e=>?_) I.bare
 ·obtain⟨o,es,ep,ho,r⟩:=hm;exact⟨o,es,ep,k _ o (fun z=>(hf _ z).2.1 rfl) ho,r⟩
 ·refine(I.hok b u e).stay (fun c v hc q=>k c v ?_ q) (fun _ q=>q) (fun _ _ q=>q) fun _ _ q=>q;rcases hc with z|z
  ·rw[z];exact nch b u e
  ·exact nch c _ z
end
section
variable{X:Cx}
end
end L2
namespace Vl
open PySem PySem.Spec L2
section
variable{X:Cx}{B:Bs}{W:Wi}
end
end Vl
namespace PySem
namespace Xu
theorem abZ:Slot "reversed" "__init__" "object.__init__" :=
 .of (owner:="object") (n:="__init__") (by rw[m8,m9];kernel_rfl) (by decide+kernel) (by decide+kernel) (by decide+kernel)
  (by first|exact .inl (by decide+kernel)|exact .inr (by decide+kernel)) (by rw[i5];kernel_rfl)
theorem called:TypeCalled "reversed" "reversed.__new__" "object.__init__" :=
 ⟨by decide+kernel,by decide+kernel,⟨_,_,F.mro_reversed⟩,F.made_reversed,by decide+kernel,by rw[i5];kernel_rfl,abZ⟩
theorem slot_next:Slot "reversed" "__next__" "reversed.__next__" :=
 .of (owner:="reversed") (n:="__next__") (by rw[m8,m9];kernel_rfl) (by decide+kernel) (by decide+kernel) (by decide+kernel)
  (by first|exact .inl (by decide+kernel)|exact .inr (by decide+kernel)) (by rw[i5];kernel_rfl)
theorem entry_next:oz table "reversed.__next__"=some Builtin.«reversed.__next__»:=entryFor_of_tree (by kernel_rfl)
theorem args_next(a:aa):i6 "reversed.__next__" ⟨[a],[]⟩:=by unfold i6;kernel_rfl
theorem Lk:Slot "reversed" "__iter__" "reversed.__iter__" :=
 .of (owner:="reversed") (n:="__iter__") (by rw[m8,m9];kernel_rfl) (by decide+kernel) (by decide+kernel) (by decide+kernel)
  (by first|exact .inl (by decide+kernel)|exact .inr (by decide+kernel)) (by rw[i5];kernel_rfl)
theorem acd(a:aa):i6 "reversed.__iter__" ⟨[a],[]⟩:=by unfold i6;kernel_rfl
theorem YG:oz table "reversed.__iter__"=some Builtin.«dict_keyiterator.__iter__» :=
 u6 (id':="dict_keyiterator.__iter__") (by kernel_rfl) (by first|rfl|decide+kernel|(unfold String.splitOn;simp+decide [String.splitOnAux])) (by decide+kernel) (by kernel_rfl)
theorem alS:typeLookup (.type "tuple") "__reversed__"=pure none:=by rw[m8,m9];kernel_rfl
end Xu
section
variable{prog:aE}{w:az}{A:aS}{E:aa->ae->Prop}{s:ae}
def aaS(t:ab)(i:Int):Obj:={ cls:=.type "reversed",data:=.fields #[.ref t,cE i] }
abbrev Heap.wC(h:Heap)(a t:ab)(i:Int):Prop:=h.get? a=some { cls:=.type "reversed",dict:=none,data:=.fields #[.ref t,cE i],slots:=#[] }
theorem jy{a t:ab}{i:Int}(x:s.heap.wC a t i):s.TypeIs (.ref a) "reversed":=⟨_,x,rfl⟩
theorem vY(t:ab)(items:Array aa):Meets (Builtin.«reversed.__new__» ⟨[.type "reversed",.ref t],[]⟩)
  (fun _ R s=>vT s.heap t items/\(items.size:Int) < 2 ^ 63/\∀tk,R (.ok (.ret (.ref s.heap.objs.size))) { s with heap:=s.heap.push (aaS t ((items.size:Int) - 1)),toks:=tk }) :=
 .of_wp fun prog w A R s h=>by
  obtain⟨ht,hfit,h⟩:=h;unfold Builtin.«reversed.__new__»;refine af (i4 (newClass_reversed _) ?_)
  try dsimp only
  refine af (i4 (a:=()) (by first|rfl|kernel_rfl) ?_);refine af (i4 (a:=()) (by first|rfl|kernel_rfl) ?_)
  try dsimp only
  refine af (mS ht.typeIs Xu.alS ?_)
  try dsimp only
  refine af ?_
  wp_delta
  refine af (nc (T:="tuple") (b:=false) ht.typeIs (by rw[i5];kernel_rfl) ?_)
  try dsimp only
  try simp only[br,if_false]
  refine af (mS ht.typeIs l6.lookup ?_)
  try dsimp only
  rw[if_pos (by decide)];refine ax ?_
  try simp only[eR,br,if_false]
  refine af (PyProof.Rows.len_tuple ht hfit ?_);refine af (m:=asInt? _) (ax ?_)
  try dsimp only
  refine af ?_;show ah _ _ (newObj (.type "reversed") (.fields #[.ref t,cE ((items.size:Int) - 1)])) _ _ _;exact eM (ax ⟨_,rfl,h _⟩)
theorem vZ{t:ab}{items:Array aa}{Q:aa->ae->Prop}(ht:vT s.heap t items)(hfit:(items.size:Int) < 2 ^ 63)
  (h:∀tk,Q (.ref s.heap.objs.size) { s with heap:=s.heap.push (aaS t ((items.size:Int) - 1)),toks:=tk }):ah (ar prog w) A (call (.type "reversed") [.ref t]) Q E s:=by
 refine callType_new Xu.called (by decide) (F.typeCall_reversed_1 _) (F.newCall_reversed_1 _) (fun obj=>F.args_object_init_2 obj _) F.entry_reversed_new (vY t items) ⟨ht,hfit,fun tk=>?_⟩;exact⟨⟨_,cS _ rfl,rfl⟩,h tk⟩
theorem qI{it t:ab}{i:Int}{Q:aa->ae->Prop}(hit:s.heap.wC it t i)(h:Q (.ref it) s):ah (ar prog w) A (j8 (.ref it)) Q E s:=by refine qS (jy hit) Xu.Lk (gc Xu.Lk (jy hit) Xu.YG ?_ (Xu.acd _));show ah _ _ (ret (.ref it)) _ _ s;exact ax ⟨_,rfl,"reversed",_,(jy hit),Xu.slot_next.lookup,h⟩
theorem tM{it t:ab}{i:Nat}{items:Array aa}{x:aa}{Q:Option aa->ae->Prop}(hit:s.heap.wC it t (i:Int))(ht:vT s.heap t items)(hi:(items.size:Int) < 2 ^ 63)(hx:items[i]?=some x)
  (hQ:∀h' tk,h'.wC it t ((i:Int) - 1)->eK it s.heap h'->Q (some x) { s with heap:=h',toks:=tk }):ah (ar prog w) A (d7 (.ref it)) Q E s:=by
 have hlt:i < items.size:=by have:=(ie.mp hx).1;exact this
 unfold d7;refine af (ky (ke (name:=kg "__next__") (jy hit) Xu.slot_next
  (gc Xu.slot_next (jy hit) Xu.entry_next ?_ (Xu.args_next _))))
 unfold Builtin.«reversed.__next__»;refine af (i4 (a:=(aa.ref it,[])) rfl ?_)
 try dsimp only
 refine af (kd hit rfl (x:=.ref t) rfl ?_);refine af (kd hit rfl (x:=cE (i:Int)) rfl ?_);show ah _ _ (if (i:Int) < 0 then _ else _) _ _ s;rw[if_neg (by lia)];refine af (mS ht.typeIs l6.lookup ?_)
 try dsimp only
 rw[if_neg (by simp)];refine af (wpAny_mkInt ?_);refine af (ky (PyProof.Rows.getItem_tuple (j:=i) ht (by lia) (by lia) (by simp[n5];lia) hx ?_))
 try dsimp only
 refine af (kd hit rfl (x:=cE (i:Int)) rfl ?_)
 try dsimp only
 refine af (v5 hit (by simp) fun h' he' hs'=>?_);exact ax ⟨x,rfl,ax (hQ h' _ he' hs')⟩
theorem uD{it t:ab}{Q:Option aa->ae->Prop}(hh:A.handled=none)(hit:s.heap.wC it t (-1))
  (hQ:∀h',q9 it s.heap h'->Q none { s with heap:=h' }):ah (ar prog w) A (d7 (.ref it)) Q E s:=by
 unfold d7;refine af (ky (ke (name:=kg "__next__") (jy hit) Xu.slot_next
  (gc Xu.slot_next (jy hit) Xu.entry_next ?_ (Xu.args_next _))))
 unfold Builtin.«reversed.__next__»;refine af (i4 (a:=(aa.ref it,[])) rfl ?_)
 try dsimp only
 refine af (kd hit rfl (x:=.ref t) rfl ?_);refine af (kd hit rfl (x:=cE (-1)) rfl ?_);show ah _ _ (if (-1:Int) < 0 then _ else _) _ _ s;rw[if_pos (by decide)];refine af (gT ?_);refine af ?_
 wp_delta
 refine af (v5 hit (by simp) fun h1 he1 hs1=>?_);refine v5 he1 (by simp) fun h2 he2 hs2=>?_;have x2:q9 it s.heap h2:=fun b o hb e=>hs2.extBut b o hb (hs1.extBut b o hb e)
 first
 |show ah _ _ (newExc (.type "StopIteration") [] >>= _) _ _ _
 | (refine af ?_;show ah _ _ (newExc (.type "StopIteration") [] >>= _) _ _ _)
 refine af ?_;simp only[newExc,newTuple];refine af (eM ?_ (by size_fits));refine af (m:=m_ _ _) (i4 (a:=aa.none) (by first|rfl|(simp only[m_];rfl)) ?_);refine eM ?_ (by size_fits);simp only[raiseNew];refine af (vc ?_)
 first|rw[show A.in1.handled=none from hh]|rw[hh]
 refine af (ax (ve ?_));refine af (nc (T:="StopIteration") (b:=true) ⟨_,cS _ rfl,rfl⟩ vi ?_);exact ax (hQ _ ((x2.push _).push _))
end
end PySem
namespace PySem
open PyProof.Rows (IsTup)
section
variable{prog:aE}{w:az}{A:aS}{E:aa->ae->Prop}{s:ae}
end
section
variable{prog:aE}{w:az}{A:aS}{E:aa->ae->Prop}{s:ae}
end
end PySem
namespace Vl
open PySem PySem.Spec L2
section
variable{X:Cx}{B:Bs}{W:Wi}{K:ai}
theorem Uy{G:Hp}:∀{ds:List D}{vs:List V},bI K G ds vs->bI K G ds.reverse vs.reverse
 | [],_,h=>by rw[bD.mp h];exact bD.mpr rfl
 |d::ds,_,h=>by obtain⟨v,vs',rfl,h1,h2⟩:=aQ.mp h;rw[v7,v7];exact(Uy h2).append (bI.one h1)
end
end Vl
namespace Vl
open PySem PySem.Spec PySem.Calls PySem.W L2
structure aue (K:ai)(x:Str)(st:bj)(f:ab)(fd:ck)(ps:List Str):Prop where
 ex:∃(oc:aa) (od:Option ab) (dV kV doc pm:aa) (an:Option ab) (cdv ct:aa) (osl:Array (Option aa)),
  fd=eW x x (bJ st) (bF st) (aD st) dV kV doc pm an cdv ct/\K.lookup f=some ⟨oc,od,.func fd,osl⟩/\lT K cdv x=true
 kp:gx K (.ref f)=true
 bi:Binds K fd ps []
end Vl
namespace Vl
open PySem PySem.Spec L2
section
variable{X:Cx}{K:ai}{B:Bs}{W:Wi}{σ:St}{G H:Hp}{ρ:au}{a b c:ag}{pos:Pos}{fa fb fc:au->Rs D}
end
section
variable{X:Cx}{B:Bs}{W:Wi}
end
end Vl
namespace Dk
open PySem PySem.Spec
section
variable{prog:aE}{w:az}{A:aS}{E:aa->ae->Prop}{s:ae}{d it:ab}{es:Array kP}{ep:Nat}
def qJ(h:Heap)(d:ab)(es:Array kP)(ep:Nat):Prop:=∃o,h.get? d=some o/\o.ExactDict/\o.data=.dict es ep
theorem qJ.ty(x:qJ s.heap d es ep):s.TypeIs (.ref d) "dict":=let ⟨o,ho,hc,_⟩:=x;⟨o,ho,hc.1⟩
theorem qJ.go{h h':Heap}(x:qJ h d es ep)(e:∀o,h.get? d=some o->h'.get? d=some o):qJ h' d es ep:=let ⟨o,ho,r⟩:=x;⟨o,e o ho,r⟩
def kit(d:ab)(i n ep:Nat):Obj:={ cls:=.type "dict_keyiterator",data:=.fields #[.ref d,.int i 0,.int n 0,.int ep 0] }
theorem kit_is{h:Heap}{i n:Nat}(e:h.get? it=some (kit d i n ep)):h.IsKeyIter it d i n ep:=⟨_,e,rfl,rfl⟩
theorem aft{Q:aa->ae->Prop}(hd:(d == gp)=false)(hm:qJ s.heap d es ep)(hQ:Q (.ref s.heap.objs.size) { s with heap:=s.heap.push (kit d 0 es.size ep) }):ah (ar prog w) A (j8 (.ref d)) Q E s:=by obtain⟨o,ho,hc,hdat⟩:=id hm;refine qS hm.ty F.slot_dict_iter (gc F.slot_dict_iter hm.ty F.entry_dict_iter ?_ (F.args_dict_iter_1 _));unfold Builtin.«dict.__iter__» cv.Dict.dictSlotNone;refine af (af (wpAny_notOrdered_dict hm.ty ?_));show ah _ _ (pure (aa.ref d)) _ _ s;refine ax ?_;show ah _ _ (cv.Dict.showsAll d >>= _) _ _ s;unfold cv.Dict.showsAll;rw[if_neg (by rw[hd];exact tq)];refine af (ax (af (v8 ho hdat (af (v_ ho hdat ?_)))));exact af (eM (ax ⟨_,rfl,"dict_keyiterator",_,⟨_,cS _ rfl,rfl⟩,o5.lookup,hQ⟩))
theorem akd{i:Nat}{Q:Option aa->ae->Prop}(hit:s.heap.IsKeyIter it d i es.size ep)(hm:qJ s.heap d es ep)(hx:i < es.size)
  (hQ:∀h',h'.IsKeyIter it d (i + 1) es.size ep->eK it s.heap h'->Q (some es[i].key) { s with heap:=h' }):ah (ar prog w) A (d7 (.ref it)) Q E s:=by
 obtain⟨o,ho,hc,hd⟩:=id hit;obtain⟨od,hod,hcd,hdd⟩:=id hm;unfold d7;refine af (ky (ke (name:=kg "__next__") hit.typeIs o5 (gc o5 hit.typeIs F.entry_dict_keyiterator_next ?_ (F.args_dict_keyiterator_next_1 _))));refine af (ax (af (af (af ?_))))
 first|refine sg hit.typeIs (ax ?_)|refine si hit.typeIs (ax ?_)
 refine af (qV ho hd ?_);simp only[show cv.Dict_items.ownsTuple "dict_keyiterator"=false by decide,br,if_false];show ah _ _ (if (aa.ref d == aa.none)=true then _ else _) _ _ s;rw[if_neg (by intro z;cases z)];refine af (ax (af (v8 hod hdd ?_)));rw[if_neg (by simp)];refine af (ax (af (v_ hod hdd ?_)));rw[if_neg (by simp)];refine ax ?_;simp only[show ¬((i:Int) < 0) from by lia,if_false,kR,kU hx];refine af (af ?_)
 first|refine sg hit.typeIs (ax ?_)|refine si hit.typeIs (ax ?_)
 refine af (wpAny_isOneOf_keyiter hit.typeIs ?_);show ah _ _ (setField (.ref it) 1 (cE ((i:Int) + 1)) >>= _) _ _ s;refine af (oB ho hd (by simp) ?_);have hit':(s.heap.update it (oC (·.setIfInBounds 1 (cE ((i:Int) + 1))))).IsKeyIter it d (i + 1) es.size ep :=
  ⟨_,fE _ ho (va (q8 hd _)),(Obj.cls_mapFields ..).trans hc,by rw[q8 hd];simp[cE]⟩
 refine af (ez (af ?_));refine wpAny_isOneOf_keyiter (s:={ s with heap:=s.heap.update it (oC (·.setIfInBounds 1 (cE ((i:Int) + 1)))) }) hit'.typeIs ?_;show ah _ _ (pure es[i].key) _ _ _;exact ax (ax ⟨_,rfl,ax (hQ _ hit' (mT ..))⟩)
theorem aoE{Q:Option aa->ae->Prop}(hh:A.handled=none)(hit:s.heap.IsKeyIter it d es.size es.size ep)(hm:qJ s.heap d es ep)
  (hQ:∀h',q9 it s.heap h'->Q none { s with heap:=h' }):ah (ar prog w) A (d7 (.ref it)) Q E s:=by
 obtain⟨o,ho,hc,hd⟩:=id hit;obtain⟨od,hod,hcd,hdd⟩:=id hm;unfold d7;refine af (ky (ke (name:=kg "__next__") hit.typeIs o5 (gc o5 hit.typeIs F.entry_dict_keyiterator_next ?_ (F.args_dict_keyiterator_next_1 _))));refine af (ax (af (af (af ?_))))
 first|refine sg hit.typeIs (ax ?_)|refine si hit.typeIs (ax ?_)
 refine af (qV ho hd ?_);simp only[show cv.Dict_items.ownsTuple "dict_keyiterator"=false by decide,br,if_false];show ah _ _ (if (aa.ref d == aa.none)=true then _ else _) _ _ s;rw[if_neg (by intro z;cases z)];refine af (ax (af (v8 hod hdd ?_)));rw[if_neg (by simp)];refine af (ax (af (v_ hod hdd ?_)));rw[if_neg (by simp)];refine ax ?_;simp only[show ¬((es.size:Int) < 0) from by lia,if_false,kR,q_ (bo _)];refine af (af ?_)
 first|refine sg hit.typeIs (ax ?_)|refine si hit.typeIs (ax ?_)
 show ah _ _ (setField (.ref it) 0 .none >>= _) _ _ s;refine af (oB ho hd (by simp) ?_);show ah _ _ (newExc (.type "StopIteration") [] >>= _) _ _ _;refine af ?_;simp only[newExc,newTuple];refine af (eM ?_ (by size_fits));refine af (m:=m_ _ _) (i4 (a:=aa.none) (by first|rfl|(simp only[m_];rfl)) ?_);refine eM ?_ (by size_fits);simp only[raiseNew];refine af (vc ?_);rw[show A.in1.handled=none from hh];refine af (ax (ve ?_));refine af (nc (T:="StopIteration") (b:=true) ⟨_,cS _ rfl,rfl⟩ vi ?_);exact ax (hQ _ (((mT ..).extBut.push _).push _))
theorem afu(hh:A.handled=none)(hne:d≠it) :
  Walks prog w A it [it,d] [it] es.size (fun i v=>∃e,es[i]?=some e/\v=e.key) (fun i h=>h.IsKeyIter it d i es.size ep/\qJ h d es ep) where
 sub:=fun b hb=>by simp at hb;simp[hb]
 frame:=fun _ _ _ st hk=>⟨st.1.at fun o e=>hk it (by simp) o e,st.2.go fun o e=>hk d (by simp) o e⟩
 item:=fun i s Q E hi st hQ=>akd st.1 st.2 hi fun h' hI hs=>hQ _ h' s.toks ⟨_,kU hi,rfl⟩ ⟨hI,st.2.go fun o e=>(hs.2 d hne).trans e⟩ fun b o hb e=>(hs.2 b (fun z=>hb (by simp[z]))).trans e
 done:=fun s Q E st hQ=>aoE hh st.1 st.2 fun h' he=>hQ h' s.toks fun b o hb e=>he b o (fun z=>hb (by simp[z])) e
 self:=fun _ _ _ _ st hQ=>wpAny_pyIter_keyiter st.1 hQ
theorem ake{Q:Bool->ae->Prop}(hm:qJ s.heap d es ep)(h:Q false s):ah (ar prog w) A (rf (.ref d)) Q E s:=by
 unfold rf;refine af (mS hm.ty F.slot_dict_len.lookup ?_);have e1:splitId "dict.__len__"=some ("dict","__len__"):=by kernel_rfl
 simp only[e1];refine af (nc (b:=true) hm.ty (by rw[i5];kernel_rfl) ?_);simp only[eR,br,if_false];have pick:∀{c:Bool}{x y:Sem Bool},c=true->ah (ar prog w) A x Q E s->ah (ar prog w) A (if c=true then x else y) Q E s:=fun {c x y} hc hy=>by rw[hc];exact hy
 refine pick (by decide+kernel) ?_;exact af (jn hm.ty (ax h))
abbrev cI:Obj:=Tb.cI
theorem afv{D:ab}{Q:List aa->ae->Prop}(hh:A.handled=none)(hd:(D == gp)=false)(ho:qJ s.heap D es ep)(hn:es.size<=1000)
  (hQ:∀h' tk,(∀b o,s.heap.get? b=some o->h'.get? b=some o)->s.heap.objs.size<=h'.objs.size->Q (es.toList.map (·.key)) { s with heap:=h',toks:=tk }):ah (ar prog w) A (collect (.ref D)) Q E s:=by
 have uo:D < s.heap.objs.size:=by obtain⟨o,e,_⟩:=id ho;exact bq e
 unfold collect;refine af (qB (ik F.entry_proto_collect ?_));rw[i3 F.plain_proto_collect _];show ah _ A.in1 (newList [] >>= fun l=>again (.builtin "list.__iadd__" ⟨[l,.ref D],[]⟩)) _ _ s;refine af (eM ?_);refine ax ⟨gN rh _,ik F.entry_list_iadd ?_⟩;rw[i3 rh _];have p1:∀b o,s.heap.get? b=some o->(s.heap.push cI).get? b=some o:=fun b o e=>cb _ e;have hD1:qJ (s.heap.push cI) D es ep:=ho.go fun o e=>p1 _ _ e;have hS1:(s.heap.push cI).get? s.heap.objs.size=some cI:=cS _ rfl;show ah _ A.in1 (kz (.ref s.heap.objs.size) (.ref D) (.ref s.heap.objs.size)) _ _ _;unfold kz;have hT:uC { s with heap:=s.heap.push cI } (.ref D) "dict":=qJ.ty (s:={ s with heap:=s.heap.push cI }) hD1;refine af (jn hT ?_);have k1:nh (.ref s.heap.objs.size) (.ref D)=false:=by simp[nh];exact lz uo
 have k2:(aa.type "dict" == aa.type "list")=false:=by decide
 have k3:(aa.type "dict" == aa.type "tuple")=false:=by decide
 simp only[k1,k2,k3,qs,br,if_false];refine af (aft hd hD1 ?_);have p2:∀b o,(s.heap.push cI).get? b=some o->((s.heap.push cI).push (kit D 0 es.size ep)).get? b=some o:=fun b o e=>cb _ e;have hD2:qJ ((s.heap.push cI).push (kit D 0 es.size ep)) D es ep:=hD1.go fun o e=>p2 _ _ e;have hS2:=p2 _ _ hS1;have hI2:((s.heap.push cI).push (kit D 0 es.size ep)).get? (s.heap.push cI).objs.size=some (kit D 0 es.size ep):=cS _ rfl;have NQ:(s.heap.push cI).objs.size=s.heap.objs.size + 1:=n9 ..;refine af (ez (ake hD2 ?_));have pick:∀{c:Bool}{x y:Sem nv}{R:nv->ae->Prop}{F':aa->ae->Prop}{s':ae},c=true->ah (ar prog w) A.in1 x R F' s'->ah (ar prog w) A.in1 (if c=true then x else y) R F' s':=fun {c x y R F' s'} hc hy=>by rw[hc];exact hy
 refine pick (by decide+kernel) ?_;refine af (gT ?_);refine af ?_;show ah _ A.in1 (kA s.heap.objs.size (·.push .none) >>= fun _=>kA s.heap.objs.size (·.pop)) _ _ _;refine af (il hS2 rfl ?_);have hS3:=fE (c_ (·.push aa.none)) hS2 rfl;refine il hS3 rfl ?_;have Ir:=fE (c_ (·.pop)) hS3 rfl;generalize hH:(((s.heap.push cI).push (kit D 0 es.size ep)).update s.heap.objs.size (c_ (·.push aa.none))).update s.heap.objs.size (c_ (·.pop))=H at Ir;have oth:∀b o,b≠s.heap.objs.size->((s.heap.push cI).push (kit D 0 es.size ep)).get? b=some o->H.get? b=some o:=fun b o hb e=>by rw[<- hH];exact(fF _ _ (dQ hb)).trans ((fF _ _ (dQ hb)).trans e)
 have W:=(afu (prog:=prog) (w:=w) (A:=A.in1) (d:=D) (it:=(s.heap.push cI).objs.size) (es:=es) (ep:=ep) (by simpa using hh) (by rw[NQ];exact b_ (ki uo))).toS;have hSf:s.heap.objs.size∉[(s.heap.push cI).objs.size,D]:=by simp only[bP,gS,or_false,not_or];exact⟨by rw[NQ];exact b_ (Nat.lt_succ_self _),lz uo⟩
 refine ax ⟨gN rn _,vk W (by rw[d8];lia) s.heap.objs.size hSf _ es.size 0 _ _ _ rfl (eB _) ⟨kit_is (oth _ _ (by rw[NQ];exact u5 _) hI2),hD2.go fun o e=>oth _ _ (b_ uo) e⟩ Ir (vn _) fun s' acc c hm hS' hacc=>?_⟩;show ah _ A (load s.heap.objs.size >>= _) _ _ s';refine af (wpAny_load hS' ?_);have hacc':acc.toList=es.toList.map (·.key):=by
  apply rL;intro i;rw[cw,gd,gd];cases e:acc[i]? with
  |some v =>
   obtain⟨x,hx,rfl⟩:=hacc.2 i v e;rw[hx];rfl
  |none =>
   have:acc.size<=i:=by simpa using e
   rw[hacc.1]at this;rw[q_ this];rfl
 obtain⟨h',g',d',tk',os'⟩:=s';have eg:g'=s.gens:=hm.gens;have ed:d'=s.drawn:=hm.drawn;have eo:os'=s.os:=hm.os;subst eg ed eo;show ah _ _ (pure acc.toList) _ _ _;rw[hacc'];refine ax (hQ h' tk' (fun b o e=>hm.heap b o ?_ (oth b o (b_ (bq e)) (p2 _ _ (p1 _ _ e)))) (fR (bq hS')));simp only[bP,gS,or_false,not_or];exact⟨b_ (bq e),by rw[NQ];exact b_ (ki (bq e))⟩
end
end Dk
namespace Vl
open PySem PySem.Spec L2 So Tb
section
variable{X:Cx}{B:Bs}{W:Wi}{K:ai}
def alT(K:ai):List V->Hp->VK->Prop:=fun xs H Q=>∃(a:ab) (U:ab->List Int->Prop) (bK:List (List Int×V)),xs=[.ref a]/\BW H a U bK/\(∀b ks,U b ks->UG K H b ks)/\bK.length < 1000/\(∀p∈bK,p.1≠[]) /\
 ∀l zs,H l=none->zs.length=(bZ (bK.map (·.1))).length->(∀(i:Nat) v,zs[i]?=some v->∃b,v=.ref b/\U b ((bZ (bK.map (·.1))).getD i []))->Q (.ref l) (upd H l (.lst zs))
theorem pC{U:ab->List Int->Prop}:∀{bK:List (List Int×V)}{xs:List (List Int×ab×aa)},Paired (fun(p:List Int×V) (q:List Int×ab×aa)=>p.1=q.1/\U q.2.1 q.1/\RelV p.2 q.2.2) bK xs ->
  xs.map (·.1)=bK.map (·.1)/\∀x∈xs,U x.2.1 x.1
 | [],_,.nil=>⟨rfl,fun _ h=>by cases h⟩
 |p::bK,q::xs,.cons r t=>by
  obtain⟨e,m⟩:=pC t;refine⟨by rw[cn,cn,e,r.1],fun x hx=>?_⟩;rcases bP.mp hx with rfl|hx
  ·exact r.2.1
  ·exact m x hx
theorem Gi(hc:X.calm=true):iR X (.builtin "sorted") (alT X.K):=by
 intro pins s σ H xs us Q I r h;obtain⟨a,U,bK,rfl,hH,hU,hz,hne,q⟩:=h;obtain⟨u,rfl,rx⟩:=r.one;cases rx;obtain⟨φ,hH,hφ⟩:=hH;obtain⟨o,es,ep,ys,ho,hx,hdat,hsys,hes,hnd,hp⟩:=hφ _ (I.hok _ _ hH).1;obtain⟨ek,hu⟩:=pC hp;have hlen:ys.length=bK.length:=by have:=congrArg eT ek;simpa using this
 have hsz:es.size=ys.length:=by have:=congrArg eT hes;simpa using this
 have evs:es.toList.map (·.key)=ys.map fun x=>aa.ref x.2.1:=by rw[hes,fg];rfl
 have each:∀(i:Nat) v,(ys.map fun x=>aa.ref x.2.1)[i]?=some v->∃b,v=.ref b/\dc (cq X.prog X.w) s.heap ((ys.map (·.1)).getD i []) b/\U b ((ys.map (·.1)).getD i []):=fun i v hv=>by
  rw[cw]at hv;cases e:ys[i]? with
  |none=>rw[e]at hv;cases hv
  |some x =>
   rw[e]at hv;have hg:(ys.map (·.1)).getD i []=x.1:=by rw[e_,cw,e];rfl
   rw[hg];have hux:=hu x (kN e);exact⟨x.2.1,(c9 hv).symm,Oh I (hU _ _ hux),hux⟩
 have hd0:Dk.qJ s.heap a es ep:=⟨o,ho,hx,hdat⟩
 refine So.zV (vs:=ys.map fun x=>aa.ref x.2.1) (bB:=ys.map (·.1)) (fun Q' E' hq=>?_) ⟨by simp,fun i v hv=>let ⟨b,h1,h2,_⟩:=each i v hv;⟨b,h1,h2⟩⟩ (fun ks hks=>?_) (by simp;lia) fun h' tk l n p' k hl' hsp hg=>?_
 ·have:=Dk.afv (prog:=X.prog) (w:=X.w) (A:=X.A.in1) (E:=E') (Q:=Q') (by simpa using I.ok.hd hc) hsys hd0 (by lia) (by rw[evs];exact hq);exact this
 ·rw[ek]at hks;obtain⟨p,hp',rfl⟩:=c8.mp hks;exact hne p hp'
 ·have ho':=wW (U:=U) (vs:=ys.map fun x=>aa.ref x.2.1) (bB:=ys.map (·.1)) (Og:=ys.map (·.1)) ⟨by simp,fun i v hv=>let ⟨b,h1,_,h3⟩:=each i v hv;⟨b,h1,h3⟩⟩ hsp (.refl _);obtain⟨zs,r1,zl,zv⟩:=afh ho';rw[ek]at zl zv;have hln:H l=none:=I.hok.fresh hl';refine⟨.ref l,_,I.laid (t':=tk) k hl' (show fY X.prog X.w _ h' _ (.lst zs) from⟨?_,_,n,r1,hg⟩),rfl,q l zs hln zl zv⟩;have:(bZ (bK.map (·.1))).length=(bK.map (·.1)).length:=(eV _).length_eq;rw[zl,this,d8];simp;lia
def uE(j:Nat):au->Rs D:=fun ρ=>match ρ[j]? with
 |some (.od kvs)=>if kvs.length < 1000/\∀p∈kvs,p.1≠[] then .ok (.lst ((bZ (kvs.map (·.1))).map aj)) else .no
 |_=>.no
theorem fu.keys{G:Hp}{kvs:List (List Int×D)}{bK:List (List Int×V)}(h:fu K G kvs bK):bK.map (·.1)=kvs.map (·.1):=by
 induction h with
 |nil=>rfl
 |cons r t ih=>rw[cn,cn,ih]
theorem yJ(j:Nat) {x:Str}{p p1 pos:Pos}(hc:X.calm=true) (hm:X.mg "sorted"=none) (hN:X.N[j]?=some x:=by rfl) (hv:RL X.env.scope x:=by first|exact Or.inl rfl|exact Or.inr (Or.inl rfl)|exact Or.inr (Or.inr rfl)) (hd:(x == ("__debug__":Str))=false:=by decide)
  (hcd:(x == ("__classdict__":Str))=false:=by decide) (hg:Gl X "sorted":=by rfl) (he:ba [.Name x p1] X.env=[(false,a_ (.Name x p1) X.env)]:=by rfl) :
  SE X B W (.Call (.Name "sorted" p) [.Name x p1] [] pos) (uE j):=by
 refine PE.imp (qu (Gi hc) hg hm se (dY (jq hN hv hd hcd) jr he) (by decide) (by decide) he rfl) fun σ H Q fZ=>?_;obtain⟨ρ,G,s,pp⟩:=fZ;unfold uE at pp;split at pp
 ·rename_i kvs q;split at pp
  ·rename_i hc2;obtain⟨a,o,h1,h2,h3,h4,U,bK,rfl,hU,hk⟩:=s.own j _ q rfl;have ek:=hk.keys;have el:bK.length=kvs.length:=by have:=congrArg eT ek;simpa using this
   refine⟨_,h1,a,U,bK,rfl,aao h2,fun b ks z=>Same.gW s.en.gh (hU b ks z),by lia,fun p hp=>?_,fun l zs hl hz hv'=>?_⟩
   ·have:p.1∈kvs.map (·.1):=ek▸k8 hp;obtain⟨p',hp',e⟩:=c8.mp this;exact e▸hc2.2 p' hp'
   ·rw[ek]at hz hv';have x:=rA (xs:=zs) s.en.gh s.en.tp hl;refine pp _ _ _ x (aY.mpr ⟨l,zs,rfl,.of bH,(nY hz fun i v hv2=>?_).mono x.gg⟩);obtain⟨b,e1,e2⟩:=hv' i v hv2;exact⟨b,e1,hU b _ e2⟩
  ·exact pp.elim
 ·exact pp.elim
end
end Vl
namespace Zp
open PySem PySem.Spec
section
variable{prog:aE}{w:az}{A:aS}{E:aa->ae->Prop}{s:ae}
end
structure Ap (z TI TO i1 i2:ab)(f1 f2:List ab):Prop where
 zTI:TI≠z
 zTO:TO≠z
 TT:TI≠TO
 z1:z∉f1
 z2:z∉f2
 o1:TO∉f1
 o2:TO∉f2
 t1:TI∉f1
 t2:TI∉f2
 m1:i1∈f1
 m2:i2∈f2
 c1:i2∉f1
 c2:i1∉f2
section
variable{prog:aE}{w:az}{A:aS}{E:aa->ae->Prop}{s:ae}{z TI TO i1 i2:ab}{f1 f2:List ab}{n1 n2 k:Nat}{P1 P2:Nat->aa->Prop}{S1 S2:Nat->Heap->Prop}{a b:aa}
end
section
variable{prog:aE}{w:az}{A:aS}{E:aa->ae->Prop}{s:ae}
end
end Zp
namespace L2
open PySem PySem.Spec PyProof.Rows
section
variable{X:Cx}
end
end L2
namespace Vl
open PySem PySem.Spec L2
section
variable{X:Cx}{B:Bs}{W:Wi}{K:ai}{G:Hp}
end
end Vl
namespace Vl
open PySem PySem.Spec PySem.Calls PySem.W L2
section
variable{X:Cx}{K:ai}{B:Bs}{W:Wi}{σ:St}{G H:Hp}{ρ:au}
theorem bI.set:∀{ds:List D}{vs:List V}{d:D}{v:V}(j:Nat),bI K G ds vs->Rep K G d v->bI K G (ds.set j d) (vs.set j v)
 | [],_,_,_,_,h,_=>by rw[bD.mp h];exact bD.mpr rfl
 |e::ds,_,d,v,0,h,r=>by obtain⟨u,us,rfl,h1,h2⟩:=aQ.mp h;exact aQ.mpr ⟨v,us,rfl,r,h2⟩
 |e::ds,_,d,v,j + 1,h,r=>by obtain⟨u,us,rfl,h1,h2⟩:=aQ.mp h;exact aQ.mpr ⟨u,_,rfl,h1,bI.set j h2 r⟩
theorem bI.erase:∀{ds:List D}{vs:List V}(j:Nat),bI K G ds vs->bI K G (ds.eraseIdx j) (vs.eraseIdx j)
 | [],_,_,h=>by rw[bD.mp h];exact bD.mpr rfl
 |e::ds,_,0,h=>by obtain⟨u,us,rfl,h1,h2⟩:=aQ.mp h;exact h2
 |e::ds,_,j + 1,h=>by obtain⟨u,us,rfl,h1,h2⟩:=aQ.mp h;exact aQ.mpr ⟨u,_,rfl,h1,bI.erase j h2⟩
end
end Vl
namespace Vl
open PySem PySem.Spec L2
section
variable{X:Cx}{B:Bs}{W:Wi}{K:ai}
end
end Vl
namespace L2
open PySem PySem.Spec PyProof.Rows
section
variable{X:Cx}
end
end L2
namespace Vl
open PySem PySem.Spec L2
section
variable{X:Cx}{B:Bs}{W:Wi}{K:ai}{G:Hp}
end
end Vl
namespace Tb
open PySem PySem.SetTable
def Emp(t:bS)(j:Nat):Prop:=¬Fo t j/\has t.dummies j=false
structure auh (t:bS)(L:List tH):Prop where
 pw:∃k,t.mask + 1=2 ^ k
 m7:7<=t.mask
 pl:t.place=(L.map (·.1)).toArray
 so:(L.map (·.1)).Pairwise (· < ·)
 le:∀e∈L,e.1<=t.mask
 dr:Fl t.dummies
 dj:∀e∈L,has t.dummies e.1=false
 fl:t.fill<=t.mask
 reach:∀e∈L,∃s,pos t e.2.1 s=e.1/\∀s',s' < s->¬Emp t (pos t e.2.1 s')
section
variable{t:bS}{L:List tH}
end
end Tb
namespace Tb
open PySem PySem.Spec PySem.SetTable
section
variable{prog:aE}{w:az}{A:aS}{E:aa->ae->Prop}{s:ae}
end
section
variable{prog:aE}{w:az}{U:ab->List Int->Prop}{A:aS}{E:aa->ae->Prop}{s:ae}
end
section
variable{prog:aE}{w:az}{U:ab->List Int->Prop}{A:aS}{E:aa->ae->Prop}{s:ae}
end
end Tb
namespace So
open PySem PySem.Spec PySem.W PyProof.Rows PySem.Calls PySem.SetTable Tb
section
variable{prog:aE}{w:az}{A:aS}{E:aa->ae->Prop}{s:ae}{U:ab->List Int->Prop}
end
end So
namespace Vl
open PySem PySem.Spec L2 So Tb
section
variable{X:Cx}{B:Bs}{W:Wi}
end
end Vl
namespace Vl
open PySem PySem.Spec L2 Dk
section
variable{prog:aE}{w:az}{A:aS}{E:aa->ae->Prop}{s:ae}
end
section
variable{X:Cx}{B:Bs}{W:Wi}
end
end Vl
namespace So
open PySem PySem.Spec PySem.W PyProof.Rows PySem.Calls Tb
section
variable{prog:aE}{w:az}{A:aS}{E:aa->ae->Prop}{s:ae}
section
variable{I S:ab}{fp wr:List ab}{G:Array lr->Array lr->Prop}{n:Nat}{P:Nat->aa->Prop}{St:Nat->ae->Prop}{R:Result->ae->Prop}{Kp:Heap->Prop}{bt:Nat->Nat->Bool}
def two(v:aa)(c:Nat):Obj:={ cls:=.type "list",dict:=none,data:=.seq #[v,v] c,slots:=#[] }
end
end
end So
namespace Vl
open PySem PySem.Spec L2 So
section
variable{X:Cx}{B:Bs}{W:Wi}{K:ai}
end
end Vl
namespace Vl
open PySem PySem.Spec L2
theorem vJ{α β:Type}(f:α->β):∀(l:List α) (j:Nat),(l.map f).eraseIdx j=(l.eraseIdx j).map f
 | [],_=>rfl
 |_::_,0=>rfl
 |_::l,j + 1=>by simp[qE,vJ f l j]
section
variable{prog:aE}{w:az}{K:Type}[DecidableEq K]{knd:HeapKind prog w K}{A:aS}{E:aa->ae->Prop}{s:ae}
end
section
variable{X:Cx}{B:Bs}{W:Wi}{K:ai}
end
end Vl
namespace Zp
open PySem PySem.Spec
section
variable{prog:aE}{w:az}{A:aS}{E:aa->ae->Prop}{s:ae}
end
end Zp
namespace L2
open PySem PySem.Spec PyProof.Rows
section
variable{X:Cx}
end
end L2
namespace Vl
open PySem PySem.Spec L2
section
variable{X:Cx}{B:Bs}{W:Wi}{K:ai}{G:Hp}
def Gj(h:Tg)(gb:au->Ou)(f:au->Rs (List D)):au->Ou:=fun ρ=>match f ρ with
 | .ok ds=>cP h gb ds ρ
 | .ex c n=>.ex c n ρ
 | .no=>.no
theorem aaT{tg iter:ag}{body:List bj}{pos:Pos}{f:au->Rs (List D)}{h:Tg}{gb:au->Ou}(hp:kL (ar X.prog X.w) X.A X.env X.xe)(hc:X.calm=true)(hi:SI X B W tg iter f)(hg:SG X B tg h)(hb:wk X B W body gb)
  (hs:∀x,f6 iter X.env x=pure x:=by intro _;rfl):SS X B W (.For tg iter body [] pos) (Gj h gb f):=by
 refine PS.imp (zO hp hc hi hg hb hs) fun De σ H ⟨ρ,G,s,p⟩=>⟨ρ,G,s,?_⟩
 unfold Gj at p;cases e:f ρ with
 |no=>rw[e]at p;exact p.elim
 |ex c n=>rw[e]at p;exact fun H' G' x=>p σ H' G' (s.ext x) x.gg
 |ok ds =>
  rw[e]at p;intro J H' G' x yl;refine⟨fun i m σ H=>m=ds.length - i/\i<=ds.length/\∃ρ G,SR X.K B σ H ρ G/\Same G' G/\cO X.K B W G (cP h gb (ds.drop i) ρ) De,⟨ds.length,by simp,eB _,ρ,G',s.ext x,.refl _,by simpa using cO.same p x.gg⟩,?_⟩;rintro i m σ2 H2 ⟨rfl,hi',ρ2,G2,s2,gg,p2⟩;obtain⟨y1,y2⟩:=yl i G2 H2 gg s2.wL;by_cases hlt:i < ds.length
  ·obtain⟨go,y3⟩:=y1 ds[i] (d_ hlt);refine .inr ⟨go,fun σ' H'=>∃ρ' G3,SR X.K B σ' H' ρ' G3/\Same G' G3/\cO X.K B W G3 (cP h gb (ds.drop (i + 1)) ρ') De,fun σ' H3 p'=>⟨ds.length - (i + 1),by lia,rfl,hlt,p'⟩,fun v H3 yd=>?_⟩;obtain⟨G3,x3,r3⟩:=y3 v H3 yd;rw[iP hlt]at p2;exact yj (s2.ext x3) r3 (cO.same p2 x3.gg) fun σ' H4 ρ' G4 s' q' p'=>⟨ρ',G4,s',gg.trans (x3.gg.trans q'),p'⟩
  ·have ei:i=ds.length:=by lia
   subst ei;rw[pV]at p2;exact .inl ⟨y2 (bo _),p2 σ2 H2 G2 s2 (.refl _)⟩
end
end Vl
namespace Vl
open PySem PySem.Spec PySem.Calls PySem.W L2
end Vl
namespace HT2
open PySem PySem.Spec PyProof.Rows HT
variable{prog:aE}{w:az}{A:aS}{E:aa->ae->Prop}{s:ae}
theorem acf{t sl:ab}{xs:Array aa}{vl vu:aa}{lo hi:Option Int}{Q:aa->ae->Prop}(ht:kD s.heap t xs)(hs:s.heap.IsSliceOf sl vl vu .none)(pl:iN vl lo)(pu:iN vu hi)(w0:nD xs.size 0 lo=0)(w1:nD xs.size xs.size hi=xs.size)(q:Q (.ref t) s) :
  ah (ar prog w) A (getItem (.ref t) (.ref sl)) Q E s:=by
 have ty:s.TypeIs (.ref sl) "slice":=let ⟨o,e,c,_⟩:=hs;⟨o,e,c⟩;have body:ah (ar prog w) A.in1 (Builtin.«tuple.__getitem__» ⟨[.ref t,.ref sl],[]⟩) (fun f s'=>∃v,f=nv.done (.ret v)/\v=.ref t/\s'=s) E s:=by show ah _ _ (cv.Tuple.tupleItemsOf _ >>= fun ys=>_) _ E s;refine af (tupleItemsOf_ ht (af (jn ty ?_)));rw[if_pos (by decide)];refine af (qw hs pl pu ?_);simp only[w0,w1];rw[if_pos (by simp)];unfold cv.Tuple.tupleIsExact;refine af (af (jn ht.typeIs (ax ?_)));rw[if_pos (by decide)];exact af (gT (ax ⟨_,rfl,rfl,rfl⟩))
 unfold getItem
 (try with_reducible refine ez ?_) <;> try refine af (ax ?_)
 refine af (wpAny_sequenceKey (T:="tuple") ht.typeIs (by decide) ?_);refine af ((ke (name:=kg "__getitem__") ht.typeIs slot_tuple_getitem (gc slot_tuple_getitem ht.typeIs entry_tuple_getitem (d6 body (fun f s' ⟨v,e1,e2,e3⟩=>?_) fun _ _ e=>e) (args_tuple_getitem _ _))));subst e2;subst e3;exact⟨_,e1,ax q⟩
end HT2
namespace Vl
open PySem PySem.Spec PySem.Calls PySem.W L2
section
variable{X:Cx}{B:Bs}{W:Wi}
def aoF(K:ai):V->Option Int->Option Int->Hp->VK->Prop:=fun x lo hi H Q=>∃a xs,x=.ref a/\pR K H a xs /\
 (HT.nD xs.length 0 lo=0/\HT.nD xs.length xs.length hi=xs.length)/\Q x H
theorem Uz:SlR X (aoF X.K):=by
 intro pins s σ H x v vl vu lo hi sl Q I rx hs pl pu h;obtain⟨a,xs,rfl,hx,hw,q⟩:=h;cases rx;obtain⟨its,r,ht,hz⟩:=I.tuple hx;have hlen:its.toArray.size=xs.length:=by rw[cK];exact r.length.symm
 refine⟨"tuple",_,l6.lookup,ht.typeIs,?_⟩;exact HT2.acf ht hs pl pu (by rw[hlen];exact hw.1) (by rw[hlen];exact hw.2) ⟨.ref a,_,I,rfl,q⟩
section
variable{K:ai}{σ:St}{G H:Hp}{ρ:au}
def zX(lo hi:Option Int):D->Rs D
 | .tup ds=>.ok (.tup (Cz ds lo hi))
 |_=>.no
def afw(fe:au->Rs D)(fl fh:au->Rs (Option Int)):au->Rs D:=fun ρ=>(fe ρ).bind fun x=>(fl ρ).bind fun l=>(fh ρ).bind fun h=>zX l h x
theorem aaU{x:D}{v:V}{l h:Option Int}{Q:VK}(s:SR K B σ H ρ G)(r:Rep K G x v)(p:Post K W σ G H (zX l h x) Q):anM K v l h H Q∨aoF K v l h H Q:=by
 cases x with
 |tup ds =>
  obtain⟨a,vs,rfl,q,rr⟩:=bA.mp r;have q2:=Same.gW s.en.gh q;by_cases hw:HT.nD vs.length 0 l=0/\HT.nD vs.length vs.length h=vs.length
  ·refine .inr ⟨a,vs,rfl,q2,hw,?_⟩;have e:Cz ds l h=ds:=by unfold Cz;rw[rr.length,hw.1,hw.2,<- rr.length];simp
   exact p _ _ _ s.wL (bA.mpr ⟨a,vs,rfl,q,by rw[e];exact rr⟩)
  ·refine .inl ⟨a,vs,rfl,q2,hw,fun c hc=>?_⟩;have x:=xX (xs:=XQ vs l h) s.en.gh s.en.tp hc;exact p _ _ _ x (bA.mpr ⟨c,_,rfl,.of bH,(aeb rr).mono x.gg⟩)
 |_=>exact p.elim
theorem acg{e:ag}{lo hi:Option ag}{p2 pos:Pos}{fe:au->Rs D}{fl fh:au->Rs (Option Int)}(he:SE X B W e fe)(hl:SO X B W lo fl)(hh:SO X B W hi fh) :
  SE X B W (.Subscript e (.Slice lo hi none p2) pos) (afw fe fl fh):=by
 refine PE.imp (Ss (SlR.or adJ Uz) he hl hh) fun σ H Q h=>?_;obtain⟨ρ,G,s,p⟩:=vB (k:=fun ρ x=>(fl ρ).bind fun l=>(fh ρ).bind fun h=>zX l h x) h;refine⟨ρ,G,s,p.mono fun v H1 ⟨ρ1,G1,d,s1,r,q⟩=>⟨ρ1,G1,s1,?_⟩⟩;cases e1:fl ρ1 with
 |ok l =>
  rw[e1]at q;intro H2 G2 x2;have q':Post X.K W σ G1 H1 ((fh ρ1).bind fun h=>zX l h d) Q:=q;refine⟨ρ1,G2,s1.ext x2,?_⟩;cases e2:fh ρ1 with
  |ok h =>
   rw[e2]at q';exact fun H3 G3 x3=>aaU ((s1.ext x2).ext x3) ((r.mono x2.gg).mono x3.gg) (Post.ext (x2.trans x3) q')
  |ex c n=>rw[e2]at q';exact fun H3 G3 x3=>q' H3 G3 (x2.trans x3)
  |no=>rw[e2]at q';exact q'
 |ex c n=>rw[e1]at q;exact q
 |no=>rw[e1]at q;exact q
end
def aaV(j:Nat):au->Rs D:=fun ρ=>match ρ[j]? with
 |some (.ow ds)=>.ok (.int ds.length)
 |some (.fz (.lst ds))=>.ok (.int ds.length)
 |_=>.no
theorem aiy(j:Nat) {x:Str}{p p1 pos:Pos}(hm:X.mg "len"=none) (hN:X.N[j]?=some x:=by rfl) (hv:RL X.env.scope x:=by first|exact Or.inl rfl|exact Or.inr (Or.inl rfl)|exact Or.inr (Or.inr rfl)) (hd:(x == ("__debug__":Str))=false:=by decide)
  (hcd:(x == ("__classdict__":Str))=false:=by decide) (hg:Gl X "len":=by rfl) (he:ba [.Name x p1] X.env=[(false,a_ (.Name x p1) X.env)]:=by rfl) :
  SE X B W (.Call (.Name "len" p) [.Name x p1] [] pos) (aaV j):=by
 refine PE.imp (qu xW hg hm PySem.boot_len (dY (jq hN hv hd hcd) jr he) (by decide) (by decide) he rfl) fun σ H Q ⟨ρ,G,s,pp⟩=>?_;unfold aaV at pp;split at pp
 ·rename_i ds q;obtain⟨a,vs,e1,h2,h3,h4,h5⟩:=s.ow j ds q;refine⟨_,e1,a,vs,rfl,.inl (.of h2),?_⟩;have:=pp _ H G s.wL (aM.mpr rfl);rw[<- h5.length];exact this
 ·rename_i ds q;obtain⟨v,e1,r⟩:=s.fz j _ q;obtain⟨a,vs,rfl,h2,h5⟩:=aY.mp r;refine⟨_,e1,a,vs,rfl,.inl (s.en.gh.seq h2),?_⟩;have:=pp _ H G s.wL (aM.mpr rfl);rw[<- h5.length];exact this
 ·exact pp.elim
end
end Vl
namespace Vl
open PySem PySem.Spec PySem.Calls PySem.W L2 PyProof.Rows
section
variable{X:Cx}{B:Bs}{W:Wi}
section
variable{K:ai}
end
section
variable{K:ai}
end
variable{a b:ag}{pos:Pos}{fa fb:au->Rs D}
end
end Vl
namespace Vl
open PySem PySem.Spec L2 AutoSeq1
abbrev alU(xs:Array aa)(m:Nat)(sl:Array (Option aa)):Obj:={ cls:=.type "list",dict:=none,data:=.seq xs m,slots:=sl }
theorem YH{l b:ab}{xs ys:Array aa}{m k:Nat}{sl:Array (Option aa)}(c0:¬(!xs.isEmpty && pk (xs.size + ys.size))=true)(c1:xs.size<=sizeLine)(c2:xs.size + ys.size<=sizeLine + 1) :
  Meets (Builtin.«list.extend» ⟨[.ref l,.ref b],[]⟩) (fun _ R s=>s.heap.get? l=some (alU xs m #[])/\s.heap.get? b=some (alU ys k sl)/\R (.ok (.ret .none)) { s with heap:=s.heap.update l (c_ fun x=>x++ys),toks:=s.toks }):=by
 refine .of_wp fun prog w A R s h=>?_;obtain⟨hp,g,d,tk,os⟩:=s;obtain⟨h1,h2,h3⟩:=h;have f1:=idx_int;have f2:=sub_tuple_tuple;have f3:=sub_list_list;have f4:=sub_tuple_list;have f5:=sub_list_tuple;have z:(xs++ys).size<=sizeLine + 1:=by rw[k0];exact c2
 wp_walk using(il h1 rfl (hz:=c1) (_hz':=z)),wpAny_loadPart' h1,wpAny_loadPart' h2
 exact⟨_,rfl,h3⟩
section
variable{X:Cx}{B:Bs}{W:Wi}{K:ai}
def akf(K:ai):V->List V->Hp->VK->Prop:=fun x vs H Q=>∃l b xs zs,x=.ref l/\vs=[.ref b]/\H l=some (.lst xs)/\tL K H b zs/\xs.length + zs.length<=sizeLine/\Q .non (upd H l (.lst (xs++zs)))
theorem aiz:MtM X "list.extend" (akf X.K):=by
 intro pins s σ H x vs v us Q I rx rv ⟨l,b,xs,zs,e1,e2,hH,hB,hz,q⟩;subst e1;subst e2;cases rx;obtain⟨u,rfl,ru⟩:=rv.one;cases ru;obtain⟨z,its,n,r,hl,e⟩:=I.akV hH;have hb:∃(its2:List aa) (n2:Nat) (sl:Array (Option aa)),Vals zs its2/\s.heap.get? b=some (alU its2.toArray n2 sl):=by
  rcases hB with h|⟨o,its2,n2,hk,hc,hd,hs,hz2,r2⟩
  ·obtain⟨z2,its2,n2,r2,e2⟩:=h.ok I.hok;exact⟨its2,n2,#[],r2,e2⟩
  ·refine⟨its2.toList,n2,o.slots,r2,?_⟩;rw[I.Xq b o hk];cases o;simp only at hc hd hs;subst hc;subst hd;subst hs;rfl
 obtain⟨its2,n2,sl,r2,w2⟩:=hb;have l2:=r2.length;have le:its.length + its2.length<=sizeLine:=by lia
 have c:¬(!its.toArray.isEmpty && pk (its.length + its2.length))=true:=fun y=>by have:=(jv _ _▸y).2;rw[adM le]at this;cases this
 have m:=YH (l:=l) (b:=b) (xs:=its.toArray) (ys:=its2.toArray) (m:=n) (k:=n2) (sl:=sl) c (cz (uB _ _) le) (Nat.le_succ_of_le le);refine call_meets F.slot_list_extend ⟨_,e,rfl⟩ F.entry_list_extend (F.args_list_extend_2 _ _) m ⟨e,w2,.non,_,?_,rfl,q⟩;exact I.akU (its':=its++its2) hH e (by simp) (r.append r2) (by rw[dy];exact hz)
def Ln(i:Nat)(f:au->Rs D):au->Ou:=fun ρ=>match ρ[i]? with
 |some (.ow ds)=>oR (f ρ) ρ fun d=>(match d with
  | .lst es=>if ds.length + es.length<=1000000 then .nx (ρ.set i (.ow (ds++es))) else .no
  |_=>.no)
 |_=>.no
theorem aiA{i:Nat}{x:Str}{e:ag}{pos p1 p2 cp:Pos}{f:au->Rs D}(he:SE X B W e f)
  {pe:PE X (.Call (.Attribute (.Name x p1) "extend" p2) [e] [] cp) (tBM X.K "list" (akf X.K) (RW i) (ajL (tF X.K B W f) anK))}
  (hs:eL (.Call (.Attribute (.Name x p1) "extend" p2) [e] [] cp) none pos.line X.env=pure false:=by rfl) :
  SS X B W (.Expr (.Call (.Attribute (.Name x p1) "extend" p2) [e] [] cp) pos) (Ln i f):=by
 refine PS.imp (aad pe hs) fun De σ H fZ=>?_;obtain⟨ρ,G,s,p⟩:=fZ;unfold Ln at p;cases q:ρ[i]? with
 |none=>rw[q]at p;exact p.elim
 |some z =>
  rw[q]at p;cases z with
  |no=>exact p.elim
  |fz d=>exact p.elim
  |od _=>exact p.elim
  |op _=>exact p.elim
  |ow ds =>
   obtain⟨a,vs,e1,h2,h3,h4,h5⟩:=s.ow i ds q;refine⟨_,e1,.inl ⟨rfl,vs,.of h2⟩,ρ,G,s,jg s p fun d v H' G' _ x r p'=>?_⟩;cases d with
   |lst es =>
    dsimp only at p';by_cases hl:ds.length + es.length<=1000000
    ·rw[if_pos hl]at p';have s':=s.ext x;obtain⟨b,us,rfl,q2,rr⟩:=aY.mp r;refine⟨a,b,vs,us,rfl,rfl,x.hh _ _ h2,x.gh.seq q2,by rw[<- h5.length,<- rr.length];exact sz6 hl,?_⟩;exact p' σ _ G' (s'.write q e1 ((h5.mono x.gg).append rr)) (.refl _)
    ·rw[if_neg hl]at p';exact p'.elim
   |_=>exact p'.elim
theorem aiB(i:Nat) {x:Str}{e:ag}{pos p1 p2 cp:Pos}{f:au->Rs D}(he:SE X B W e f) (hN:X.N[i]?=some x:=by rfl) (hv:RL X.env.scope x:=by first|exact Or.inl rfl|exact Or.inr (Or.inl rfl)|exact Or.inr (Or.inr rfl)) (hd:(x == ("__debug__":Str))=false:=by decide)
  (hcd:(x == ("__classdict__":Str))=false:=by decide) (hst:ba [e] X.env=[(false,a_ e X.env)]:=by rfl)
  (hbase:l9 (.Name x p1) "extend" X.env (a_ (.Name x p1) X.env)=a_ (.Name x p1) X.env:=by rfl)
  (hfew:((di cp (ba [e] X.env)).all (fun x=>!x.1) && (jI cp (jS [] X.env)).all (fun x=>x.1.isSome)
   && decide (([e]:List ag).length + ([]:List kM).length + (if ([]:List kM).isEmpty then 0 else 1) < 30))=true:=by rfl)
  (hline:(p2.endLine == cp.line)=true:=by rfl) (hplain:(di cp (ba [] X.env)).any (·.1)=false:=by rfl)
  (hs:eL (.Call (.Attribute (.Name x p1) "extend" p2) [e] [] cp) none pos.line X.env=pure false:=by rfl) :
  SS X B W (.Expr (.Call (.Attribute (.Name x p1) "extend" p2) [e] [] cp) pos) (Ln i f) :=
 aiA (pe:=ajO PySem.F.plainAttrs_list PySem.F.slot_list_extend PySem.F.type_list_extend aiz (jq hN hv hd hcd) (dY he jr hst) hbase hfew hline hst hplain) he hs
end
end Vl
namespace Vl
open PySem PySem.Spec PySem.Calls PySem.W L2
def msk(H:Hp)(a:ab):Hp:=fun b=>if b=a then none else H b
theorem rN{H:Hp}{a b:ab}(h:b≠a):msk H a b=H b:=if_neg h
theorem Gk{H:Hp}{a:ab}:msk H a a=none:=if_pos rfl
theorem UJ{H:Hp}{a b:ab}{o:HO}(h:msk H a b=some o):b≠a/\H b=some o:=by
 by_cases e:b=a
 ·subst e;rw[Gk]at h;cases h
 ·rw[rN e]at h;exact⟨e,h⟩
def lent:Sl->Option (List D)
 | .ow ds=>some ds
 | .op ds=>some ds
 |_=>none
def iY:Sl->List D->Sl
 | .ow _,ds=>.ow ds
 | .op _,ds=>.op ds
 |z,_=>z
theorem uF{z:Sl}{ds:List D}(h:lent z=some ds):z.own=true:=by cases z <;> first|rfl|cases h
theorem Gm{z:Sl}{ds es:List D}(h:lent z=some ds):(iY z es).own=true:=by cases z <;> first|rfl|cases h
section
variable{X:Cx}{K:ai}{B:Bs}{W:Wi}{σ:St}{G H G' H':Hp}{ρ:au}
theorem Lp{z:Sl}{ds es:List D}{ws:List V}{a:ab}(h:lent z=some ds)(r:bI K G es ws):tV K G a (iY z es) (.lst ws):=by
 cases z <;> first|exact⟨ws,rfl,r⟩|cases h
theorem Lq{z:Sl}{ds es fs:List D}(h:lent z=some ds)(e:iY z es=.op fs):∃gs,z=.op gs:=by
 cases z <;> first|exact⟨_,rfl⟩|cases e|cases h
theorem SR.lent(s:SR K B σ H ρ G){i:Nat}{z:Sl}{ds:List D}(q:ρ[i]?=some z)(hl:lent z=some ds) :
  ∃a vs,σ[i]?=some (some (.ref a))/\H a=some (.lst vs)/\G a=none/\B.2 a=none/\bI K G ds vs:=by
 obtain⟨a,o,h1,h2,h3,h4,h5⟩:=s.own i z q (uF hl);cases z with
 |ow es=>cases hl;obtain⟨vs,rfl,r⟩:=h5;exact⟨a,vs,h1,h2,h3,h4,r⟩
 |op es=>cases hl;obtain⟨vs,rfl,r⟩:=h5;exact⟨a,vs,h1,h2,h3,h4,r⟩
 |_=>cases hl
theorem SR.back(s:SR K B σ H ρ G){i:Nat}{z:Sl}{ds es:List D}{a:ab}{ws:List V}(q:ρ[i]?=some z)(hl:Vl.lent z=some ds)(ha:σ[i]?=some (some (.ref a)))
  (e:Ext G (msk H a) G' H') (g:G' a=none) (h:H' a=some (.lst ws)) (r:bI K G' es ws):SR K B σ H' (ρ.set i (iY z es)) G':=by
 have li:i < ρ.length:=(dC.mp q).1;obtain⟨a0,o0,h1,h2,h3,h4,h5⟩:=s.own i z q (uF hl);have ea:a0=a:=by rw[h1]at ha;injection ha with z;injection z with z;injection z
 subst ea;have uc:∀{j:Nat}{x:Sl},(ρ.set i (iY z es))[j]?=some x->(i=j/\x=iY z es)∨(i≠j/\ρ[j]?=some x):=fun {j x} q=>by
  by_cases e:i=j
  ·subst e;rw[dE li]at q;cases q;exact .inl ⟨rfl,rfl⟩
  ·rw[de e]at q;exact .inr ⟨e,q⟩
 refine⟨⟨s.en.gg.trans e.gg,fun b o w=>?_,e.gh,e.tp,fun b o w n=>?_⟩,by simp[s.len],fun j d w=>?_,fun j x w wx=>?_,fun j k x x' c z1 w1 z2 w2 z3 z4=>?_,fun j fs c z1 z2=>?_,fun y m=>?_⟩
 ·have ne:b≠a0:=bf w h4;exact e.hh b o (by rw[rN ne];exact s.en.hh b o w)
 ·have ne:b≠a0:=bf w h4;exact e.nw b o (by rw[rN ne];exact s.en.hh b o w) (s.en.nw b o w n)
 ·rcases uc w with ⟨_,e1⟩|⟨_,w⟩
  ·have:=Gm (es:=es) hl;rw[<- e1]at this;cases this
  ·obtain⟨v,q1,q2⟩:=s.fz j d w;exact⟨v,q1,q2.mono e.gg⟩
 ·rcases uc w with ⟨e1,e2⟩|⟨e1,w⟩
  ·subst e1;subst e2;exact⟨a0,_,ha,h,g,h4,Lp hl r⟩
  ·obtain⟨b,o,q1,q2,q3,q4,q5⟩:=s.own j x w wx;have ne:b≠a0:=fun e2=>by subst e2;exact e1 (s.ap i j z x b q (uF hl) w wx ha q1)
   exact⟨b,o,q1,e.hh b o (by rw[rN ne];exact q2),e.nw b o (by rw[rN ne];exact q2) q3,q4,q5.mono e.gg⟩
 ·have old:∀{l:Nat}{y:Sl},(ρ.set i (iY z es))[l]?=some y->y.own=true->∃y',ρ[l]?=some y'/\y'.own=true:=fun {l y} w wy=>by
   rcases uc w with ⟨e1,e2⟩|⟨e1,w⟩
   ·subst e1;exact⟨z,q,uF hl⟩
   ·exact⟨y,w,wy⟩
  obtain⟨y1,p1,p2⟩:=old z1 w1;obtain⟨y2,p3,p4⟩:=old z2 w2;exact s.ap j k y1 y2 c p1 p2 p3 p4 z3 z4
 ·rcases uc z1 with ⟨e1,e2⟩|⟨e1,w⟩
  ·subst e1;obtain⟨gs,e3⟩:=Lq hl e2.symm;rw[e3]at q;exact s.tie i gs c q z2
  ·exact s.tie j fs c w z2
 ·have t:=s.co y m;exact e.hh _ _ (by rw[rN (fun z=>by subst z;rw[h2]at t;exact h5.tab _ (c9 t))];exact t)
def RX(K:ai)(a:ab)(G H:Hp)(Q:VK)(r:Rs (D×List D)):Prop:=match r with
 | .ok (d,es)=>∀v H' G' ws,Ext G (msk H a) G' H'->G' a=none->H' a=some (.lst ws)->bI K G' es ws->Rep K G' d v->Q v H'
 |_=>False
def spM(K:ai)(n:Nat)(g:List D->List D->Rs (D×List D)):Sp:=fun vs H Q E=>vs.length=n + 1/\∃a us G ws es ds,vs=.ref a::us/\Ex0 K G H/\G a=none/\H a=some (.lst ws)/\bI K G es ws/\bI K G ds us/\RX K a G H Q (g es ds)
def iZ(N:List Str)(es ds:List D):au:=(.op es::ds.map .fz)++gy (N.length - (ds.length + 1)) .no
def YJ:Ou->Rs (D×List D)
 | .rx d (.op es::_)=>.ok (d,es)
 | .nx (.op es::_)=>.ok (.non,es)
 |_=>.no
theorem ach{N:List Str}{es ds:List D}{ws us:List V}{a:ab}(e:Ex0 K G H)(g:G a=none)(h:H a=some (.lst ws))(r0:bI K G es ws)(r:bI K G ds us) :
  SR K ⟨G,msk H a,a⟩ (L2.start N (.ref a::us)) H (iZ N es ds) G:=by
 have z0:(iZ N es ds)[0]?=some (.op es):=rfl;have aiC:∀(i:Nat) (z:Sl),(iZ N es ds)[i]?=some z->z.own=true->i=0:=fun i z q w=>by
  cases i with
  |zero=>rfl
  |succ i =>
   have q':(ds.map Sl.fz++gy (N.length - (ds.length + 1)) .no)[i]?=some z:=q;by_cases hi:i < (ds.map Sl.fz).length
   ·rw[f9 hi,cw]at q';cases e1:ds[i]? with
    |none=>rw[e1]at q';cases q'
    |some d=>rw[e1]at q';cases q';cases w
   ·rw[gE (by lia),kc]at q';split at q' <;> cases q';cases w
 refine⟨⟨.refl _,fun b o w=>(UJ w).2,e.gh,e.tp,fun b o w n=>n⟩,?_,fun i d q=>?_,fun i z q w=>?_,fun i j z z' c q1 w1 q2 w2 _ _=>(aiC i z q1 w1).trans (aiC j z' q2 w2).symm,fun i fs c q1 q2=>?_,e.co⟩
 ·unfold iZ L2.start;simp[r.length]
 ·cases i with
  |zero=>cases (z0.symm.trans q)
  |succ i =>
   have q':(ds.map Sl.fz++gy (N.length - (ds.length + 1)) .no)[i]?=some (.fz d):=q;by_cases hi:i < (ds.map Sl.fz).length
   ·rw[f9 hi,cw]at q';cases e1:ds[i]? with
    |none=>rw[e1]at q';cases q'
    |some d' =>
     rw[e1]at q';cases q';obtain⟨v,h1,h2⟩:=r.get e1;refine⟨v,?_,h2⟩;show((us.map some)++gy (N.length - (us.length + 1)) none)[i]?=some (some v);rw[f9 (by rw[cf,<- r.length];simpa using hi),cw,h1];rfl
   ·rw[gE (by lia),kc]at q';split at q' <;> cases q'
 ·cases aiC i z q w;cases (z0.symm.trans q);exact⟨a,_,rfl,h,g,Gk,ws,rfl,r0⟩
 ·cases aiC i _ q1 rfl;have:some (some (V.ref a))=some (some (V.ref c)):=q2;injection this with this;injection this with this;injection this with this;exact this.symm
theorem aci{o:Ou}{Q:VK}{a:ab}(h:RX K a G H Q (YJ o)):cO K ⟨G,msk H a,a⟩ W G' o { nx:=fun _ H'=>Q .non H',rt:=Q }:=by
 cases o with
 |nx ρ' =>
  cases ρ' with
  |nil=>exact h.elim
  |cons z ρ' =>
   cases z with
   |op es =>
    intro σ' H2 G2 s q;obtain⟨b,vs,h1,h2,h3,h4,h5⟩:=s.lent (i:=0) (z:=.op es) (ds:=es) rfl rfl;have eb:b=a:=s.tie 0 es b rfl h1;subst eb;exact h .non H2 G2 vs s.en h3 h2 h5 (bT.mpr rfl)
   |_=>exact h.elim
 |rx d ρ' =>
  cases ρ' with
  |nil=>exact h.elim
  |cons z ρ' =>
   cases z with
   |op es =>
    intro v σ' H2 G2 s q r;obtain⟨b,vs,h1,h2,h3,h4,h5⟩:=s.lent (i:=0) (z:=.op es) (ds:=es) rfl rfl;have eb:b=a:=s.tie 0 es b rfl h1;subst eb;exact h v H2 G2 vs s.en h3 h2 h5 r
   |_=>exact h.elim
 |_=>exact h.elim
end
def Xv(P:aE)(w:az)(K:ai)(mg:Str->Option aa)(base:Heap)(x:Str)(k n:Nat)(v:List D->List D->Rs (D×List D)):Prop :=
 ∃f fd ps,Im P w K mg base (Ii P w K) k f fd ps (spM K n v)/\mg x=some (.ref f)/\gx K (.ref f)=true/\Binds K fd ps []
theorem Gn{P:aE}{w:az}{K:ai}{mg:Str->Option aa}{base:Heap}{x:Str}{st:bj}{f:ab}{fd:ck}{N ps:List Str}{k n:Nat}{g:au->Ou}(F:vW K x x st f fd)(hm:mg x=some (.ref f))(S:bQ N ps (aD st))
  (hbi:∀(kV doc pm:aa) (an:Option ab) (cdv ct:aa) (us:List aa),us.length=ps.length->bindArgs (eW x x (bJ st) (bF st) (aD st) .none kV doc pm an cdv ct) ⟨us,[]⟩=pure (ps.zip us))
  (hb:∀(cdv:aa) (A:aS) (outer:List Env) (s:ae) (H:Hp) (E:XK) (B:Bs),lK k (A.deeper (mw x (aD st) s.heap.objs.size f cdv)) ->
   yq (tU (Ii P w K) P w K mg base N x (aD st) f cdv A outer s H E) (fun c n _ H'=>E (Dv c n) none H') ->
   wk (tU (Ii P w K) P w K mg base N x (aD st) f cdv A outer s H E) B (fun c n _ H'=>E (Dv c n) none H') (bF st) g) (hn:ps.length=n + 1:=by rfl) :
  Xv P w K mg base x (k + 1) n (fun es ds=>YJ (g (iZ N es ds))):=by
 refine⟨f,fd,ps,?_,hm,F.kp,F.binds hbi⟩;obtain⟨oc,od,kV,doc,pm,an,cdv,ct,osl,rfl,lk,hcd⟩:=F.ex;refine aaj lk hcd S (fun vs H Q E h=>by rw[hn];exact h.1) fun A outer s H vs Q E hr h=>?_;obtain⟨_,a,us,G,ws,es,ds,rfl,e,g1,h1,r0,r,h⟩:=h;dsimp only at h;exact⟨_,hb cdv A outer s H E ⟨G,msk H a,a⟩ hr (ug qx rfl),iZ N es ds,G,ach e g1 h1 r0 r,aci h⟩
def spF(K:ai)(n:Nat)(g:List D->Rs (List D)):Sp:=fun vs H Q E=>vs.length=n/\∃G ds,Ex0 K G H/\bI K G ds vs/\(match g ds with
 | .ok es=>∀a ws H' G',Ext G H G' H'->G' a=none->H a=none->H' a=some (.lst ws)->bI K G' es ws->Q (.ref a) H'
 |_=>False)
def aoG:Ou->Rs (List D)
 | .rl es=>.ok es
 |_=>.no
def Okf(P:aE)(w:az)(K:ai)(mg:Str->Option aa)(base:Heap)(x:Str)(k n:Nat)(v:List D->Rs (List D)):Prop :=
 ∃f fd ps,Im P w K mg base (Ii P w K) k f fd ps (spF K n v)/\mg x=some (.ref f)/\gx K (.ref f)=true/\Binds K fd ps []
theorem alV{P:aE}{w:az}{K:ai}{mg:Str->Option aa}{base:Heap}{x:Str}{st:bj}{f:ab}{fd:ck}{N ps:List Str}{k:Nat}{g:au->Ou}(F:vW K x x st f fd)(hm:mg x=some (.ref f))(S:bQ N ps (aD st))
  (hbi:∀(kV doc pm:aa) (an:Option ab) (cdv ct:aa) (us:List aa),us.length=ps.length->bindArgs (eW x x (bJ st) (bF st) (aD st) .none kV doc pm an cdv ct) ⟨us,[]⟩=pure (ps.zip us))
  (hb:∀(cdv:aa) (A:aS) (outer:List Env) (s:ae) (H:Hp) (E:XK) (B:Bs),lK k (A.deeper (mw x (aD st) s.heap.objs.size f cdv)) ->
   yq (tU (Ii P w K) P w K mg base N x (aD st) f cdv A outer s H E) (fun c n _ H'=>E (Dv c n) none H') ->
   wk (tU (Ii P w K) P w K mg base N x (aD st) f cdv A outer s H E) B (fun c n _ H'=>E (Dv c n) none H') (bF st) g) :
  Okf P w K mg base x (k + 1) ps.length (fun ds=>aoG (g (bG N ds))):=by
 refine⟨f,fd,ps,?_,hm,F.kp,F.binds hbi⟩;obtain⟨oc,od,kV,doc,pm,an,cdv,ct,osl,rfl,lk,hcd⟩:=F.ex;refine aaj lk hcd S (fun vs H Q E h=>h.1) fun A outer s H vs Q E hr h=>?_;obtain⟨_,G,ds,e,r,h⟩:=h;dsimp only at h;refine⟨_,hb cdv A outer s H E ⟨G,H,0⟩ hr (ug qx rfl),bG N ds,G,Fb e r,?_⟩;cases e1:g (bG N ds) with
 |rl es=>rw[e1]at h;exact fun a ws H' G' x q g1 b1 h1 r1=>h a ws H' G' x g1 b1 h1 r1
 |_=>rw[e1]at h;exact h.elim
def Lr(fs:au->Rs (List D)):au->Ou:=fun ρ=>oR (fs ρ) ρ fun ds=>if ds.length<=1000 then .rl ds else .no
section
variable{X:Cx}{K:ai}{B:Bs}{W:Wi}{σ:St}{G H G' H':Hp}{ρ:au}
theorem aaW{es:List ag}{pos lp:Pos}{f:au->Rs (List D)}(h:SA X B W es f):SS X B W (.Return (some (.List es lp)) pos) (Lr f):=by
 refine PS.imp (Xx (XF h)) fun De σ H ⟨ρ,G,s,p⟩=>⟨ρ,G,s,?_⟩
 unfold Lr at p;cases e:f ρ with
 |ok ds =>
  rw[e]at p;have p':cO X.K B W G (if ds.length<=1000 then .rl ds else .no) De:=p;by_cases hl:ds.length<=1000
  ·rw[if_pos hl]at p';intro vs H' G' x r;refine⟨by rw[<- r.length];exact Et hl,fun c hc=>?_⟩;have s':=s.ext x;have y:=MJ (xs:=vs) s'.en.gh s'.en.tp hc;exact p' c vs _ G' (s'.en.trans y) x.gg (s'.en.gh.free hc) (s'.en.hh.free hc) bH r
  ·rw[if_neg hl]at p';exact p'.elim
 |ex c n=>rw[e]at p;exact fun H' G' x=>p σ H' G' (s.ext x) x.gg
 |no=>rw[e]at p;exact p
theorem Gp{x:Str}{p pos:Pos}{e:ag}{es:List ag}{t:TA}{f:ab}{fd:ck}{ps:List Str}{k:Nat}{sp:Sp}(F:Im X.prog X.w X.K X.mg X.base (Ii X.prog X.w X.K) k f fd ps sp)(hr:lK k X.A)(hg:Gl X x)(hm:X.mg x=some (.ref f))(hk:gx X.K (.ref f)=true)(hb:Binds X.K fd ps [])
  (ha:PA X (e::es) t) (hdb:(x == ("__debug__":Str))=false:=by decide) (he:ba (e::es) X.env=(false,a_ e X.env)::ba es X.env:=by rfl) (hpl:(di pos (ba es X.env)).any (·.1)=false:=by rfl) :
  PE X (.Call (.Name x p) (e::es) [] pos) (fun σ H Q=>t σ H fun vs H1=>sp vs H1 Q fun _ _ _=>False):=by
 intro pins s σ H Q I h;refine nX (aac I hg hm ?_ hdb);refine PySem.W.callWith_K (h₀:=X.base) I.ok.mod.kin hk (jc (ha pos pins s σ H _ I h) fun us s1 ⟨vs,H1,I1,r,q⟩=>⟨I1.Xq,?_⟩) he hpl;have hl:(us++[]).length=ps.length:=by rw[hW,<- r.length];exact F.len _ _ _ _ q
 have hbb:=hb s1 us I1.Xq hl;rw[hW]at hbb;refine p9 (me (F.run X.A X.stack s1 H1 ⟨us,[]⟩ us vs Q _ hr I1.env0 hbb r q) fun r s' hq=>?_);cases r with
 |error e=>obtain⟨ea,c,n,H',_,_,_,_,_,_,w⟩:=hq;exact w.elim
 |ok fl =>
  cases fl with
  |ret u=>exact I1.after hq
  |next=>exact f_ hq
  |brk=>exact f_ hq
  |cont=>exact f_ hq
def UL(i n:Nat)(g:List D->Rs (List D))(fs:au->Rs (List D)):au->Ou:=fun ρ=>oR (fs ρ) ρ fun ds=>if ds.length=n then (match g ds with|.ok es=>.nx (ρ.set i (.ow es))|_=>.no) else .no
theorem aiD(i:Nat){x y:Str}{p pos pos' cp:Pos}{e:ag}{es:List ag}{fs:au->Rs (List D)}{k n:Nat}{g:List D->Rs (List D)}(O:Okf X.prog X.w X.K X.mg X.base x k n g)(hr:lK k X.A)(hN:X.N.Nodup)(ha:SA X B W (e::es) fs)(hi:X.N[i]?=some y:=by rfl)(hx:Mu X.env.scope y:=by first|exact Or.inl rfl|exact Or.inr rfl)
  (hs:eL (.Call (.Name x p) (e::es) [] cp) (some (.Name y pos')) pos.line X.env=pure false:=by rfl) (hf:X.fn y=true∨X.env.scope.names.lookup y=some .local:=by first|exact .inl rfl|exact .inr rfl|assumption) (hg:Gl X x:=by rfl) (hdb:(x == ("__debug__":Str))=false:=by decide)
  (he:ba (e::es) X.env=(false,a_ e X.env)::ba es X.env:=by rfl) (hpl:(di cp (ba es X.env)).any (·.1)=false:=by rfl) :
  SS X B W (.Assign [.Name y pos'] (.Call (.Name x p) (e::es) [] cp) pos) (UL i n g fs):=by
 obtain⟨f,fd,ps,F,hm,hk,hb⟩:=O;refine PS.imp (zM hN hi hx (Gp F hr hg hm hk hb ha hdb he hpl) hs hf) fun De σ H ⟨ρ,G,s,p⟩=>⟨ρ,G,s,?_⟩
 unfold UL at p;cases e:fs ρ with
 |ok ds =>
  rw[e]at p;dsimp only[oR]at p;by_cases hl:ds.length=n
  ·rw[if_pos hl]at p;intro vs H1 G1 x r;refine⟨by rw[<- r.length];exact hl,G1,ds,(s.ext x).ex0,r,?_⟩;cases e1:g ds with
   |ok es' =>
    rw[e1]at p;dsimp only at p ⊢;intro a ws H' G' y g1 h1 h2 r2;have s1:=s.ext x
    let H2:Hp:=msk H' a
    have y2:Ext G1 H1 G' H2:=⟨y.gg,fun b o w=>by
      show msk H' a b=some o;rw[rN (bf w h1)];exact y.hh b o w,fun b o w=>by
      show msk H' a b=some o;rw[rN (bf w g1)];exact y.gh b o w,fun b xs w=>y.tp b xs (UJ w).2,y.nw⟩
    have s2:=(s1.ext y2).aee (i:=i) (p:=a) r2 Gk;have e2:upd H2 a (.lst ws)=H':=by
     funext b;by_cases w:b=a
     ·subst w;rw[bH];exact h2.symm
     ·rw[bh w];exact rN w
    rw[e2]at s2;exact p _ H' G' s2 (x.gg.trans y.gg)
   |ex c m=>rw[e1]at p;exact p.elim
   |no=>rw[e1]at p;exact p.elim
  ·rw[if_neg hl]at p;exact p.elim
 |ex c m=>rw[e]at p;exact fun H1 G1 x=>p σ H1 G1 (s.ext x) x.gg
 |no=>rw[e]at p;exact p
end
def lf{α:Type}(r:Rs α)(ρ:au):Rs (α×au):=match r with
 | .ok a=>.ok (a,ρ)
 |_=>.no
def bx{α β:Type}(r:Rs (α×au))(k:α->au->Rs (β×au)):Rs (β×au):=match r with
 | .ok (a,ρ)=>k a ρ
 |_=>.no
def oX{α:Type}(r:Rs (α×au))(k:α->au->Ou):Ou:=match r with
 | .ok (a,ρ)=>k a ρ
 |_=>.no
def mW(K:ai)(B:Bs)(σ:St)(G:Hp)(r:Rs (D×au))(Q:VK):Prop:=match r with
 | .ok (d,ρ')=>∀v H' G',SR K B σ H' ρ' G'->Same G G'->Rep K G' d v->Q v H'
 |_=>False
def kO(K:ai)(B:Bs)(σ:St)(G:Hp)(r:Rs (List D×au))(Q:List V->Hp->Prop):Prop:=match r with
 | .ok (ds,ρ')=>∀vs H' G',SR K B σ H' ρ' G'->Same G G'->bI K G' ds vs->Q vs H'
 |_=>False
def kW(K:ai)(B:Bs)(σ:St)(G:Hp)(r:Rs (Bool×au))(Q:Bool->Hp->Prop):Prop:=match r with
 | .ok (b,ρ')=>∀H' G',SR K B σ H' ρ' G'->Same G G'->Q b H'
 |_=>False
def tX(K:ai)(B:Bs)(f:au->Rs (D×au)):TE:=fun σ H Q=>∃ρ G,SR K B σ H ρ G/\mW K B σ G (f ρ) Q
def tAX(K:ai)(B:Bs)(f:au->Rs (List D×au)):TA:=fun σ H Q=>∃ρ G,SR K B σ H ρ G/\kO K B σ G (f ρ) Q
def tTX(K:ai)(B:Bs)(f:au->Rs (Bool×au)):TT:=fun σ H Q=>∃ρ G,SR K B σ H ρ G/\kW K B σ G (f ρ) Q
def SX(X:Cx)(B:Bs)(e:ag)(f:au->Rs (D×au)):Prop:=PE X e (tX X.K B f)
def SAX(X:Cx)(B:Bs)(es:List ag)(f:au->Rs (List D×au)):Prop:=PA X es (tAX X.K B f)
def STX(X:Cx)(B:Bs)(e:ag)(f:au->Rs (Bool×au)):Prop:=PT X e (tTX X.K B f)
def SWX(X:Cx)(B:Bs)(e:ag)(f:au->Rs (Bool×au)):Prop:=PW X e (tTX X.K B f)
def xP(f:au->Rs D):au->Rs (D×au):=fun ρ=>lf (f ρ) ρ
def rO(f:au->Rs (List D)):au->Rs (List D×au):=fun ρ=>lf (f ρ) ρ
def xPT(f:au->Rs Bool):au->Rs (Bool×au):=fun ρ=>lf (f ρ) ρ
def pq(g:D->D->Rs D)(fa fb:au->Rs (D×au)):au->Rs (D×au):=fun ρ=>bx (fa ρ) fun x ρ1=>bx (fb ρ1) fun y ρ2=>lf (g x y) ρ2
def tQ:au->Rs (List D×au):=fun ρ=>.ok ([],ρ)
def dM(f:au->Rs (D×au))(fs:au->Rs (List D×au)):au->Rs (List D×au):=fun ρ=>bx (f ρ) fun x ρ1=>bx (fs ρ1) fun xs ρ2=>.ok (x::xs,ρ2)
def xA(fs:au->Rs (List D×au))(g:List D->Rs D):au->Rs (D×au):=fun ρ=>bx (fs ρ) fun ds ρ1=>lf (g ds) ρ1
def xT(f:au->Rs (D×au)):au->Rs (Bool×au):=fun ρ=>bx (f ρ) fun d ρ1=>lf (toB d) ρ1
def acj(a b:au->Rs (Bool×au)):au->Rs (Bool×au):=fun ρ=>bx (a ρ) fun x ρ1=>if x=true then b ρ1 else .ok (false,ρ1)
def xM(i n:Nat)(g:List D->List D->Rs (D×List D))(fs:au->Rs (List D×au)):au->Rs (D×au):=fun ρ=>match ρ[i]? with
 |some z0=>(match lent z0 with
  |some _=>bx (fs ρ) fun ds ρ1=>if ds.length=n then (match ρ1[i]? with
   |some z=>(match lent z with
    |some es=>(match g es ds with
     | .ok (d,es')=>.ok (d,ρ1.set i (iY z es'))
     |_=>.no)
    |none=>.no)
   |none=>.no) else .no
  |none=>.no)
 |none=>.no
section
variable{X:Cx}{K:ai}{B:Bs}{W:Wi}{σ:St}{G H G' H':Hp}{ρ:au}
theorem mW.same{r:Rs (D×au)}{Q:VK}(h:mW K B σ G r Q)(e:Same G G'):mW K B σ G' r Q:=by
 cases r with
 |ok p=>obtain⟨d,ρ'⟩:=p;exact fun v H' G'' s q=>h v H' G'' s (e.trans q)
 |_=>exact h
theorem kO.same{r:Rs (List D×au)}{Q:List V->Hp->Prop}(h:kO K B σ G r Q)(e:Same G G'):kO K B σ G' r Q:=by
 cases r with
 |ok p=>obtain⟨d,ρ'⟩:=p;exact fun v H' G'' s q=>h v H' G'' s (e.trans q)
 |_=>exact h
theorem kW.same{r:Rs (Bool×au)}{Q:Bool->Hp->Prop}(h:kW K B σ G r Q)(e:Same G G'):kW K B σ G' r Q:=by
 cases r with
 |ok p=>obtain⟨d,ρ'⟩:=p;exact fun H' G'' s q=>h H' G'' s (e.trans q)
 |_=>exact h
theorem DQ{r:Rs D}{Q:VK}(s:SR K B σ H ρ G)(p:mW K B σ G (lf r ρ) Q):Post K W σ G H r Q:=by
 cases r with
 |ok d=>exact fun v H' G' e r=>p v H' G' (s.ext e) e.gg r
 |ex c n=>exact p.elim
 |no=>exact p.elim
theorem afy{r:Rs (D×au)}{k:D->au->Rs (D×au)}{Q:VK}{Q':VK}(p:mW K B σ G (bx r k) Q)(h:∀d ρ1 v H1 G1,SR K B σ H1 ρ1 G1->Same G G1->Rep K G1 d v->mW K B σ G1 (k d ρ1) Q->Q' v H1):mW K B σ G r Q':=by
 cases r with
 |ok x=>obtain⟨d,ρ1⟩:=x;exact fun v H1 G1 s q r=>h d ρ1 v H1 G1 s q r (mW.same (show mW K B σ G (k d ρ1) Q from p) q)
 |ex c n=>exact p.elim
 |no=>exact p.elim
theorem alW{r:Rs (D×au)}{k:D->au->Rs (Bool×au)}{Q:Bool->Hp->Prop}{Q':VK}(p:kW K B σ G (bx r k) Q)(h:∀d ρ1 v H1 G1,SR K B σ H1 ρ1 G1->Same G G1->Rep K G1 d v->kW K B σ G1 (k d ρ1) Q->Q' v H1):mW K B σ G r Q':=by
 cases r with
 |ok x=>obtain⟨d,ρ1⟩:=x;exact fun v H1 G1 s q r=>h d ρ1 v H1 G1 s q r (kW.same (show kW K B σ G (k d ρ1) Q from p) q)
 |ex c n=>exact p.elim
 |no=>exact p.elim
theorem YK{r:Rs (List D×au)}{k:List D->au->Rs (D×au)}{Q:VK}{Q':List V->Hp->Prop}(p:mW K B σ G (bx r k) Q)(h:∀d ρ1 v H1 G1,SR K B σ H1 ρ1 G1->Same G G1->bI K G1 d v->mW K B σ G1 (k d ρ1) Q->Q' v H1):kO K B σ G r Q':=by
 cases r with
 |ok x=>obtain⟨d,ρ1⟩:=x;exact fun v H1 G1 s q r=>h d ρ1 v H1 G1 s q r (mW.same (show mW K B σ G (k d ρ1) Q from p) q)
 |ex c n=>exact p.elim
 |no=>exact p.elim
theorem aiE{r:Rs (List D×au)}{k:List D->au->Rs (List D×au)}{Q:List V->Hp->Prop}{Q':List V->Hp->Prop}(p:kO K B σ G (bx r k) Q)(h:∀d ρ1 v H1 G1,SR K B σ H1 ρ1 G1->Same G G1->bI K G1 d v->kO K B σ G1 (k d ρ1) Q->Q' v H1):kO K B σ G r Q':=by
 cases r with
 |ok x=>obtain⟨d,ρ1⟩:=x;exact fun v H1 G1 s q r=>h d ρ1 v H1 G1 s q r (kO.same (show kO K B σ G (k d ρ1) Q from p) q)
 |ex c n=>exact p.elim
 |no=>exact p.elim
theorem aiF{r:Rs (D×au)}{k:D->au->Rs (List D×au)}{Q:List V->Hp->Prop}{Q':VK}(p:kO K B σ G (bx r k) Q)(h:∀d ρ1 v H1 G1,SR K B σ H1 ρ1 G1->Same G G1->Rep K G1 d v->kO K B σ G1 (k d ρ1) Q->Q' v H1):mW K B σ G r Q':=by
 cases r with
 |ok x=>obtain⟨d,ρ1⟩:=x;exact fun v H1 G1 s q r=>h d ρ1 v H1 G1 s q r (kO.same (show kO K B σ G (k d ρ1) Q from p) q)
 |ex c n=>exact p.elim
 |no=>exact p.elim
theorem aiG{r:Rs (Bool×au)}{k:Bool->au->Rs (Bool×au)}{Q:Bool->Hp->Prop}{Q':Bool->Hp->Prop}(p:kW K B σ G (bx r k) Q)(h:∀d ρ1 H1 G1,SR K B σ H1 ρ1 G1->Same G G1->kW K B σ G1 (k d ρ1) Q->Q' d H1):kW K B σ G r Q':=by
 cases r with
 |ok x=>obtain⟨d,ρ1⟩:=x;exact fun H1 G1 s q=>h d ρ1 H1 G1 s q (kW.same (show kW K B σ G (k d ρ1) Q from p) q)
 |ex c n=>exact p.elim
 |no=>exact p.elim
theorem je{e:ag}{f:au->Rs D}(h:SE X B W e f):SX X B e (xP f):=PE.imp h fun σ H Q ⟨ρ,G,s,p⟩=>⟨ρ,G,s,DQ s p⟩
theorem aoI{e:ag}{f:au->Rs Bool}(h:ST X B W e f):STX X B e (xPT f):=PT.imp h fun σ H Q ⟨ρ,G,s,p⟩=>by
 refine⟨ρ,G,s,?_⟩;unfold xPT at p;cases e1:f ρ with
 |ok b=>rw[e1]at p;exact fun H' G' y=>p H' G' (s.ext y) y.gg
 |ex c n=>rw[e1]at p;exact p.elim
 |no=>rw[e1]at p;exact p.elim
theorem fD{es:List ag}{f:au->Rs (List D)}(h:SA X B W es f):SAX X B es (rO f):=PA.imp h fun σ H Q ⟨ρ,G,s,p⟩=>by
 refine⟨ρ,G,s,?_⟩;unfold rO at p;cases e1:f ρ with
 |ok b=>rw[e1]at p;exact fun vs H' G' y r=>p vs H' G' (s.ext y) y.gg r
 |ex c n=>rw[e1]at p;exact p.elim
 |no=>rw[e1]at p;exact p.elim
theorem DR{r:R2}{g:D->D->Rs D}{fa fb:au->Rs (D×au)}{Q:VK}(ho:Sy K r g)(h:tX K B (pq g fa fb) σ H Q):tOp r (tX K B fa) (tX K B fb) σ H Q:=by obtain⟨ρ,G,s,p⟩:=h;refine⟨ρ,G,s,afy (k:=fun x ρ1=>bx (fb ρ1) fun y ρ2=>lf (g x y) ρ2) p fun d ρ1 v H1 G1 s1 q1 r1 p1=>⟨ρ1,G1,s1,afy (k:=fun y ρ2=>lf (g d y) ρ2) p1 fun d' ρ2 u H2 G2 s2 q2 r2 p2=>?_⟩⟩;exact ho B WF σ ρ2 G2 H2 d d' v u Q s2 (r1.mono q2) r2 (DQ s2 p2)
theorem afz{a b:ag}{op:Operator}{pos:Pos}{r:R2}{g:D->D->Rs D}{fa fb:au->Rs (D×au)}(ho:wg X (hV op) r)(hg:Sy X.K r g)(ha:SX X B a fa)(hb:SX X B b fb):SX X B (.BinOp a op b pos) (pq g fa fb) :=
 PE.imp (ajK ho ha hb) fun _ _ _ h=>DR hg h
theorem alX{a b:ag}{op:jb}{pos:Pos}{r:R2}{g:D->D->Rs D}{fa fb:au->Rs (D×au)}(ho:wg X (fv op) r)(hg:Sy X.K r g)(ha:SX X B a fa)(hb:SX X B b fb)(hm:iL op b=false):SX X B (.Compare a [op] [b] pos) (pq g fa fb) :=
 PE.imp (aah ho ha hb hm) fun _ _ _ h=>DR hg h
theorem alY{f:au->Rs (D×au)}{Q:Bool->Hp->Prop}(h:tTX K B (xT f) σ H Q):tX K B f σ H fun x H1=>∃c,x=.bl c/\Q c H1:=by
 obtain⟨ρ,G,s,p⟩:=h;refine⟨ρ,G,s,alW (k:=fun d ρ1=>lf (toB d) ρ1) p fun d ρ1 v H1 G1 s1 q1 r1 p1=>?_⟩;cases d with
 |bl b=>exact⟨b,bL.mp r1,p1 H1 G1 s1 (.refl _)⟩
 |_=>exact p1.elim
theorem aaX{a b:ag}{op:jb}{pos:Pos}{r:R2}{g:D->D->Rs D}{fa fb:au->Rs (D×au)}(ho:wg X (fv op) r)(hg:Sy X.K r g)(ha:SX X B a fa)(hb:SX X B b fb)(hm:iL op b=false):STX X B (.Compare a [op] [b] pos) (xT (pq g fa fb)):=by refine PT.imp (Mw ho ha hb hm) fun σ H Q h=>?_;exact DR hg (alY h)
theorem afA{a:ag}{pos:Pos}{fa:au->Rs (Bool×au)}(ha:STX X B a fa):SWX X B (.BoolOp .And [a] pos) fa:=ahr ha
theorem aiH{a b:ag}{rest:List ag}{pos:Pos}{fa fb:au->Rs (Bool×au)}(ha:STX X B a fa)(hb:SWX X B (.BoolOp .And (b::rest) pos) fb):SWX X B (.BoolOp .And (a::b::rest) pos) (acj fa fb):=by
 refine PW.imp (akB ha hb) fun σ H Q ⟨ρ,G,s,p⟩=>⟨ρ,G,s,aiG (k:=fun x ρ1=>if x=true then fb ρ1 else .ok (false,ρ1)) p fun x ρ1 H1 G1 s1 q1 p1=>?_⟩
 cases x with
 |true=>rw[if_pos rfl];exact⟨ρ1,G1,s1,p1⟩
 |false=>rw[if_neg (by simp)];exact p1 H1 G1 s1 (.refl _)
theorem aoJ{e:ag}{f:au->Rs (Bool×au)}(h:SWX X B e f):STX X B e f:=PW.pt h
theorem kY:SAX X B [] tQ:=PA.imp jr fun σ H Q ⟨ρ,G,s,p⟩=>p [] H G s (.refl _) (bD.mpr rfl)
theorem cL{e:ag}{es:List ag}{fe:au->Rs (D×au)}{fs:au->Rs (List D×au)}(ha:SX X B e fe)(hr:SAX X B es fs)(hs:ba (e::es) X.env=(false,a_ e X.env)::ba es X.env:=by rfl):SAX X B (e::es) (dM fe fs):=by
 refine PA.imp (dY ha hr hs) fun σ H Q ⟨ρ,G,s,p⟩=>⟨ρ,G,s,aiF (k:=fun x ρ1=>bx (fs ρ1) fun xs ρ2=>.ok (x::xs,ρ2)) p fun d ρ1 v H1 G1 s1 q1 r1 p1=>⟨ρ1,G1,s1,aiE (k:=fun xs ρ2=>.ok (d::xs,ρ2)) p1 fun ds ρ2 vs H2 G2 s2 q2 r2 p2=>?_⟩⟩
 exact p2 (v::vs) H2 G2 s2 (.refl _) (aQ.mpr ⟨v,vs,rfl,r1.mono q2,r2⟩)
theorem afB{t:au->Rs (List D×au)}{g:List D->Rs D}{r:List V->Hp->VK->Prop}{Q:VK}(hg:sZ K r g)(h:tX K B (xA t g) σ H Q):tAX K B t σ H fun vs H1=>r vs H1 Q:=by obtain⟨ρ,G,s,p⟩:=h;exact⟨ρ,G,s,YK (k:=fun ds ρ1=>lf (g ds) ρ1) p fun ds ρ1 vs H1 G1 s1 q1 r1 p1=>hg B WF σ ρ1 G1 H1 ds vs Q s1 r1 (DQ s1 p1)⟩
theorem alZ:sZ K (fun xs H1 Q=>xs.length<=sizeLine/\∀p,H1 p=none->Q (.ref p) (upd H1 p (.tup xs))) dJ:=by
 intro B W σ ρ G H ds vs Q s r p;unfold dJ at p;by_cases hl:ds.length<=1000
 ·rw[if_pos hl]at p;refine⟨by rw[<- r.length];exact Et hl,fun a ha=>?_⟩;have x:=xX (xs:=vs) s.en.gh s.en.tp ha;exact p _ _ _ x (bA.mpr ⟨a,vs,rfl,.of bH,r.mono x.gg⟩)
 ·rw[if_neg hl]at p;exact p.elim
theorem wY{es:List ag}{x1}{pos:Pos}{f:au->Rs (List D×au)}(h:SAX X B es f):SX X B (.Tuple es x1 pos) (xA f dJ):=PE.imp (adH h) fun σ H Q q=>afB alZ q
theorem afC{a b:ag}{pos:Pos}{fa fb:au->Rs (D×au)}(ha:SX X B a fa)(hb:SX X B b fb)(hs:xV b:=by intro _ _;rfl):SX X B (.Subscript a b pos) (pq fH fa fb) :=
 PE.imp (aan XR ha hb hs) fun _ _ _ h=>DR adW h
section
variable{x:Str}{p pos:Pos}{e:ag}{es:List ag}{id T:String}{r:List V->Hp->VK->Prop}{g:List D->Rs D}{fs:au->Rs (List D×au)}
theorem acn(hc:iR X (.type T) r) (hd:sZ X.K r g) (hg:Gl X x) (hm:X.mg x=none) (hv:hG x=some (.type T)) (ha:SAX X B (e::es) fs) (hn:x≠"__name__":=by decide) (hdb:(x == ("__debug__":Str))=false:=by decide)
  (he:ba (e::es) X.env=(false,a_ e X.env)::ba es X.env:=by rfl) (hpl:(di pos (ba es X.env)).any (·.1)=false:=by rfl):SX X B (.Call (.Name x p) (e::es) [] pos) (xA fs g) :=
 PE.imp (vm hc hg hm hv ha hn hdb he hpl) fun _ _ _ h=>afB hd h
theorem aiI{k n:Nat}(O:kE X.prog X.w X.K X.mg X.base x k n g) (hr:lK k X.A) (ha:SAX X B (e::es) fs) (hg:Gl X x:=by rfl) (hdb:(x == ("__debug__":Str))=false:=by decide)
  (he:ba (e::es) X.env=(false,a_ e X.env)::ba es X.env:=by rfl) (hpl:(di pos (ba es X.env)).any (·.1)=false:=by rfl):SX X B (.Call (.Name x p) (e::es) [] pos) (xA fs (bC n g)):=by
 obtain⟨f,fd,ps,F,hm,hk,hb⟩:=O;refine PE.imp (Gp F hr hg hm hk hb ha hdb he hpl) fun σ H Q ⟨ρ,G,s,p⟩=>⟨ρ,G,s,YK (k:=fun ds ρ1=>lf (bC n g ds) ρ1) p fun ds ρ1 vs H1 G1 s1 q1 r1 p1=>?_⟩
 unfold bC at p1;by_cases hl:ds.length=n
 ·rw[if_pos hl]at p1;refine⟨by rw[<- r1.length];exact hl,G1,ds,s1.ex0,r1,?_⟩;cases e1:g ds with
  |ok d=>rw[e1]at p1;exact fun v H' G' y r=>p1 v H' G' (s1.ext y) y.gg r
  |ex c m=>rw[e1]at p1;exact p1.elim
  |no=>rw[e1]at p1;exact p1.elim
 ·rw[if_neg hl]at p1;exact p1.elim
end
theorem bO(i:Nat) {x y:Str}{p py pos:Pos}{es:List ag}{fs:au->Rs (List D×au)}{k n:Nat}{g:List D->List D->Rs (D×List D)}(O:Xv X.prog X.w X.K X.mg X.base x k n g) (hr:lK k X.A) (ha:SAX X B es fs) (hN:X.N[i]?=some y:=by rfl) (hv:RL X.env.scope y:=by first|exact Or.inl rfl|exact Or.inr (Or.inl rfl)|exact Or.inr (Or.inr rfl)) (hd:(y == ("__debug__":Str))=false:=by decide)
  (hcd:(y == ("__classdict__":Str))=false:=by decide) (hg:Gl X x:=by rfl) (hdb:(x == ("__debug__":Str))=false:=by decide)
  (he:ba (.Name y py::es) X.env=(false,a_ (.Name y py) X.env)::ba es X.env:=by rfl) (hpl:(di pos (ba es X.env)).any (·.1)=false:=by rfl):SX X B (.Call (.Name x p) (.Name y py::es) [] pos) (xM i n g fs):=by
 obtain⟨f,fd,ps,F,hm,hk,hb⟩:=O;refine PE.imp (Gp F hr hg hm hk hb (dY (jq (pos:=py) hN hv hd hcd) ha he) hdb he hpl) fun σ H Q ⟨ρ,G,s,p⟩=>?_;unfold xM at p;cases q:ρ[i]? with
 |none=>rw[q]at p;exact p.elim
 |some z0 =>
  rw[q]at p;dsimp only at p;cases q1:lent z0 with
  |none=>rw[q1]at p;exact p.elim
  |some es0 =>
   rw[q1]at p;dsimp only at p;obtain⟨a,vs0,h1,h2,h3,h4,h5⟩:=s.lent q q1;refine⟨_,h1,ρ,G,s,YK (k:=fun ds ρ1=>if ds.length=n then (match ρ1[i]? with
    |some z=>(match lent z with
     |some es=>(match g es ds with
      | .ok (d,es')=>.ok (d,ρ1.set i (iY z es'))
      |_=>.no)
     |none=>.no)
    |none=>.no) else .no) p fun ds ρ1 us H1 G1 s1 e1 r1 p1=>?_⟩
   by_cases hl:ds.length=n
   ·rw[if_pos hl]at p1;cases q2:ρ1[i]? with
    |none=>rw[q2]at p1;exact p1.elim
    |some z =>
     rw[q2]at p1;dsimp only at p1;cases q3:lent z with
     |none=>rw[q3]at p1;exact p1.elim
     |some es1 =>
      rw[q3]at p1;dsimp only at p1;obtain⟨b,ws,k1,k2,k3,k4,k5⟩:=s1.lent q2 q3;have eb:b=a:=by rw[h1]at k1;injection k1 with z;injection z with z;injection z with z;exact z.symm
      subst eb;refine⟨by simp[<- r1.length,hl],b,us,G1,ws,es1,ds,rfl,s1.ex0,k3,k2,k5,r1,?_⟩;cases q4:g es1 ds with
      |no=>rw[q4]at p1;exact p1.elim
      |ex c m=>rw[q4]at p1;exact p1.elim
      |ok dz =>
       obtain⟨d,es2⟩:=dz;rw[q4]at p1;exact fun v H' G' ws' y g1 h' r2 r3=>p1 v H' G' (s1.back q2 q3 k1 y g1 h' r2) y.gg r3
   ·rw[if_neg hl]at p1;exact p1.elim
variable{a b:ag}{pos:Pos}{fa fb:au->Rs (D×au)}
theorem wZ(ha:SX X B a fa)(hb:SX X B b fb):SX X B (.BinOp a .Add b pos) (pq dh fa fb):=afz aat Te ha hb
theorem qd(ha:SX X B a fa)(hb:SX X B b fb):SX X B (.BinOp a .Sub b pos) (pq iT fa fb):=afz adF (Eo fun _ _ _=>aM.mpr rfl) ha hb
theorem ama(ha:SX X B a fa)(hb:SX X B b fb):SX X B (.BinOp a .Mult b pos) (pq nG fa fb):=afz adG (SJ fun _ _ _=>aM.mpr rfl) ha hb
def afD(j:Nat)(f:au->Rs D):au->Rs D:=fun ρ=>match ρ[j]? with
 |some z=>(match lent z with|some ds=>(f ρ).bind fun k=>fH (.lst ds) k|none=>.no)
 |none=>.no
theorem amb(j:Nat) {x:Str}{b:ag}{p1 pos:Pos}{fb:au->Rs D}(hb:SE X B W b fb) (hN:X.N[j]?=some x:=by rfl) (hv:RL X.env.scope x:=by first|exact Or.inl rfl|exact Or.inr (Or.inl rfl)|exact Or.inr (Or.inr rfl)) (hd:(x == ("__debug__":Str))=false:=by decide)
  (hcd:(x == ("__classdict__":Str))=false:=by decide) (hs:xV b:=by intro _ _;rfl):SE X B W (.Subscript (.Name x p1) b pos) (afD j fb):=by
 refine PE.imp (aan XR (jq (pos:=p1) hN hv hd hcd) hb hs) fun σ H Q ⟨ρ,G,s,p⟩=>?_;unfold afD at p;cases q:ρ[j]? with
 |none=>rw[q]at p;exact p.elim
 |some z =>
  rw[q]at p;dsimp only at p;cases q1:lent z with
  |none=>rw[q1]at p;exact p.elim
  |some ds =>
   rw[q1]at p;obtain⟨a,vs,h1,h2,h3,h4,h5⟩:=s.lent q q1;refine⟨_,h1,ρ,G,s,?_⟩;refine Post.mono (Post.bind (k:=fun k=>fH (.lst ds) k) p) fun v H1 ⟨G1,d,y,r,p1⟩=>?_;cases d with
   |int i =>
    simp only[fH]at p1;cases e:Du ds i with
    |none=>rw[e]at p1;exact p1.elim
    |some d =>
     rw[e]at p1;obtain⟨w,e2,rw'⟩:=Eu h5 e;exact .inl ⟨a,vs,i,w,rfl,aM.mp r,.of (y.hh _ _ h2),e2,p1 _ H1 G1 (.refl y.gh y.tp) (rw'.mono y.gg)⟩
   |_=>exact p1.elim
end
end Vl
namespace Vl
open PySem PySem.Spec PySem.Calls PySem.W L2 So
def xg(f:au->Rs (D×au)):au->Ou:=fun ρ=>oX (f ρ) fun d ρ1=>.rx d ρ1
def xq(i:Nat)(f:au->Rs (D×au)):au->Ou:=fun ρ=>oX (f ρ) fun d ρ1=>.nx (ρ1.set i (.fz d))
def xIf(c:au->Rs (Bool×au))(a b:au->Ou):au->Ou:=fun ρ=>oX (c ρ) fun x ρ1=>if x=true then a ρ1 else b ρ1
def Ls(h:Tg)(gb:au->Ou)(f:au->Rs (D×au)):au->Ou:=fun ρ=>oX (f ρ) fun d ρ1=>match d with|.int n=>if-(2 ^ 62)<=n/\n < 2 ^ 62 then cP h gb ((bE n.toNat).map fun(i:Nat)=>.int i) ρ1 else .no|_=>.no
def Gq(j:Nat)(fe:au->Rs D)(fk:au->Rs (D×au)):au->Ou:=fun ρ=>oR (fe ρ) ρ fun v=>match ρ[j]? with
 |some (.od _)=>oX (fk ρ) fun k ρ1=>(match mY k,ρ1[j]? with
  |some ks,some (.od kvs)=>if kvs.length<=1000000 then .nx (ρ1.set j (.od (iw kvs ks v))) else .no
  |_,_=>.no)
 |_=>.no
def Lw(i:Nat)(f:au->Rs (D×au)):au->Ou:=fun ρ=>match ρ[i]? with
 |some (.ow _)=>oX (f ρ) fun k ρ1=>(match k,ρ1[i]? with
  | .int k,some (.ow ds)=>if 0<=k/\k < ds.length/\ds.length<=1000000 then .nx (ρ1.set i (.ow (ds.eraseIdx k.toNat))) else .no
  |_,_=>.no)
 |_=>.no
def UW(i j:Nat)(f fk:au->Rs D):au->Ou:=fun ρ=>oR (f ρ) ρ fun d=>match d with
 | .tup [q,r]=>(match ρ[i]? with
  |some z=>(match lent z with
   |some ds=>oR (fk ρ) ρ fun k=>(match k with
    | .int k=>(match Kv ds.length k with|some m=>.nx ((ρ.set i (iY z (ds.set m q))).set j (.fz r))|none=>.no)
    |_=>.no)
   |none=>.no)
  |none=>.no)
 |_=>.no
def Gr(i j:Nat):au->Ou:=fun ρ=>match ρ[j]? with
 |some (.od kvs)=>if kvs.length < 1000/\∀p∈kvs,p.1≠[] then .nx (ρ.set i (.ow ((bZ (kvs.map (·.1))).map aj))) else .no
 |_=>.no
section
variable{X:Cx}{K:ai}{B:Bs}{W:Wi}{σ:St}{G H G' H':Hp}{ρ:au}{De:Ends}
theorem uG{r:Rs (D×au)}{k:D->au->Ou}{Q:VK}(p:cO K B W G (oX r k) De)(h:∀d ρ1 v H1 G1,SR K B σ H1 ρ1 G1->Same G G1->Rep K G1 d v->cO K B W G1 (k d ρ1) De->Q v H1):mW K B σ G r Q:=by
 cases r with
 |ok x=>obtain⟨d,ρ1⟩:=x;exact fun v H1 G1 s q r=>h d ρ1 v H1 G1 s q r (cO.same (show cO K B W G (k d ρ1) De from p) q)
 |ex c n=>exact p.elim
 |no=>exact p.elim
theorem aco{r:Rs (Bool×au)}{k:Bool->au->Ou}{Q:Bool->Hp->Prop}(p:cO K B W G (oX r k) De)(h:∀d ρ1 H1 G1,SR K B σ H1 ρ1 G1->Same G G1->cO K B W G1 (k d ρ1) De->Q d H1):kW K B σ G r Q:=by
 cases r with
 |ok x=>obtain⟨d,ρ1⟩:=x;exact fun H1 G1 s q=>h d ρ1 H1 G1 s q (cO.same (show cO K B W G (k d ρ1) De from p) q)
 |ex c n=>exact p.elim
 |no=>exact p.elim
theorem uH{e:ag}{pos}{f:au->Rs (D×au)}(h:SX X B e f):SS X B W (.Return (some e) pos) (xg f) :=
 PS.imp (Xx h) fun De σ H ⟨ρ,G,s,p⟩=>⟨ρ,G,s,uG (k:=fun d ρ1=>.rx d ρ1) p fun d ρ1 v H1 G1 s1 q1 r1 p1=>p1 v σ H1 G1 s1 (.refl _) r1⟩
theorem rP(i:Nat){x:Str}{e:ag}{pos pos':Pos}{f:au->Rs (D×au)}(hN:X.N.Nodup)(he:SX X B e f)(hi:X.N[i]?=some x:=by rfl)(hx:Mu X.env.scope x:=by first|exact Or.inl rfl|exact Or.inr rfl)(hs:eL e (some (.Name x pos')) pos.line X.env=pure false:=by rfl)(hf:X.fn x=true∨X.env.scope.names.lookup x=some .local:=by first|exact .inl rfl|exact .inr rfl|assumption) :
  SS X B W (.Assign [.Name x pos'] e pos) (xq i f) :=
 PS.imp (zM hN hi hx he hs hf) fun De σ H ⟨ρ,G,s,p⟩=>⟨ρ,G,s,uG (k:=fun d ρ1=>.nx (ρ1.set i (.fz d))) p fun d ρ1 v H1 G1 s1 q1 r1 p1=>p1 _ H1 G1 (s1.set r1) (.refl _)⟩
theorem afE{c:ag}{a b:List bj}{pos:Pos}{fc:au->Rs (Bool×au)}{ga gb:au->Ou}(hc:STX X B c fc)(ha:wk X B W a ga)(hb:wk X B W b gb):SS X B W (.If c a b pos) (xIf fc ga gb):=by
 refine PS.imp (ajI hc ha hb) fun De σ H ⟨ρ,G,s,p⟩=>⟨ρ,G,s,aco (k:=fun x ρ1=>if x=true then ga ρ1 else gb ρ1) p fun x ρ1 H1 G1 s1 q1 p1=>?_⟩
 cases x with
 |true=>rw[if_pos rfl]at p1 ⊢;exact⟨ρ1,G1,s1,p1⟩
 |false=>rw[if_neg (by simp)]at p1 ⊢;exact⟨ρ1,G1,s1,p1⟩
theorem Om{tg e:ag}{body:List bj}{pos p1 p2:Pos}{f:au->Rs (D×au)}{h:Tg}{gb:au->Ou}(hp:kL (ar X.prog X.w) X.A X.env X.xe) (hc:X.calm=true) (hm:X.mg "range"=none) (hi:SX X B e f) (hg:SG X B tg h) (hb:wk X B W body gb)
  (hgl:Gl X "range":=by rfl) (hst:ba [e] X.env=[(false,a_ e X.env)]:=by rfl)
  (hs:∀x,f6 (.Call (.Name "range" p1) [e] [] p2) X.env x=pure x:=by intro _;rfl):SS X B W (.For tg (.Call (.Name "range" p1) [e] [] p2) body [] pos) (Ls h gb f):=by
 refine PS.imp (zO hp hc (Ko hgl hm (dY hi jr (by rw[hst];rfl)) hst) hg hb hs) fun De σ H ⟨ρ,G,s,p⟩=>?_;refine⟨ρ,G,s,uG (k:=fun d ρ1=>match d with|.int n=>if-(2 ^ 62)<=n/\n < 2 ^ 62 then cP h gb ((bE n.toNat).map fun(i:Nat)=>.int i) ρ1 else .no|_=>.no) p fun d ρ1 v H1 G1 s1 q1 r1 p1=>?_⟩;cases d with
 |int n =>
  dsimp only at p1;by_cases c:-(2 ^ 62)<=n/\n < 2 ^ 62
  ·rw[if_pos c]at p1;refine⟨n,by rw[aM.mp r1],c.1,c.2,wO s1 ?_⟩;simpa using p1
  ·rw[if_neg c]at p1;exact p1.elim
 |_=>exact p1.elim
theorem aaY(j:Nat) {e b:ag}{x:Str}{p1 tp pos:Pos}{fe:au->Rs D}{fk:au->Rs (D×au)}(hu:X.A.units + 8 < bu) (he:SE X B W e fe) (hb:SX X B b fk) (hN:X.N[j]?=some x:=by rfl) (hv:RL X.env.scope x:=by first|exact Or.inl rfl|exact Or.inr (Or.inl rfl)|exact Or.inr (Or.inr rfl)) (hd:(x == ("__debug__":Str))=false:=by decide)
  (hcd:(x == ("__classdict__":Str))=false:=by decide)
  (hs:kH [.Subscript (.Name x p1) b tp] e pos.line X.env=pure false:=by rfl) (hw:kK [.Subscript (.Name x p1) b tp] e X.env=pure none:=by rfl)
  (h1:(d4 [.Subscript (.Name x p1) b tp] X.env).map (·.2)=[assign (.Subscript (.Name x p1) b tp) X.env]:=by rfl)
  (ha:∀v,assign (.Subscript (.Name x p1) b tp) X.env v=(do
   let ov <- d3 [v] (a_ (.Name x p1) X.env)
   let iv <- d3 [v,ov] (a_ b X.env)
   kG tp
   d3 [v,ov,iv] (setItem ov iv v)
   release [v,ov,iv] []):=by intro _;rfl) :
  SS X B W (.Assign [.Subscript (.Name x p1) b tp] e pos) (Gq j fe fk):=by
 refine PS.imp (Mv he (Xy (jq (pos:=p1) hN hv hd hcd) hb (afo (Gh hu)) ha) hs hw h1) fun De σ H ⟨ρ,G,s,p⟩=>?_;unfold Gq at p;refine⟨ρ,G,s,jg s p fun d v H' G' _ y r p'=>?_⟩;cases e2:ρ[j]? with
 |none=>rw[e2]at p';exact p'.elim
 |some z =>
  rw[e2]at p';cases z with
  |od aiK =>
   have s':=s.ext y;obtain⟨d0,U0,afp,h1,h2,_⟩:=s'.od e2;refine⟨_,h1,ρ,G',s',uG (k:=fun k ρ1=>(match mY k,ρ1[j]? with
    |some ks,some (.od kvs)=>if kvs.length<=1000000 then .nx (ρ1.set j (.od (iw kvs ks d))) else .no
    |_,_=>.no)) p' fun k ρ1 v2 H2 G2 s2 q2 r2 p2=>?_⟩
   cases e1:mY k with
   |none=>rw[e1]at p2;exact p2.elim
   |some ks =>
    rw[e1]at p2;cases e3:ρ1[j]? with
    |none=>rw[e3]at p2;exact p2.elim
    |some z1 =>
     rw[e3]at p2;cases z1 with
     |od kvs =>
      dsimp only at p2;by_cases hl:kvs.length<=1000000
      ·rw[if_pos hl]at p2;obtain⟨b',d1,U,bK,rfl,q1,q2',q3,q4,q5,q6,q7⟩:=YF s2 e3 s2.wL r2 e1;rw[h1]at q1;cases q1;refine⟨b',d0,ks,U,UG X.K G2,bK,rfl,rfl,q2',q4,q5,q6,q3,by rw[<- q7.len];exact hl,?_⟩;exact p2 σ _ G2 (s2.yh e3 rfl h1 rfl ⟨UG X.K G2,_,rfl,fun _ _ z=>z,q7.put (r.mono q2)⟩) (.refl _)
      ·rw[if_neg hl]at p2;exact p2.elim
     |_=>exact p2.elim
  |_=>exact p'.elim
theorem aiL(i:Nat) {x:Str}{e:ag}{pos p1 p2 cp:Pos}{f:au->Rs (D×au)}(he:SX X B e f) (hN:X.N[i]?=some x:=by rfl) (hv:RL X.env.scope x:=by first|exact Or.inl rfl|exact Or.inr (Or.inl rfl)|exact Or.inr (Or.inr rfl)) (hd:(x == ("__debug__":Str))=false:=by decide)
  (hcd:(x == ("__classdict__":Str))=false:=by decide) (hst:ba [e] X.env=[(false,a_ e X.env)]:=by rfl)
  (hbase:l9 (.Name x p1) "pop" X.env (a_ (.Name x p1) X.env)=a_ (.Name x p1) X.env:=by rfl)
  (hfew:((di cp (ba [e] X.env)).all (fun x=>!x.1) && (jI cp (jS [] X.env)).all (fun x=>x.1.isSome)
   && decide (([e]:List ag).length + ([]:List kM).length + (if ([]:List kM).isEmpty then 0 else 1) < 30))=true:=by rfl)
  (hline:(p2.endLine == cp.line)=true:=by rfl) (hplain:(di cp (ba [] X.env)).any (·.1)=false:=by rfl)
  (hs:eL (.Call (.Attribute (.Name x p1) "pop" p2) [e] [] cp) none pos.line X.env=pure false:=by rfl) :
  SS X B W (.Expr (.Call (.Attribute (.Name x p1) "pop" p2) [e] [] cp) pos) (Lw i f):=by
 refine PS.imp (aad (ajO PySem.F.plainAttrs_list PySem.F.slot_list_pop PySem.F.type_list_pop adN (jq hN hv hd hcd) (dY he jr hst) hbase hfew hline hst hplain) hs) fun De σ H ⟨ρ,G,s,p⟩=>?_;unfold Lw at p;cases q:ρ[i]? with
 |none=>rw[q]at p;exact p.elim
 |some z =>
  rw[q]at p;cases z with
  |ow ds0 =>
   obtain⟨a,vs0,e1,h2,h3,h4,h5⟩:=s.ow i ds0 q;refine⟨_,e1,.inl ⟨rfl,vs0,.of h2⟩,ρ,G,s,uG (k:=fun k ρ1=>(match k,ρ1[i]? with
    | .int k,some (.ow ds)=>if 0<=k/\k < ds.length/\ds.length<=1000000 then .nx (ρ1.set i (.ow (ds.eraseIdx k.toNat))) else .no
    |_,_=>.no)) p fun d ρ1 v H1 G1 s1 q1 r1 p1=>?_⟩
   cases d with
   |int k =>
    cases e3:ρ1[i]? with
    |none=>rw[e3]at p1;exact p1.elim
    |some z1 =>
     rw[e3]at p1;cases z1 with
     |ow ds =>
      dsimp only at p1;by_cases hc:0<=k/\k < ds.length/\ds.length<=1000000
      ·rw[if_pos hc]at p1;obtain⟨b,vs,k1,k2,k3,k4,k5⟩:=s1.ow i ds e3;have eb:b=a:=by rw[e1]at k1;injection k1 with z;injection z with z;injection z with z;exact z.symm
       subst eb;have hl:=k5.length;have hk:k.toNat < vs.length:=by lia
       have hix:n5 k vs.length=some k.toNat:=(Mx (n:=vs.length) (i:=k) (j:=k.toNat) (by unfold Kv;rw[if_pos (by lia),if_pos (by lia)])).1;rw[aM.mp r1];exact⟨b,vs,k,k.toNat,vs[k.toNat],rfl,rfl,k2,by lia,by lia,hix,d_ hk,p1 σ _ G1 (s1.write e3 e1 (bI.erase k.toNat k5)) (.refl _)⟩
      ·rw[if_neg hc]at p1;exact p1.elim
     |_=>exact p1.elim
   |_=>exact p1.elim
  |_=>exact p.elim
theorem aiM(i j:Nat) {e b:ag}{x y:Str}{p1 p2 tp pt pos:Pos}{kt:Nat}{f fk:au->Rs D}(hc:X.calm=true) (hN:X.N.Nodup) (he:SE X B W e f) (hb:SE X B W b fk) (hi:X.N[i]?=some x:=by rfl) (hj:X.N[j]?=some y:=by rfl) (hv:RL X.env.scope x:=by first|exact Or.inl rfl|exact Or.inr (Or.inl rfl)|exact Or.inr (Or.inr rfl)) (hd:(x == ("__debug__":Str))=false:=by decide)
  (hcd:(x == ("__classdict__":Str))=false:=by decide) (hy:Mu X.env.scope y:=by first|exact Or.inl rfl|exact Or.inr rfl) (hf:X.fn y=true∨X.env.scope.names.lookup y=some .local:=by first|exact .inl rfl|exact .inr rfl|assumption)
  (hs:kH [.Tuple [.Subscript (.Name x p1) b tp,.Name y p2] kt pt] e pos.line X.env=pure false:=by rfl) (hw:kK [.Tuple [.Subscript (.Name x p1) b tp,.Name y p2] kt pt] e X.env=pure none:=by rfl)
  (h1:(d4 [.Tuple [.Subscript (.Name x p1) b tp,.Name y p2] kt pt] X.env).map (·.2)=[assign (.Tuple [.Subscript (.Name x p1) b tp,.Name y p2] kt pt) X.env]:=by rfl)
  (h2:(d4 [.Subscript (.Name x p1) b tp,.Name y p2] X.env).map (·.2)=assign (.Subscript (.Name x p1) b tp) X.env::(d4 [.Name y p2] X.env).map (·.2):=by rfl)
  (h3:(d4 [.Name y p2] X.env).map (·.2)=assign (.Name y p2) X.env::(d4 [] X.env).map (·.2):=by rfl)
  (h4:(d4 [.Subscript (.Name x p1) b tp,.Name y p2] X.env).length=2:=by rfl) (h5:(d4 [.Subscript (.Name x p1) b tp,.Name y p2] X.env).findIdx? (·.1)=none:=by rfl)
  (ha:∀v,assign (.Subscript (.Name x p1) b tp) X.env v=(do
   let ov <- d3 [v] (a_ (.Name x p1) X.env)
   let iv <- d3 [v,ov] (a_ b X.env)
   kG tp
   d3 [v,ov,iv] (setItem ov iv v)
   release [v,ov,iv] []):=by intro _;rfl) :
  SS X B W (.Assign [.Tuple [.Subscript (.Name x p1) b tp,.Name y p2] kt pt] e pos) (UW i j f fk):=by
 refine PS.imp (Mv he (adB hc (Ej (Xy (jq (pos:=p1) hi hv hd hcd) hb adL ha) (Ej (aae hN hj hy hf) aaf h3) h2) h4 h5) hs hw h1) fun De σ H ⟨ρ,G,s,p⟩=>?_;unfold UW at p;refine⟨ρ,G,s,jg s p fun d v H' G' _ yx r p'=>?_⟩
 match d,p',r with
 | .tup [q,r0],p',r =>
  obtain⟨c,vs,rfl,hq,rr⟩:=bA.mp r;obtain⟨vq,vs1,rfl,rq,rr1⟩:=aQ.mp rr;obtain⟨vr,vs2,rfl,r2,rr2⟩:=aQ.mp rr1;cases bD.mp rr2;have s':=s.ext yx;have p2:cO X.K B W G' (match ρ[i]? with
   |some z=>(match lent z with
    |some ds=>oR (fk ρ) ρ fun k=>(match k with
     | .int k=>(match Kv ds.length k with|some m=>.nx ((ρ.set i (iY z (ds.set m q))).set j (.fz r0))|none=>.no)
     |_=>.no)
    |none=>.no)
   |none=>.no) De:=p'
  cases e1:ρ[i]? with
  |none=>rw[e1]at p2;exact p2.elim
  |some z =>
   rw[e1]at p2;dsimp only at p2;cases e2:lent z with
   |none=>rw[e2]at p2;exact p2.elim
   |some ds =>
    rw[e2]at p2;dsimp only at p2;obtain⟨a,ws,k1,k2,k3,k4,k5⟩:=s'.lent e1 e2;refine⟨c,_,rfl,Same.gW s'.en.gh hq,rfl,vq,[vr],rfl,_,k1,ρ,G',s',jg s' p2 fun k v2 H2 G2 _ y2 r3 p3=>?_⟩;cases k with
    |int k =>
     dsimp only at p3;cases e3:Kv ds.length k with
     |none=>rw[e3]at p3;exact p3.elim
     |some m =>
      rw[e3]at p3;rw[aM.mp r3];have s2:=s'.ext y2;refine⟨a,ws,k,m,rfl,rfl,y2.hh _ _ k2,by rw[<- k5.length];exact e3,vr,[],rfl,rfl,?_⟩;refine p3 _ _ G2 (SR.set (SR.yh s2 (z:=iY z (ds.set m q)) (o:=.lst (ws.set m vq)) e1 (uF e2) k1 (Gm e2) (Lp e2 (bI.set m (k5.mono y2.gg) (rq.mono y2.gg))) (fun _ h=>Lq e2 h)) (r2.mono y2.gg)) (.refl _)
    |_=>exact p3.elim
 | .tup [],p',r=>exact p'.elim
 | .tup [_],p',r=>exact p'.elim
 | .tup (_::_::_::_),p',r=>exact p'.elim
 | .non,p',r=>exact p'.elim
 | .bl _,p',r=>exact p'.elim
 | .int _,p',r=>exact p'.elim
 | .str _,p',r=>exact p'.elim
 | .lst _,p',r=>exact p'.elim
 | .nU _ _,p',r=>exact p'.elim
 | .jW _ _,p',r=>exact p'.elim
theorem afF(i j:Nat) {x y:Str}{p p1 cp pos pos':Pos}(hc:X.calm=true) (hNd:X.N.Nodup) (hm:X.mg "sorted"=none) (hi:X.N[i]?=some y:=by rfl) (hx:Mu X.env.scope y:=by first|exact Or.inl rfl|exact Or.inr rfl) (hN:X.N[j]?=some x:=by rfl) (hv:RL X.env.scope x:=by first|exact Or.inl rfl|exact Or.inr (Or.inl rfl)|exact Or.inr (Or.inr rfl)) (hd:(x == ("__debug__":Str))=false:=by decide)
  (hcd:(x == ("__classdict__":Str))=false:=by decide) (hg:Gl X "sorted":=by rfl) (he:ba [.Name x p1] X.env=[(false,a_ (.Name x p1) X.env)]:=by rfl)
  (hs:eL (.Call (.Name "sorted" p) [.Name x p1] [] cp) (some (.Name y pos')) pos.line X.env=pure false:=by rfl) (hf:X.fn y=true∨X.env.scope.names.lookup y=some .local:=by first|exact .inl rfl|exact .inr rfl|assumption) :
  SS X B W (.Assign [.Name y pos'] (.Call (.Name "sorted" p) [.Name x p1] [] cp) pos) (Gr i j):=by
 refine PS.imp (zM hNd hi hx (qu (Gi hc) hg hm se (dY (jq hN hv hd hcd) jr he) (by decide) (by decide) he rfl) hs hf) fun De σ H ⟨ρ,G,s,pp⟩=>?_;unfold Gr at pp;split at pp
 ·rename_i kvs q;split at pp
  ·rename_i hc2;obtain⟨a,o,h1,h2,h3,h4,U,bK,rfl,hU,hk⟩:=s.own j _ q rfl;have ek:=hk.keys;have el:bK.length=kvs.length:=by have:=congrArg eT ek;simpa using this
   refine⟨_,h1,a,U,bK,rfl,aao h2,fun b ks z=>Same.gW s.en.gh (hU b ks z),by lia,fun p hp=>?_,fun l zs hl hz hv'=>?_⟩
   ·have:p.1∈kvs.map (·.1):=ek▸k8 hp;obtain⟨p',hp',e⟩:=c8.mp this;exact e▸hc2.2 p' hp'
   ·rw[ek]at hz hv';refine pp _ _ G (s.aee (nY hz fun i v hv2=>?_) hl) (.refl _);obtain⟨b,e1,e2⟩:=hv' i v hv2;exact⟨b,e1,hU b _ e2⟩
  ·exact pp.elim
 ·exact pp.elim
end
def afG(fe:au->Rs (D×au))(fl fh:au->Rs (Option Int)):au->Rs (D×au):=fun ρ=>bx (fe ρ) fun x ρ1=>lf ((fl ρ1).bind fun l=>(fh ρ1).bind fun h=>zX l h x) ρ1
def Lx(g:D->D->Rs D)(j:Nat)(fb:au->Rs D):au->Rs D:=fun ρ=>match ρ[j]? with
 |some z=>(match lent z with|some ds=>(fb ρ).bind fun y=>g (.lst ds) y|none=>.no)
 |none=>.no
section
variable{X:Cx}{K:ai}{B:Bs}{W:Wi}{σ:St}{G H G' H':Hp}{ρ:au}{a b:ag}{pos:Pos}{fa fb:au->Rs (D×au)}
theorem aoK(hu:X.A.units + 8 < bu)(ha:SX X B a fa)(hb:SX X B b fb):SX X B (.Compare a [.Eq] [b] pos) (pq RM fa fb):=alX (Nk hu) Nm ha hb (rm _)
theorem afH(hu:X.A.units + 8 < bu)(ha:SX X B a fa)(hb:SX X B b fb):STX X B (.Compare a [.Eq] [b] pos) (xT (pq RM fa fb)):=aaX (Nk hu) Nm ha hb (rm _)
theorem amc(ha:SX X B a fa)(hb:SX X B b fb):STX X B (.Compare a [.Gt] [b] pos) (xT (pq gGt fa fb)):=aaX anG (Eo fun _ _ _=>bL.mpr rfl) ha hb (rm _)
theorem afI{e:ag}{p pos:Pos}{fa:au->Rs (D×au)}(hm:X.mg "tuple"=none) (ha:SX X B e fa) (hg:Gl X "tuple":=by rfl) (he:ba [e] X.env=[(false,a_ e X.env)]:=by rfl):SX X B (.Call (.Name "tuple" p) [e] [] pos) (xA (dM fa tQ) jt) :=
 acn wj Tf hg hm PyProof.Rows.boot_tuple (cL ha kY he) (by decide) (by decide) he rfl
theorem acp{e:ag}{lo hi:Option ag}{p2 pos:Pos}{fe:au->Rs (D×au)}{fl fh:au->Rs (Option Int)}(he:SX X B e fe)(hl:SO X B WF lo fl)(hh:SO X B WF hi fh) :
  SX X B (.Subscript e (.Slice lo hi none p2) pos) (afG fe fl fh):=by
 refine PE.imp (Ss (SlR.or adJ Uz) he hl hh) fun σ H Q ⟨ρ,G,s,p⟩=>⟨ρ,G,s,afy (k:=fun x ρ1=>lf ((fl ρ1).bind fun l=>(fh ρ1).bind fun h=>zX l h x) ρ1) p fun d ρ1 v H1 G1 s1 q1 r1 p1=>⟨ρ1,G1,s1,?_⟩⟩
 have p1:Post X.K WF σ G1 H1 ((fl ρ1).bind fun l=>(fh ρ1).bind fun h=>zX l h d) Q:=DQ s1 p1;cases e1:fl ρ1 with
 |ok l =>
  rw[e1]at p1;intro H2 G2 x2;have q':Post X.K WF σ G1 H1 ((fh ρ1).bind fun h=>zX l h d) Q:=p1;refine⟨ρ1,G2,s1.ext x2,?_⟩;cases e2:fh ρ1 with
  |ok h =>
   rw[e2]at q';exact fun H3 G3 x3=>aaU ((s1.ext x2).ext x3) ((r1.mono x2.gg).mono x3.gg) (Post.ext (x2.trans x3) q')
  |ex c n=>rw[e2]at q';exact fun H3 G3 x3=>q' H3 G3 (x2.trans x3)
  |no=>rw[e2]at q';exact q'
 |ex c n=>rw[e1]at p1;exact p1
 |no=>rw[e1]at p1;exact p1
theorem aiN{g:D->D->Rs D}{j:Nat}{fb:au->Rs D}{r:R2}{Q:VK}(hr:∀(G H:Hp) (ds:List D) (y:D) (v u:V) (Q:VK),Same G H->Rep K H (.lst ds) v->Rep K G y u->Post K W σ G H (g (.lst ds) y) Q->(∀b xs,H b=some (.tup xs)->G b=some (.tup xs))->r v u H Q)
  (h:tF K B W (Lx g j fb) σ H Q):tOp r (RW j) (tF K B W fb) σ H Q:=by
 obtain⟨ρ,G,s,p⟩:=h;unfold Lx at p;cases q:ρ[j]? with
 |none=>rw[q]at p;exact p.elim
 |some z =>
  rw[q]at p;dsimp only at p;cases q1:lent z with
  |none=>rw[q1]at p;exact p.elim
  |some ds =>
   rw[q1]at p;obtain⟨a,vs,h1,h2,h3,h4,h5⟩:=s.lent q q1;refine⟨_,h1,ρ,G,s,?_⟩;refine Post.mono (Post.bind (k:=fun y=>g (.lst ds) y) p) fun u H1 ⟨G1,d,y,r1,p1⟩=>?_;exact hr G1 H1 ds d _ u Q y.gh (aY.mpr ⟨a,vs,rfl,.of (y.hh _ _ h2),(h5.mono y.gg).mono y.gh⟩) r1 p1 y.tp
theorem aiO{G H:Hp}{ds:List D}{y:D}{v u:V}{Q:VK}(e:Same G H)(r1:Rep K H (.lst ds) v)(r2:Rep K G y u)(p:Post K W σ G H (Tn (.lst ds) y) Q)(tp:∀b xs,H b=some (.tup xs)->G b=some (.tup xs)):alp K 8 v u H Q:=by
 unfold Tn at p;split at p
 ·rename_i hc;exact⟨_,_,r1,r2.mono e,hc.1,hc.2,p _ H G (.refl e tp) (bL.mpr rfl)⟩
 ·exact p.elim
section
variable{x:Str}{p1:Pos}{fb:au->Rs D}(j:Nat) (hu:X.A.units + 8 < bu) (hb:SE X B W b fb) (hN:X.N[j]?=some x) (hv:RL X.env.scope x) (hd:(x == ("__debug__":Str))=false) (hcd:(x == ("__classdict__":Str))=false)
theorem amd(hu:X.A.units + 8 < bu) (hb:SE X B W b fb) (hN:X.N[j]?=some x:=by rfl) (hv:RL X.env.scope x:=by first|exact Or.inl rfl|exact Or.inr (Or.inl rfl)|exact Or.inr (Or.inr rfl)) (hd:(x == ("__debug__":Str))=false:=by decide) (hcd:(x == ("__classdict__":Str))=false:=by decide):ST X B W (.Compare (.Name x p1) [.NotEq] [b] pos) (fT (Lx Tn j fb)) :=
 PT.imp (Mw (aek hu) (jq hN hv hd hcd) hb (rm _)) fun σ H Q h=>aiN (fun G H ds y v u Q e r1 r2 p tp=>aiO e r1 r2 p tp) (adS h)
end
end
end Vl
namespace Vl
open PySem PySem.Spec PySem.Calls PySem.W L2
section
variable{ρ ρ1:au}{d x y z:D}{f fa fb:au->Rs D}{g k a b:au->Ou}{r:Ou}{ds:List D}{fs:au->Rs (List D)}{c c1 c2:au->Rs Bool}{t u:Bool}{i j:Nat}{α β:Type}{e:Str}{n:Int}
theorem aoL:aec (.nx ρ) k=k ρ:=rfl
theorem aoM:aec (.rt d) k=.rt d:=rfl
theorem aoN:aec (.ex e n ρ) k=.ex e n ρ:=rfl
theorem aoO{a:α}{k:α->Ou}:oR (.ok a) ρ k=k a:=rfl
theorem aru{k:α->Ou}:oR (.ex e n) ρ k=.ex e n ρ:=rfl
theorem Cg{a:α}{k:α->Rs β}:Rs.bind (.ok a) k=k a:=rfl
theorem aoP{k:α->Rs β}:Rs.bind (.ex e n) k=.ex e n:=rfl
theorem arv:oO (some ρ)=.nx ρ:=rfl
theorem aoQ:gB (.nx ρ)=.ok .non:=rfl
theorem aoR:gB (.rt d)=.ok d:=rfl
theorem aoS:gB (.ex e n ρ)=.ex e n:=rfl
theorem aoT:aeg (.nx ρ)=.nx ρ:=rfl
theorem aoU:aeg (.rt d)=.rt d:=rfl
theorem ame{n:Nat}{v:List D->Rs D}:bC n v ds=if ds.length=n then v ds else .no:=rfl
theorem amf{a:α}:EY (.ok a)=.ok a:=rfl
theorem uI{m n:Int}(h:-(2 ^ 64) < n/\n < 2 ^ 64):nG (.int m) (.int n)=.ok (.int (m * n)):=ajV (.inr h)
theorem aki{m:Int}:fH (.tup ds) (.int m)=match Du ds m with|some d=>.ok d|none=>.no:=rfl
theorem aoV{m:Int}:fH (.lst ds) (.int m)=match Du ds m with|some d=>.ok d|none=>.no:=rfl
theorem YL:vX [.lst ds]=.ok (.int ds.length):=rfl
theorem Gs:vX [.tup ds]=.ok (.int ds.length):=rfl
theorem Gu:jt [.lst ds]=.ok (.tup ds):=rfl
theorem amg:jt [.tup ds]=.ok (.tup ds):=rfl
theorem amh:afe [.lst ds]=.ok (.lst ds):=rfl
theorem ami:afe [.tup ds]=.ok (.lst ds):=rfl
theorem amj:Yy [.int n]=.ok (.int n):=rfl
theorem YM:Yy [.bl t]=.ok (.int (if t then 1 else 0)):=rfl
theorem aoW:arq x .non=.ok (.bl (yG x)):=rfl
theorem amk:aoC x .non=.ok (.bl (!yG x)):=rfl
theorem arw:yG .non=true:=rfl
theorem arx:yG (.bl t)=false:=rfl
theorem arz:yG (.int n)=false:=rfl
theorem arA:yG (.tup ds)=false:=rfl
theorem arB:yG (.lst ds)=false:=rfl
theorem aoX:ahG (.int n)=.ok (.int (-n)):=rfl
theorem aoY{d:D}:Du (d::ds) 0=some d:=by
 unfold Du;have:Kv (d::ds).length 0=some 0:=by unfold Kv;simp
 rw[this];rfl
theorem aoZ{d d':D}:Du (d::d'::ds) 1=some d':=by
 unfold Du;have:Kv (d::d'::ds).length 1=some 1:=by unfold Kv;simp;lia
 rw[this];rfl
end
section
open So Tb
theorem vK{α:Type}{h:Tg}{fe:au->Rs D}(P:au->Prop)(Dv:α->D)(F:α->D):∀{xs:List α}{ρ:au},P ρ->(∀x∈xs,∀ρ,P ρ->∃ρ1,h (Dv x) ρ=some ρ1/\fe ρ1=.ok (F x)/\P ρ1)->jG h (fun _=>.ok true) fe (xs.map Dv) ρ=.ok (xs.map F)
 | [],ρ,p,_=>rfl
 |x::xs,ρ,p,st=>by obtain⟨ρ1,e1,e2,p2⟩:=st x (by simp) ρ p;have e:=vK (xs:=xs) P Dv F p2 fun d' hd=>st d' (by simp[hd]);simp only[cn,jG,e1,Rs.bind,e2,e,if_true]
theorem aiP{acc:List (List Int)}{k x:List Int}:x∈ins acc k↔x=k∨x∈acc:=by
 unfold ins;split
 ·rename_i h;constructor
  ·exact .inr
  ·rintro(rfl|h')
   ·exact h
   ·exact h'
 ·exact bP
theorem xr{l:List (List Int)}{x:List Int}:x∈cj l↔x∈l:=by
 unfold cj;have:∀(l acc:List (List Int)),x∈l.foldl ins acc↔x∈l∨x∈acc:=by
  intro l
  induction l with
  |nil=>intro acc;simp
  |cons a l ih =>
   intro acc;rw[kQ,ih,aiP,bP];constructor
   ·rintro(h|h|h)
    ·exact .inl (.inr h)
    ·exact .inl (.inl h)
    ·exact .inr h
   ·rintro((h|h)|h)
    ·exact .inr (.inl h)
    ·exact .inl h
    ·exact .inr (.inr h)
 simpa using this l []
theorem acq(l:List (List Int)):(cj l).Nodup:=by
 unfold cj;have:∀(l acc:List (List Int)),acc.Nodup->(l.foldl ins acc).Nodup:=by
  intro l
  induction l with
  |nil=>intro acc h;exact h
  |cons a l ih =>
   intro acc h;refine ih _ ?_;unfold ins;split
   ·exact h
   ·rename_i hn;exact ka.mpr ⟨hn,h⟩
 exact this l [] uS
theorem jJ{l:List (List Int)}{x:List Int}:x∈bZ l↔x∈l:=(eV l).mem_iff
theorem nZ(l:List (List Int)):(bZ l).length=l.length:=(eV l).length_eq
abbrev rise(l:List (List Int)):List (List Int):=bZ (cj l)
theorem yK{l:List (List Int)}{x:List Int}:x∈rise l↔x∈l:=jJ.trans xr
theorem qK(l:List (List Int)):(rise l).length<=l.length:=by unfold rise;rw[nZ];exact wU l
theorem aiQ{f:au->Rs D}{ρ:au}{bB:List (List Int)}(h:f ρ=.ok (.lst (bB.map aj)))(hl:bB.length < 1000)(hne:∀ks∈bB,ks≠[]):Gb (fK f) ρ=.ok (.lst ((rise bB).map aj)):=by unfold Gb fK;rw[h];simp only[Cg,Oj,Lh];rw[if_pos (j0 (Tb.wU _) hl)];simp only[Cg,Ol];rw[if_pos ⟨fun ks hk=>hne ks (xr.mp hk),j0 (wU bB) hl⟩]
def Pair(ks:List Int):Prop:=∃a b,ks=[a,b]
theorem Pair.ne{ks:List Int}(h:Pair ks):ks≠[]:=by obtain⟨a,b,rfl⟩:=h;simp
theorem Va(ks:List Int):cV (aj ks)<=2:=by
 unfold aj;have:jX (ks.map D.int)<=1:=by
  induction ks with
  |nil=>simp[jX]
  |cons k ks ih=>simp only[cn,jX,cV];exact Nat.max_le.mpr ⟨by lia,ih⟩
 simp only[cV];lia
theorem acr(bB:List (List Int)):jX (bB.map aj)<=2:=by
 induction bB with
 |nil=>simp[jX]
 |cons k bB ih=>simp only[cn,jX];exact Nat.max_le.mpr ⟨Va k,ih⟩
end
end Vl
namespace Vl
open PySem PySem.Spec PySem.Calls PySem.W L2 So
section
variable{ρ ρ1 ρ2:au}{d x y z:D}{f fa fb:au->Rs D}{xa xb:au->Rs (D×au)}{g k a b:au->Ou}{r:Ou}{ds:List D}{fs:au->Rs (List D)}{xs:au->Rs (List D×au)}{c c1 c2:au->Rs (Bool×au)}{t u:Bool}{i j:Nat}
theorem iy(h:f ρ=.ok d):xP f ρ=.ok (d,ρ):=by unfold xP;rw[h];rfl
theorem Vb(h:fs ρ=.ok ds):rO fs ρ=.ok (ds,ρ):=by unfold rO;rw[h];rfl
theorem aaZ{f:au->Rs Bool}(h:f ρ=.ok t):xPT f ρ=.ok (t,ρ):=by unfold xPT;rw[h];rfl
theorem fG{o:D->D->Rs D}(h1:xa ρ=.ok (x,ρ1))(h2:xb ρ1=.ok (y,ρ2))(h3:o x y=.ok z):pq o xa xb ρ=.ok (z,ρ2):=by unfold pq;rw[h1];show bx (xb ρ1) _=_;rw[h2];show lf (o x y) ρ2=_;rw[h3];rfl
theorem oH:tQ ρ=.ok ([],ρ):=rfl
theorem dD(h1:xa ρ=.ok (x,ρ1))(h2:xs ρ1=.ok (ds,ρ2)):dM xa xs ρ=.ok (x::ds,ρ2):=by unfold dM;rw[h1];show bx (xs ρ1) _=_;rw[h2];rfl
theorem Oo{o:List D->Rs D}(h1:xs ρ=.ok (ds,ρ1))(h2:o ds=.ok d):xA xs o ρ=.ok (d,ρ1):=by unfold xA;rw[h1];show lf (o ds) ρ1=_;rw[h2];rfl
theorem acs(h:xa ρ=.ok (.bl t,ρ1)):xT xa ρ=.ok (t,ρ1):=by unfold xT;rw[h];rfl
theorem Vc(h:c1 ρ=.ok (false,ρ1)):acj c1 c2 ρ=.ok (false,ρ1):=by unfold acj;rw[h];rfl
theorem Vd(h:c1 ρ=.ok (true,ρ1))(h2:c2 ρ1=.ok (t,ρ2)):acj c1 c2 ρ=.ok (t,ρ2):=by unfold acj;rw[h];exact h2
theorem YQ{n:Nat}{w:List D->List D->Rs (D×List D)}{z0 z1:Sl}{e0 es es':List D}(h0:ρ[i]?=some z0)(l0:lent z0=some e0)(h1:xs ρ=.ok (ds,ρ1))(hn:ds.length=n)(h2:ρ1[i]?=some z1)(l1:lent z1=some es)(h3:w es ds=.ok (d,es')):xM i n w xs ρ=.ok (d,ρ1.set i (iY z1 es')):=by unfold xM;rw[h0];dsimp only;rw[l0];dsimp only;rw[h1];show(if ds.length=n then _ else _)=_;rw[if_pos hn,h2];dsimp only;rw[l1];dsimp only;rw[h3]
theorem aiR(h:xa ρ=.ok (d,ρ1)):xq i xa ρ=.nx (ρ1.set i (.fz d)):=by unfold xq;rw[h];rfl
theorem nH(h:xa ρ=.ok (d,ρ1))(e:ρ1.set i (.fz d)=ρ2):xq i xa ρ=.nx ρ2:=by rw[<- e];exact aiR h
theorem aiS(h:xa ρ=.ok (d,ρ1))(e:ρ1=ρ2):xg xa ρ=.rx d ρ2:=by subst e;unfold xg;rw[h];rfl
theorem rQ(h:xa ρ=.ok (d,ρ1)):xg xa ρ=.rx d ρ1:=by unfold xg;rw[h];rfl
theorem Oq(h:c ρ=.ok (true,ρ1))(h2:a ρ1=r):xIf c a b ρ=r:=by unfold xIf;rw[h];exact h2
theorem yL(h:c ρ=.ok (false,ρ1))(h2:b ρ1=r):xIf c a b ρ=r:=by unfold xIf;rw[h];exact h2
theorem Gv{h:Tg}{n:Int}{N:Nat}(h1:xa ρ=.ok (.int n,ρ1))(hb:n < 2 ^ 62)(hN:n=(N:Int))(h2:cP h g ((bE N).map fun(i:Nat)=>.int i) ρ1=r):Ls h g xa ρ=r:=by
 have hc:-(2 ^ 62)<=n/\n < 2 ^ 62:=⟨by subst hN;lia,hb⟩
 unfold Ls;rw[h1];simp only[oX];rw[if_pos hc,hN,kR];exact h2
theorem YT{ρ2:au}(h:g ρ=.rx d ρ2):bU g k ρ=.rx d ρ2:=by unfold bU;rw[h];rfl
theorem YW(ks:List Int):mY (aj ks)=some ks:=by
 show rK (ks.map D.int)=some ks
 induction ks with
 |nil=>rfl
 |cons k ks ih=>rw[cn];show(rK (ks.map D.int)).map _=_;rw[ih];rfl
theorem aiT{aiK kvs:List (List Int×D)}{ks:List Int}{v:D}(he:fa ρ=.ok v)(h0:ρ[j]?=some (.od aiK))(hk:xb ρ=.ok (aj ks,ρ1))(hj:ρ1[j]?=some (.od kvs))(hl:kvs.length<=1000000):Gq j fa xb ρ=.nx (ρ1.set j (.od (iw kvs ks v))):=by unfold Gq;rw[he,h0];show oX (xb ρ) _=_;rw[hk];show(match mY (aj ks),ρ1[j]? with|some ks,some (.od kvs)=>if kvs.length<=1000000 then Ou.nx (ρ1.set j (.od (iw kvs ks v))) else .no|_,_=>.no)=_;rw[YW,hj];show(if kvs.length<=1000000 then Ou.nx _ else .no)=_;rw[if_pos hl]
theorem abb{aiK kvs:List (List Int×D)}{ks:List Int}{v:D}(h0:ρ[j]?=some (.od aiK))(hk:xb ρ=.ok (aj ks,ρ1))(hj:ρ1[j]?=some (.od kvs))(he:fa ρ=.ok v)(hl:kvs.length<=1000000)(e:ρ1.set j (.od (iw kvs ks v))=ρ2):Gq j fa xb ρ=.nx ρ2:=by rw[<- e];exact aiT he h0 hk hj hl
theorem aiU{es es0:List D}{n:Int}(h0:ρ[i]?=some (.ow es0))(hk:xa ρ=.ok (.int n,ρ1))(h1:ρ1[i]?=some (.ow es))(hn:0<=n/\n < es.length/\es.length<=1000000):Lw i xa ρ=.nx (ρ1.set i (.ow (es.eraseIdx n.toNat))):=by unfold Lw;rw[h0];show oX (xa ρ) _=_;rw[hk];show(match D.int n,ρ1[i]? with|.int k,some (.ow ds)=>if 0<=k/\k < ds.length/\ds.length<=1000000 then Ou.nx (ρ1.set i (.ow (ds.eraseIdx k.toNat))) else .no|_,_=>.no)=_;rw[h1];show(if _ then Ou.nx _ else .no)=_;rw[if_pos hn]
theorem aiV{es es0:List D}{n:Int}(h0:ρ[i]?=some (.ow es0))(hk:xa ρ=.ok (.int n,ρ1))(h1:ρ1[i]?=some (.ow es))(hn:0<=n/\n < es.length/\es.length<=1000000)(e:ρ1.set i (.ow (es.eraseIdx n.toNat))=ρ2):Lw i xa ρ=.nx ρ2:=by rw[<- e];exact aiU h0 hk h1 hn
theorem afJ{n:Nat}{w:List D->Rs (List D)}{es:List D}(h:fs ρ=.ok ds)(hl:ds.length=n)(h2:w ds=.ok es):UL i n w fs ρ=.nx (ρ.set i (.ow es)):=by unfold UL;rw[h];show(if _ then _ else _)=_;rw[if_pos hl,h2]
theorem afK{q r':D}{z0:Sl}{es:List D}{n:Int}{m:Nat}(h:fa ρ=.ok (.tup [q,r']))(h0:ρ[i]?=some z0)(l0:lent z0=some es)(hk:fb ρ=.ok (.int n))(hm:Kv es.length n=some m):UW i j fa fb ρ=.nx ((ρ.set i (iY z0 (es.set m q))).set j (.fz r')):=by
 unfold UW;rw[h];show(match ρ[i]? with
  |some z=>(match lent z with
   |some ds=>oR (fb ρ) ρ fun k=>(match k with
    | .int k=>(match Kv ds.length k with|some m=>.nx ((ρ.set i (iY z (ds.set m q))).set j (.fz r'))|none=>.no)
    |_=>.no)
   |none=>.no)
  |none=>.no)=_
 rw[h0];dsimp only;rw[l0];dsimp only;rw[hk];show(match Kv es.length n with|some m=>Ou.nx _|none=>.no)=_;rw[hm]
theorem acu{kvs:List (List Int×D)}(h0:ρ[j]?=some (.od kvs))(hl:kvs.length < 1000)(hp:∀x∈kvs.map (·.1),Pair x):Gr i j ρ=.nx (ρ.set i (.ow ((bZ (kvs.map (·.1))).map aj))):=by unfold Gr;rw[h0];show(if _ then _ else _)=_;rw[if_pos ⟨hl,fun p hp'=>(hp p.1 (k8 hp')).ne⟩]
theorem DW{kvs:List (List Int×D)}(h0:ρ[j]?=some (.od kvs))(hl:kvs.length < 1000)(hp:∀x∈kvs.map (·.1),Pair x):uE j ρ=.ok (.lst ((bZ (kvs.map (·.1))).map aj)):=by unfold uE;rw[h0];show(if _ then _ else _)=_;rw[if_pos ⟨hl,fun p hp'=>(hp p.1 (k8 hp')).ne⟩]
theorem apa{z0:Sl}{es:List D}(h0:ρ[j]?=some z0)(l0:lent z0=some es)(hb:fb ρ=.ok y)(h:fH (.lst es) y=.ok d):afD j fb ρ=.ok d:=by unfold afD;rw[h0];dsimp only;rw[l0];dsimp only;rw[hb];exact h
theorem afL{g:D->D->Rs D}{z0:Sl}{es:List D}(h0:ρ[j]?=some z0)(l0:lent z0=some es)(hb:fb ρ=.ok y)(h:g (.lst es) y=.ok d):Lx g j fb ρ=.ok d:=by unfold Lx;rw[h0];dsimp only;rw[l0];dsimp only;rw[hb];exact h
theorem aml{lo hi:Option Int}{fl fh:au->Rs (Option Int)}(h:xa ρ=.ok (x,ρ1))(h1:fl ρ1=.ok lo)(h2:fh ρ1=.ok hi)(h3:zX lo hi x=.ok d):afG xa fl fh ρ=.ok (d,ρ1):=by unfold afG;rw[h];show lf ((fl ρ1).bind _) ρ1=_;rw[h1];show lf ((fh ρ1).bind _) ρ1=_;rw[h2];show lf (zX lo hi x) ρ1=_;rw[h3];rfl
end
end Vl
namespace Vl
open PySem PySem.Spec PySem.Calls PySem.W L2
abbrev KL:=List (List Int)
theorem t2(a b:D):dJ [a,b]=.ok (.tup [a,b]):=aol (by simp)
theorem oh(ks:List Int):mY (aj ks)=some ks:=by
 show rK (ks.map D.int)=some ks
 induction ks with
 |nil=>rfl
 |cons k ks ih=>rw[cn];show(rK (ks.map D.int)).map _=_;rw[ih];rfl
theorem rR(kvs:List (List Int×D))(x:List Int):(cg kvs x).isSome=decide (x∈kvs.map (·.1)):=by
 induction kvs with
 |nil=>rfl
 |cons p kvs ih =>
  unfold cg at ih ⊢;rw[fx,cn];by_cases h:p.1=x
  ·simp[h]
  ·have h':¬x=p.1:=fun z=>h z.symm;simp only[h,decide_false];rw[ih];simp[h']
theorem uJ(kvs:List (List Int×D))(ks x:List Int)(d:D):x∈(iw kvs ks d).map (·.1)↔x=ks∨x∈kvs.map (·.1):=by
 unfold iw;split
 ·rename_i c;rw[rR]at c;have hk:=of_decide_eq_true c;have e:(kvs.map fun p=>if p.1=ks then (p.1,d) else p).map (·.1)=kvs.map (·.1):=by rw[fg];refine oo fun p _=>?_;show(if p.1=ks then (p.1,d) else p).1=p.1;split <;> rfl
  rw[e];exact⟨.inr,fun h=>h.elim (fun z=>z▸hk) id⟩
 ·rw[mN,du];simp[or_comm]
theorem rT(kvs:List (List Int×D))(ks:List Int)(d:D):(iw kvs ks d).length<=kvs.length + 1:=by
 unfold iw;split
 ·rw[cf];lia
 ·simp
theorem Ci{ρ:au}{j:Nat}{kvs:List (List Int×D)}{ks:List Int}{v:D}{fe fk:au->Rs D}(he:fe ρ=.ok v)(hj:ρ[j]?=some (.od kvs))(hk:fk ρ=.ok (aj ks))(hl:kvs.length<=1000000):qH j fe fk ρ=.nx (ρ.set j (.od (iw kvs ks v))):=by unfold qH;rw[he,hj];show oR (fk ρ) ρ _=_;rw[hk];show(match mY (aj ks) with|some ks=>if kvs.length<=1000000 then Ou.nx _ else .no|none=>.no)=_;rw[oh];show(if kvs.length<=1000000 then Ou.nx _ else .no)=_;rw[if_pos hl]
def GK(kvs:List (List Int×D)):Prop:=∀x∈kvs.map (·.1),Pair x
abbrev sh(k:KL)(b:Bool):D:=.tup [.tup (k.map aj),.bl b]
structure GN (kvs:List (List Int×D)):Prop where
 pr:GK kvs
 nd:(kvs.map (·.1)).Nodup
theorem GN.put{kvs:List (List Int×D)}(h:GN kvs)(x y:Int)(d:D):GN (iw kvs [x,y] d):=by
 refine⟨fun z hz=>?_,?_⟩
 ·rcases(uJ kvs [x,y] z d).mp hz with rfl|h'
  ·exact⟨x,y,rfl⟩
  ·exact h.pr z h'
 ·unfold iw;split
  ·have e:(kvs.map fun p=>if p.1=[x,y] then (p.1,d) else p).map (·.1)=kvs.map (·.1):=by rw[fg];refine oo fun p _=>?_;show(if p.1=[x,y] then (p.1,d) else p).1=p.1;split <;> rfl
   rw[e];exact h.nd
  ·rename_i c;rw[mN,List.nodup_append];refine⟨h.nd,by simp,fun a ha b hb=>?_⟩;simp only[cn,l8,dP]at hb;subst hb;rintro rfl;rw[rR]at c;exact c (decide_eq_true ha)
theorem GN.nil:GN []:=⟨fun _ h=>(by cases h),uS⟩
theorem adK(p:List Int)(i:Int)(j:Nat)(hi:i=j)(hj:j < p.length):fH (aj p) (.int i)=.ok (.int (p.getD j 0)):=by subst hi;show fH (.tup (p.map D.int)) (.int j)=_;rw[aki];unfold Du Kv;rw[if_pos (by lia),if_pos (by rw[cf];lia)];simp only[kR,Option.bind_some,cw,d_ hj,og,e_,om]
theorem uK{L:KL}{E:au->Rs D}{F:List Int->D}{ρ:au}{fi:au->Rs (List D)}{caps:List Nat}{cs:List Sl}(hs:dZ 1 caps ρ=.no::cs)(hi:fi ρ=.ok (L.map aj))(hp:∀ks∈L,E (.fz (aj ks)::cs)=.ok (F ks))(hl:L.length<=1000) :
  dw (aU 0) (fun _=>.ok true) E 1 caps fi ρ=.ok (.lst (L.map F)):=by
 refine Np hi ?_ (by rw[cf];lia);rw[hs];exact vK (fun ρ=>∃a,ρ=a::cs) aj F ⟨_,rfl⟩ (by
  rintro ks hk ρ ⟨a,rfl⟩;exact⟨_,rfl,hp ks hk,_,rfl⟩)
theorem abd{X:au->Rs Bool}{E:au->Rs D}{t:List Int->Bool}{F:List Int->List Int}{cs:List Sl}:∀{L:KL},(∀ks∈L,X (.fz (aj ks)::cs)=.ok (t ks))->(∀ks∈L,E (.fz (aj ks)::cs)=.ok (aj (F ks)))->∀a,jG (aU 0) X E (L.map aj) (a::cs)=.ok (((L.filter t).map F).map aj)
 | [],_,_,a=>rfl
 |k::L,hx,he,a=>by
  have ih:=abd (L:=L) (fun ks h=>hx ks (.tail _ h)) (fun ks h=>he ks (.tail _ h)) (.fz (aj k));have h1:=hx k (.head _);have h2:=he k (.head _);cases c:t k with
  |true =>
   rw[c]at h1;simp only[cn,jG,aU,iA,h1,h2,ih,Rs.bind,if_true,nB,c]
  |false =>
   rw[c]at h1;simp only[cn,jG,aU,iA,h1,h2,ih,Rs.bind,br,if_false,nB,c]
theorem YX{L:KL}{X:au->Rs Bool}{E:au->Rs D}{t:List Int->Bool}{F:List Int->List Int}{ρ:au}{fi:au->Rs (List D)}{caps:List Nat}{cs:List Sl}(hs:dZ 1 caps ρ=.no::cs)(hi:fi ρ=.ok (L.map aj))(hx:∀ks∈L,X (.fz (aj ks)::cs)=.ok (t ks))(he:∀ks∈L,E (.fz (aj ks)::cs)=.ok (aj (F ks)))(hl:L.length<=1000) :
  dw (aU 0) X E 1 caps fi ρ=.ok (.lst (((L.filter t).map F).map aj)):=by
 refine Np hi ?_ (by rw[cf,cf];have:=sj t L;lia);rw[hs];exact abd hx he _
theorem Ly{L:KL}{X:au->Rs Bool}{E:au->Rs D}{t:List Int->Bool}{ρ:au}{fi:au->Rs (List D)}{caps:List Nat}{cs:List Sl}(hs:dZ 1 caps ρ=.no::cs)(hi:fi ρ=.ok (L.map aj))(hx:∀ks∈L,X (.fz (aj ks)::cs)=.ok (t ks))(he:∀ks∈L,E (.fz (aj ks)::cs)=.ok (aj ks))(hl:L.length<=1000) :
  dw (aU 0) X E 1 caps fi ρ=.ok (.lst ((L.filter t).map aj)):=by
 have:=YX (F:=id) hs hi hx he hl;rwa [List.map_id]at this
def ad(p t:List Int):List Int:=[p.getD 0 0 + t.getD 0 0,p.getD 1 0 + t.getD 1 0]
def mi(s b:List Int):List Int:=[s.getD 0 0 - b.getD 0 0,s.getD 1 0 - b.getD 1 0]
theorem DX(p t:List Int):Pair (ad p t):=⟨_,_,rfl⟩
theorem vL(p t:List Int):Pair (mi p t):=⟨_,_,rfl⟩
def had(A:KL)(b:Bool)(x:List Int):Bool:=decide (x∈A) != b
theorem amm(O:KL)(p:List Int):∀z∈O.map (ad p),Pair z:=fun z hz=>by obtain⟨t,_,rfl⟩:=c8.mp hz;exact⟨_,_,rfl⟩
section
variable{X:Cx}{K:ai}{B:Bs}{W:Wi}{σ:St}{G H:Hp}{ρ:au}
theorem Ve:∀{bK:List (List Int×V)}{ds:List D},bI K G ds (bK.map (·.2))->fu K G ((bK.map (·.1)).zip ds) bK
 | [],ds,h=>by rw[l8,List.zip_nil_left];exact .nil
 | (k,v)::bK,[],h=>by have:=bD.mp h;cases this
 | (k,v)::bK,d::ds,h=>by obtain⟨u,us,e,r1,r2⟩:=aQ.mp h;cases e;exact .cons r1 (Ve r2)
theorem YZ{kvs:List (List Int×D)}{bK:List (List Int×V)}(h:fu K G kvs bK):bK.map (·.1)=kvs.map (·.1)/\bI K G (kvs.map (·.2)) (bK.map (·.2)):=by
 induction h with
 |nil=>exact⟨rfl,bD.mpr rfl⟩
 |cons r _ ih=>exact⟨by rw[cn,cn,ih.1],aQ.mpr ⟨_,_,rfl,r,ih.2⟩⟩
theorem Lz{α β:Type}:∀l:List (α×β),(l.map (·.1)).zip (l.map (·.2))=l
 | []=>rfl
 |_::l=>by simp only[cn,List.zip_cons_cons,Lz l]
abbrev dN(kvs:List (List Int×D)):D:=.jW (kvs.map (·.1)) (kvs.map (·.2))
def zY(ks:List (List Int))(ds:List D)(k:List Int):Option D:=cg (ks.zip ds) k
theorem yM(kvs:List (List Int×D))(k:List Int):zY (kvs.map (·.1)) (kvs.map (·.2)) k=cg kvs k:=by unfold zY;rw[Lz]
theorem Ot{ks:List (List Int)}{ds:List D}{v:V}(r:Rep K G (.jW ks ds) v):∃a U bK,v=.ref a/\BX G a U bK/\(∀b js,U b js->UG K G b js)/\fu K G (ks.zip ds) bK:=by obtain⟨a,U,bK,e,h1,h2,h3,h4⟩:=vp.mp r;exact⟨a,U,bK,e,h1,h2,h3▸Ve h4⟩
def acv(i:Nat)(ρ:au):au:=match ρ[i]? with|some (.od kvs)=>ρ.set i (.fz (dN kvs))|_=>ρ
theorem SR.acv{kvs:List (List Int×D)}{o:Obj}{a:ab}{U:ab->List Int->Prop}{bK:List (List Int×V)}(h:SR K B σ H ρ G){i:Nat}(q:ρ[i]?=some (.od kvs))(e1:σ[i]?=some (some (.ref a)))(h2:H a=some (.ext (pU U a bK)))(h3:G a=none)(h4:B.2 a=none)
  (h5:∀b ks,U b ks->UG K G b ks) (h6:fu K G kvs bK):Same G (upd G a (.ext fun h=>h.get? a=some o/\pU U a bK h))/\SR K B σ (upd H a (.ext fun h=>h.get? a=some o/\pU U a bK h)) (ρ.set i (.fz (dN kvs))) (upd G a (.ext fun h=>h.get? a=some o/\pU U a bK h)):=by
 have hl:i < ρ.length:=(dC.mp q).1;have gg:Same G (upd G a (.ext fun h=>h.get? a=some o/\pU U a bK h)):=fun b o z=>by rw[bh (bf z h3)];exact z
 obtain⟨u1,u2⟩:=YZ h6;refine⟨gg,⟨h.en.gg.trans gg,fun b o z=>?_,fun b o z=>?_,fun b xs z=>?_,fun b o z w=>?_⟩,by simp[h.len],fun j d z=>?_,fun j fs z wz=>?_,fun j k fs gs c z1 w1 z2 w2 z3 z4=>?_,fun j es c z1 z2=>?_,h.co.upd h2 fun _ z=>by cases z⟩
 ·rw[bh (bf z h4)];exact h.en.hh b o z
 ·by_cases w:b=a
  ·subst w;rw[bH]at z ⊢;exact z
  ·rw[bh w]at z ⊢;exact h.en.gh b o z
 ·by_cases w:b=a
  ·subst w;rw[bH]at z;cases z
  ·rw[bh w]at z ⊢;exact h.en.tp b xs z
 ·rw[bh (bf z h4)];exact h.en.nw b o z w
 ·by_cases e:i=j
  ·subst e;rw[dE hl]at z;cases z;exact⟨_,e1,vp.mpr ⟨a,U,bK,rfl,⟨o,bH⟩,fun b js w=>Same.gW gg (h5 b js w),u1,u2.mono gg⟩⟩
  ·rw[de e]at z;obtain⟨v,w1,w2⟩:=h.fz j d z;exact⟨v,w1,w2.mono gg⟩
 ·by_cases e:i=j
  ·subst e;rw[dE hl]at z;cases z;cases wz
  ·rw[de e]at z;obtain⟨b,us,w1,w2,w3,w4,w5⟩:=h.own j fs z wz;have hne:b≠a:=fun w=>by subst w;exact e (h.ap i j _ fs b q rfl z wz e1 w1)
   exact⟨b,us,w1,by rw[bh hne];exact w2,by rw[bh hne];exact w3,w4,w5.mono gg⟩
 ·have nj:i≠j:=fun e=>by subst e;rw[dE hl]at z1;cases z1;cases w1
  have nk:i≠k:=fun e=>by subst e;rw[dE hl]at z2;cases z2;cases w2
  rw[de nj]at z1;rw[de nk]at z2;exact h.ap j k fs gs c z1 w1 z2 w2 z3 z4
 ·have nj:i≠j:=fun e=>by subst e;rw[dE hl]at z1;cases z1
  rw[de nj]at z1;exact h.tie j es c z1 z2
def LK(i:Nat)(g:au->Ou):au->Ou:=fun ρ=>g (acv i ρ)
theorem DY{st:List bj}{g:au->Ou}(i:Nat)(h:wk X B W st g):wk X B W st (LK i g):=by
 intro pins s σ H De I hq;obtain⟨ρ,G,sr,p⟩:=hq;unfold LK acv at p;split at p
 ·rename_i kvs q;obtain⟨a,U,bK,e1,h2,h3,h4,h5,h6⟩:=sr.od q;obtain⟨hd,⟨o,ho⟩,hs⟩:=(show fY X.prog X.w H s.heap a (.ext (pU U a bK)) from I.hok a _ h2)
  obtain⟨gg,sr'⟩:=sr.acv (o:=o) q e1 h2 h3 h4 h5 h6;have I':=I.write (x:=a) (e:=a) (t':=s.toks) (h':=s.heap) (o:=.ext fun h=>h.get? a=some o/\pU U a bK h) (by rw[h2];trivial) (.inl rfl) (fun _ _ _ z=>z) ⟨o,ho⟩ ⟨⟨ho,hd⟩,⟨o,ho⟩,fun h1 h2 z k=>⟨k _ z.1,hs _ _ z.2 k⟩⟩;exact h pins s σ _ De I' ⟨_,_,sr',cO.same p gg⟩
 ·exact h pins s σ H De I ⟨_,_,sr,p⟩
def Iz:D->D->Rs D:=fun x y=>match x with
 | .jW ks ds=>(match mY y with
  |some k=>(match zY ks ds k with|some d=>.ok d|none=>.no)
  |none=>.no)
 |_=>.no
theorem aiW:Sy K (afn K) Iz:=by
 intro B W σ ρ G H x y v u Q s rx ry p;cases x with
 |jW ks ds =>
  unfold Iz at p;dsimp only at p;cases e1:mY y with
  |none=>rw[e1]at p;exact p.elim
  |some k =>
   rw[e1]at p;dsimp only at p;obtain⟨a,U,bK,rfl,h1,h2,h3⟩:=Ot rx;obtain⟨b,rfl,hb⟩:=DN ry e1;unfold zY at p;rcases h3.get (ks:=k) with ⟨w1,w2⟩|⟨dd,vv,w1,w2,w3⟩
   ·rw[w1]at p;exact p.elim
   ·rw[w1]at p;exact⟨b,a,k,U,bK,vv,rfl,rfl,Same.gW s.en.gh hb,(h1.mono s.en.gh).at,fun c js z=>Same.gW s.en.gh (h2 c js z),w2,Post.ok s p w3⟩
 |_=>exact p.elim
theorem afM{a b:ag}{pos:Pos}{fa fb:au->Rs D}(hu:X.A.units + 8 < bu)(ha:SE X B W a fa)(hb:SE X B W b fb)(hs:xV b:=by intro _ _;rfl):SE X B W (.Subscript a b pos) (bW Iz fa fb) :=
 PE.imp (aan (alR (Gh hu)) ha hb hs) fun _ _ _ h=>En aiW h
def yN(neg:Bool):D->D->Rs D:=fun x y=>match y with
 | .jW ks ds=>(match mY x with
  |some k=>.ok (.bl (if neg then !(zY ks ds k).isSome else (zY ks ds k).isSome))
  |none=>.no)
 |_=>.no
theorem abe{σ:St}{x y:D}{v u:V}{G H:Hp}{Q:V->Hp->Prop}(gh:Same G H)(rx:Rep K G x v)(ry:Rep K G y u){ks:List (List Int)}{ds:List D}{k:List Int}(ey:y=.jW ks ds)(e1:mY x=some k)(q:Q (.bl (zY ks ds k).isSome) H):aaN K v u H Q:=by
 subst ey;obtain⟨a,U,bK,rfl,h1,h2,h3⟩:=Ot ry;obtain⟨b,rfl,hb⟩:=DN rx e1;refine⟨b,a,k,U,bK,rfl,rfl,Same.gW gh hb,(h1.mono gh).at,fun c js z=>Same.gW gh (h2 c js z),?_⟩;have:(uy bK k).isSome=(zY ks ds k).isSome:=by unfold zY;rcases h3.get (ks:=k) with ⟨q1,q2⟩|⟨_,_,q1,q2,_⟩ <;> rw[q1,q2] <;> rfl
 rw[this];exact q
theorem aiX:Sy K (aaN K) (yN false):=by
 intro B W σ ρ G H x y v u Q s rx ry p;cases y with
 |jW ks ds =>
  unfold yN at p;dsimp only at p;cases e1:mY x with
  |none=>rw[e1]at p;exact p.elim
  |some k =>
   rw[e1]at p;simp only[br,if_false]at p;exact abe (σ:=σ) s.en.gh rx ry rfl e1 (Post.ok s p (bL.mpr rfl))
 |_=>exact p.elim
theorem afN:Sy K (afr K) (yN true):=by
 intro B W σ ρ G H x y v u Q s rx ry p;cases y with
 |jW ks ds =>
  unfold yN at p;dsimp only at p;cases e1:mY x with
  |none=>rw[e1]at p;exact p.elim
  |some k =>
   rw[e1]at p;simp only[if_true]at p;exact abe (σ:=σ) s.en.gh rx ry rfl e1 ⟨_,rfl,Post.ok s p (bL.mpr rfl)⟩
 |_=>exact p.elim
section
variable{a b:ag}{pos:Pos}{fa fb:au->Rs D}
theorem afO(hu:X.A.units + 8 < bu)(ha:SE X B W a fa)(hb:SE X B W b fb)(hm:iL .In b=false:=by rfl):SE X B W (.Compare a [.In] [b] pos) (bW (yN false) fa fb):=Yb (aaO (Gh hu)) aiX ha hb hm
theorem aiY(hu:X.A.units + 8 < bu)(ha:SE X B W a fa)(hb:SE X B W b fb)(hm:iL .NotIn b=false:=by rfl):ST X B W (.Compare a [.NotIn] [b] pos) (fT (bW (yN true) fa fb)):=MN (afs (Gh hu)) afN ha hb hm
end
def Vf(j:Nat)(fs:au->Rs (List D)):au->Rs D:=fun ρ=>match ρ[j]? with
 |some (.fz (.jW ks ds))=>(fs ρ).bind fun es=>match es with
  | [k,w]=>(match mY k with|some k=>.ok ((zY ks ds k).getD w)|none=>.no)
  |_=>.no
 |_=>.no
theorem aiZ(j:Nat) {k d:ag}{x:Str}{p1 p2 cp:Pos}{fs:au->Rs (List D)}(hu:X.A.units + 8 < bu) (ha:SA X B W [k,d] fs) (hN:X.N[j]?=some x:=by rfl) (hv:RL X.env.scope x:=by first|exact Or.inl rfl|exact Or.inr (Or.inl rfl)|exact Or.inr (Or.inr rfl)) (hd:(x == ("__debug__":Str))=false:=by decide)
  (hcd:(x == ("__classdict__":Str))=false:=by decide)
  (h1:l9 (.Name x p1) "get" X.env (a_ (.Name x p1) X.env)=a_ (.Name x p1) X.env:=by rfl) (h2:ba [k,d] X.env=[(false,a_ k X.env),(false,a_ d X.env)]:=by rfl)
  (h3:((di cp (ba [k,d] X.env)).all (fun q=>!q.1) && (jI cp (jS [] X.env)).all (fun q=>q.1.isSome) && decide (([k,d]:List ag).length + 0 + 0 < 30))=true:=by rfl)
  (h4:(p2.endLine == cp.line)=true:=by rfl) (h5:((di cp (ba [k,d] X.env)).any fun q=>q.1)=false:=by rfl) :
  SE X B W (.Call (.Attribute (.Name x p1) "get" p2) [k,d] [] cp) (Vf j fs):=by
 intro pins s σ H Q I ⟨ρ,G,sr,p⟩;have hvv:PE X (.Name x p1) (RW j):=jq hN hv hd hcd;unfold Vf at p;cases e2:ρ[j]? with
 |none=>rw[e2]at p;exact p.elim
 |some z =>
  rw[e2]at p
  match z,p,e2 with
  | .fz (.jW ks ds),p,e2 =>
   obtain⟨vj,g1,rj⟩:=sr.fz j _ e2;obtain⟨d0,U0,afp,rfl,g2,hU0,hk0⟩:=Ot rj;have g2H:=(g2.mono sr.en.gh).at
   refine sR h1 h3 h4 rfl (jc (hvv pins s σ H (fun y H1=>y=.ref d0/\H1=H) I ⟨_,g1,rfl,rfl⟩) fun v s1 fZ=>?_);obtain⟨y,H1,I1,r1,hy,hH⟩:=fZ;subst hy;subst hH;cases r1;obtain⟨φ,g2φ,hφ⟩:=g2H;obtain⟨o',es',ep',xs',w1,w2,_⟩:=hφ _ (I1.hok d0 _ g2φ).1;refine⟨"dict","dict.get",F.plainAttrs_dict,vS,F.type_dict_get,⟨o',w1,w2.1⟩,fun a ea=>?_,?_⟩
   ·cases ea;exact⟨o',w1,w2.2.1⟩
   have p':Post X.K W σ G H1 ((fs ρ).bind fun es=>match es with
     | [k,w]=>(match mY k with|some k=>.ok ((zY ks ds k).getD w)|none=>.no)
     |_=>.no) Q:=p
   have hA:=ha cp pins s1 σ H1 (fun vs H2=>afq X.K (.ref d0) vs H2 Q) I1 ⟨ρ,G,sr,?_⟩
   ·rw[h2]at hA h5 ⊢;refine sT h5 (s_ ?_);exact jc hA fun us s2 ⟨vs,H2,I2,r2,q2⟩=>aaQ (Gh hu) pins s2 σ H2 (.ref d0) vs (.ref d0) us Q I2 rfl r2 q2
   ·cases e:fs ρ with
    |no=>rw[e]at p';exact p'.elim
    |ex c n=>rw[e]at p';exact p'
    |ok es =>
     rw[e]at p';intro vs H' G' y r
     match es,p',r with
     | [],p',r=>exact p'.elim
     | [_],p',r=>exact p'.elim
     |_::_::_::_,p',r=>exact p'.elim
     | [k,w],p',r =>
      obtain⟨v1,vs1,rfl,r1,r2⟩:=aQ.mp r;obtain⟨v2,vs2,rfl,r3,r4⟩:=aQ.mp r2;cases bD.mp r4;have p3:Post X.K W σ G H1 (match mY k with|some k=>.ok ((zY ks ds k).getD w)|none=>.no) Q:=p';cases e1:mY k with
      |none=>rw[e1]at p3;exact p3.elim
      |some kk =>
       rw[e1]at p3;dsimp only at p3;obtain⟨b',rfl,hb⟩:=DN r1 e1;refine⟨b',d0,v2,kk,U0,afp,rfl,rfl,Same.gW y.gh hb,⟨φ,y.hh _ _ g2φ,hφ⟩,fun c js z=>Same.gW (y.gg.trans y.gh) (hU0 c js z),?_⟩;unfold zY at p3;rcases hk0.get (ks:=kk) with ⟨w1,w2⟩|⟨dd,vv,w1,w2,w3⟩
       ·rw[w2];rw[w1]at p3;exact p3 v2 H' G' y r3
       ·rw[w2];rw[w1]at p3;exact p3 vv H' G' y (w3.mono y.gg)
  | .no,p,e2=>exact p.elim
  | .ow _,p,e2=>exact p.elim
  | .od _,p,e2=>exact p.elim
  | .op _,p,e2=>exact p.elim
  | .fz .non,p,e2=>exact p.elim
  | .fz (.bl _),p,e2=>exact p.elim
  | .fz (.int _),p,e2=>exact p.elim
  | .fz (.str _),p,e2=>exact p.elim
  | .fz (.tup _),p,e2=>exact p.elim
  | .fz (.lst _),p,e2=>exact p.elim
  | .fz (.nU _ _),p,e2=>exact p.elim
end
end Vl
namespace L2
open PySem PySem.Spec PyProof.Rows
def Itv(K:ai)(a:ab)(n:Nat):It :=
 ⟨fun i H=>∃xs x,pR K H a xs/\xs.length=n/\xs.reverse[i]?=some x,fun i H x H'=>H'=H/\∀xs,pR K H a xs->xs.reverse[i]?=some x,fun i H=>n<=i⟩
theorem afP{P:aE}{w:az}{K:ai}{tg:ag}(a it:ab)(n:Nat)(hn:n<=1000):Turn P w K tg (Itv K a n) [it] it (fun i h=>i<=n/\h.wC it a ((n:Int) - 1 - (i:Int))) where
  mem:=by simp
  obj:=fun i h st b hb=>by
    have e:b=it:=by simpa using hb
    subst e;exact⟨_,st.2,fun v z=>by
      have z':Data.fields _=Data.cell v:=z;cases z'⟩
  keep:=fun i h h' st k=>⟨st.1,k it (by simp) _ st.2⟩
  item:=by
    intro X hP hw hK hc i pins s σ H E I hf st hg;subst hP hw hK;obtain⟨xs,x,hq,hl,hx⟩:=hg;obtain⟨its,rv,p,hz⟩:=I.tuple hq;have hi:i < n:=by have:=(dC.mp hx).1;rw[List.length_reverse,hl]at this;exact this
    have hlen:its.length=n:=by rw[<- rv.length];exact hl
    rw[List.getElem?_reverse (by lia)]at hx;obtain⟨u,hu,ru⟩:=rv.get hx;obtain⟨f0,f1,f2,f3,f4,f5⟩:=hf it (by simp);have e:(n:Int) - 1 - (i:Int)=((n - 1 - i:Nat):Int):=by lia
    have hit:s.heap.wC it a ((n - 1 - i:Nat):Int):=e▸st.2;refine tM hit p (by simp only[cK];lia) (x:=u) (by rw[hl]at hu;simpa using hu) fun h' tk st' sb=>?_;have I1:Inv X pins σ H { s with heap:=h',toks:=tk }:=I.turned (t':=tk) (fun b o hb e=>(sb.2 b hb).trans e) f0 f1 f3 f4 f5;have e2:((n - 1 - i:Nat):Int) - 1=(n:Int) - 1 - ((i + 1:Nat):Int):=by lia
    rw[e2]at st';refine⟨u,rfl,Sg (s:={ s with heap:=h',toks:=tk }) (n:="reversed") st' rfl rfl (by decide) ⟨x,H,I1,ru,⟨rfl,fun ys hy=>?_⟩,⟨hi,st'⟩,fun b hb=>(hf b hb).1⟩⟩;rw[I.zL hy hq,List.getElem?_reverse (by lia)];exact hx
  done := by
    intro X hP hw hK hc i pins s σ H E I hf st hg;subst hP hw hK;have hg':i=n:=Nat.le_antisymm st.1 hg;subst hg';obtain⟨f0,f1,f2,f3,f4,f5⟩:=hf it (by simp);have e:(i:Int) - 1 - (i:Int)=-1:=by lia
    have hit:s.heap.wC it a (-1):=e▸st.2;exact uD (I.ok.hd hc) hit fun h' eb=>⟨rfl,I.turned (t':=s.toks) (fun b o hb e=>eb b o hb e) f0 f1 f3 f4 f5⟩
  self:=fun _ _ _ _ _ st h=>qI st.2 h
section
variable{X:Cx}{tg:ag}
def arD(K:ai)(ta:TA):TI:=fun σ H R=>ta σ H fun vs H1=>∃a xs,vs=[.ref a]/\pR K H1 a xs/\xs.length<=1000/\R (Itv K a xs.length) H1
theorem amn{l:ag}{ta:TA}{p pos:Pos}(hg:Gl X "reversed") (hm:X.mg "reversed"=none) (ha:PA X [l] ta) (hs:ba [l] X.env=[(false,a_ l X.env)]:=by rfl):PI X tg (.Call (.Name "reversed" p) [l] [] pos) (arD X.K ta):=by
 intro pins s σ H R I h;refine Call_ (wK I hg hm PyProof.Rows.Boot.«reversed» (pd (jc (ha pos pins s σ H _ I h) fun us s1 ⟨vs,H1,I1,r1,q1⟩=>?_) hs rfl));obtain⟨a,xs,e,hq,hl,q⟩:=q1;subst e;obtain⟨u,rfl,rx⟩:=r1.one;cases rx;obtain⟨its,rv,pt,hz⟩:=I1.tuple hq;have hlen:its.length=xs.length:=rv.length.symm;refine vZ pt (by simp only[cK];lia) fun tk=>?_;have st:(s1.heap.push (aaS a ((its.toArray.size:Int) - 1))).wC s1.heap.objs.size a ((its.toArray.size:Int) - 1):=cS _ rfl;refine qI (s:={ s1 with heap:=s1.heap.push (aaS a ((its.toArray.size:Int) - 1)),toks:=tk }) st ?_;refine⟨s1.heap.objs.size,[s1.heap.objs.size],_,Itv X.K a xs.length,H1,rfl,I1.kept (t':=tk) fun b o e=>cb _ e,afP a _ _ hl,?_,fun b hb=>?_,q⟩
 ·have e:((xs.length:Nat):Int) - 1 - ((0:Nat):Int)=(its.toArray.size:Int) - 1:=by simp only[cK];lia
  refine⟨eB _,?_⟩;show Heap.wC _ _ a (((xs.length:Nat):Int) - 1 - ((0:Nat):Int));rw[e];exact st
 ·have e:b=s1.heap.objs.size:=by simpa using hb
  subst e;exact I1.Sd (bo _) (I1.hok.fresh (bo _))
end
end L2
namespace Vl
open PySem PySem.Spec L2
def asV:D->Rs (List D)
 | .tup ds=>if ds.length<=1000 then .ok ds.reverse else .no
 |_=>.no
section
variable{X:Cx}{B:Bs}{W:Wi}{tg:ag}
theorem amo{e:ag}{p1 p2:Pos}{f:au->Rs D}(hm:X.mg "reversed"=none) (hi:SE X B W e f) (hgl:Gl X "reversed":=by rfl) (hst:ba [e] X.env=[(false,a_ e X.env)]:=by rfl):SI X B W tg (.Call (.Name "reversed" p1) [e] [] p2) (fL f asV):=by
 refine PI.imp (amn hgl hm (dY hi jr (by rw[hst];rfl)) hst) fun σ H R ⟨ρ,G,s,p⟩=>⟨ρ,G,s,Dw p (fun d v H' G' ds e1 e rv k=>?_) (fun d c n z=>by cases d <;> first|cases z|(simp only[asV]at z;split at z <;> cases z))⟩
 cases d with
 |tup es =>
  simp only[asV]at e1;by_cases c:es.length<=1000
  ·rw[if_pos c]at e1;cases e1;obtain⟨a,vs,rfl,q,rr⟩:=bA.mp rv;refine⟨a,vs,rfl,Same.gW e.gh q,by rw[<- rr.length];exact c,k _ H' G' (.refl e.gh e.tp) ?_⟩;have rr':=Uy rr;intro i G1 H1 gg e';have q1:=Same.gW e'.gh (Same.gW gg q);refine⟨fun d hd=>?_,fun hl=>?_⟩
   ·obtain⟨v,hv,rv⟩:=rr'.get hd;refine⟨⟨vs,v,q1,rfl,hv⟩,fun x H2 y=>?_⟩;obtain⟨e2,y⟩:=y;subst e2;have:=y vs q1;rw[hv]at this;cases this;exact⟨G1,e',rv.mono gg⟩
   ·show vs.length<=i;rw[<- rr.length];simpa using hl
  ·rw[if_neg c]at e1;cases e1
 |_=>cases e1
end
end Vl
namespace Vl
open PySem PySem.Spec PySem.Calls PySem.W L2
abbrev amq(X:Cx)(A:aS)(N:List Str)(s:ae)(H:Hp)(qual:Str)(sc:Scope)(f:ab)(cd:aa):Cx where
 prog:=X.prog
 w:=X.w
 K:=X.K
 mg:=X.mg
 base:=X.base
 A:=A.deeper (envX qual sc s.heap.objs.size f cd (gj sc X.env))
 N:=N
 s₀:=s
 H₀:=H
 env:=envX qual sc s.heap.objs.size f cd (gj sc X.env)
 outer:=X.stack
 stack:=envX qual sc s.heap.objs.size f cd (gj sc X.env)::X.stack
 ex:=[]
 fn:=fun _=>false
 calm:=true
 pn:=[]
 xe:=fun _ _=>False
section
variable{X:Cx}{pins:List (ab×Obj)}{σ:St}{H:Hp}{s:ae}
def zZ(v:V)(caps:List Nat)(σ:St):St:=some v::caps.map fun i=>(σ[i]?).getD none
theorem acw{A:aS}{qual:Str}{sc:Scope}{f:ab}{cd:aa}{p:Str}{Nc:List Str}{caps:List Nat}{v:V}{u:aa}{h':Heap}{tk:Nat}(c:wQ X sc (p::Nc) 1 caps)(hp:sc.names.lookup p=some .local)(I:Inv X pins σ H s)(rv:RelV v u)(hA:A.handled=none)(hfr:A.frames=some X.stack)
  (hn:h'.Ns s.heap.objs.size fun x=>tm x [(p,u)]) (hk:∀b o,s.heap.get? b=some o->h'.get? b=some o) :
  Inv (amq X A (p::Nc) s H qual sc f cd) [] (zZ v caps σ) H { s with heap:=h',toks:=tk }:=by
 have clX:∀{x:Str}{a:ab},(gj sc X.env).lookup x=some a->X.env.cells.lookup x=some a:=fun h=>c.cl I h;refine⟨⟨I.ok.mod,c.kind,rfl,rfl,bo _,fun x y a h1 h2=>I.ok.inj x y a (clX h1) (clX h2),fun x hx=>?_,fun x a hf=>absurd (show false=true from hf) tq,fun _=>hA,aS.frames_deeper hfr,.inr ⟨rfl,rfl⟩,fun b hb=>absurd (show b∈([]:List ab) from hb) (by simp),
  fun b o e=>I.bs b o e,cz I.ok.bsz I.sz,fun b o e hb=>absurd (show b∈([]:List ab) from hb) (by simp),fun b hb=>absurd (show b∈([]:List ab) from hb) (by simp),I.stack,I.Ds⟩,
  rfl,I.bare,Un.kept hk,⟨_,hn,fun i x v' h1 h2 h3=>?_⟩,fun x a ha=>?_,I.hok.fresh (bo _),fun x a ha=>I.sW x a (clX ha),fun q hq=>absurd (show q∈([]:List (ab×Obj)) from hq) (by simp),I.hok.kept hk,?_⟩
 ·have hx':sc.names.lookup x=some .cell∨sc.names.lookup x=some .free:=hx;rcases hx' with hx'|hx'
  ·exact(c.Ni _ (gz hx') rfl).elim
  ·exact yp (gz hx')
 ·cases i with
  |zero =>
   have e1:p=x:=c9 h1;subst e1;have e2:v=v':=c9 (c9 h2);subst e2;exact⟨u,rv,.inl ⟨hp,(show tm p [(p,u)]=some u from mo)⟩⟩
  |succ i =>
   have h2':(caps.map fun i=>(σ[i]?).getD none)[i]?=some (some v'):=h2;have h1':Nc[i]?=some x:=h1;rw[cw]at h2';cases e:caps[i]? with
   |none=>rw[e]at h2';cases h2'
   |some k =>
    rw[e]at h2';have aja:(σ[k]?).getD none=some v':=c9 h2';have hs:σ[k]?=some (some v'):=by
     cases e3:σ[k]? with
     |none=>rw[e3]at aja;cases aja
     |some z=>rw[e3]at aja;exact congrArg some aja
    obtain⟨hX,hl0⟩:=c.cap i k x e (by rw[ui];exact h1');have hf:(x,d9.free)∈sc.names:=gz hl0;obtain⟨m,_,hl⟩:=I.loc;have hkind:=c.fr _ hf rfl;obtain⟨u',r,l⟩:=hl k x v' hX hs (by rcases hkind with q|q;exact .inr (.inl q);exact .inr (.inr q));refine⟨u',r,.inr ⟨.inr hl0,?_⟩⟩;obtain⟨cc,hcc⟩:=yp (env:=X.env) hf;refine⟨cc,hcc,?_⟩;rcases l with ⟨q,_⟩|⟨_,c2,hc2,z⟩
    ·rcases hkind with q'|q' <;> (rw[q]at q';cases q')
    ·rw[clX hcc]at hc2;cases hc2;obtain⟨o,ho,hd⟩:=z;exact⟨o,hk _ _ ho,hd⟩
 ·obtain⟨v',o,ho,hd⟩:=I.cell x a (clX ha);exact⟨v',o,hk _ _ ho,hd⟩
 ·show(some v::caps.map _).length=(p::Nc).length;have:=c.len;simp only[cy,cf]at this ⊢;lia
theorem afQ{A:aS}{E:aa->ae->Prop}{name qual:Str}{params:lS}{body:ag}{sc:Scope}{f c':ab}{pm ctv:aa}{p:Str}{Nc:List Str}{caps:List Nat}{v:V}{u:aa}{t:TE}{Q:VK}{R:aa->ae->Prop}
  (c:wQ X sc (p::Nc) 1 caps) (hp:sc.names.lookup p=some .local) (I:Inv X pins σ H s) (rv:RelV v u) (hA:A.handled=none) (hfr:A.frames=some X.stack) (hroom:A.depth < sL) (hco:sc.isCoroutine=false) (hgen:sc.isGenerator=false)
  (ho:s.heap.get? f=some (kla_obj name qual params body sc (gj sc X.env) pm c' ctv)) (hcd:s.heap.CodeRec (.ref c') qual) (hbind:bindArgs (kla_fn name qual params body sc (gj sc X.env) pm (.ref c') ctv) ⟨[u],[]⟩=pure [(p,u)])
  (hb:PE (amq X A (p::Nc) s H qual sc f (.ref c')) body t) (ht:t (zZ v caps σ) H Q)
  (hQ:∀r s',(∃w H',s'.os=s.os/\p8 s'.gens/\Un (qp X.stack) [] H H' s.heap s'.heap/\zK X.prog X.w H' s'.heap/\RelV w r/\Q w H')->R r s') :
  ah (ar X.prog X.w) A (call (.ref f) [u]) R E s:=by
 refine p9 (kla_callFunE hroom ho rfl hco hgen rfl hcd ?_);rw[hbind];refine ax (wpAny_newFunctionEnv (fun y hy=>c.Ni y hy) (fun y hy=>by rw[dP.mp hy];exact hp) (fun h₁ hns hsb=>?_) c.kind);have hk:∀b o,s.heap.get? b=some o->h₁.get? b=some o:=fun b o e=>hsb.extBut b o (b_ (bq e)) (cb _ e);refine⟨(I.ok.mod.nolimit.keeps I.bk).keeps hk,?_⟩;show f7 _ _ (.expr body (envX qual sc s.heap.objs.size f (.ref c') (gj sc X.env))) _ _;refine kla_codeExpr ?_;have J:=acw (tk:=s.toks + [(p,u)].length) (qual:=qual) (f:=f) (cd:=.ref c') c hp I rv hA hfr hns hk;refine d6 (hb [] _ (zZ v caps σ) H Q J ht) (fun r s' ⟨w,H',J',rw',q⟩=>?_) fun _ _ z=>z.elim;exact hQ r s' ⟨w,H',J'.os,J'.bare,J'.base,J'.hok,rw',q⟩
end
section
variable{X:Cx}{pins:List (ab×Obj)}{σ:St}
def apb(vs:Array aa)(c:Nat):Obj:={ cls:=.type "list",dict:=none,data:=.seq vs c,slots:=#[] }
def afR(X:Cx)(Pv:Hp->Prop)(k:Int)(H:Hp)(s:ae)(r:aa)(s':ae):Prop :=
 ∃t H',r=.int k t/\s'.os=s.os/\p8 s'.gens/\Un (qp X.stack) [] H H' s.heap s'.heap/\zK X.prog X.w H' s'.heap/\Pv H'
abbrev btG(kf:Nat->Int):Nat->Nat->Bool:=fun i j=>decide (kf i > kf j)
theorem Ea{H H':Hp}{s s':ae}{b:ab}{o:Obj}(I:Inv X pins σ H s)(f:qY X pins H b)(e:s.heap.get? b=some o)(u:Un (qp X.stack) [] H H' s.heap s'.heap):s'.heap.get? b=some o/\qY X pins H' b:=by have nf:b∉qp X.stack:=fun z=>(bP.mp (I.wJ b z)).elim f.2.1 f.2.2.1;exact⟨u.keep b o e f.1 nf (by simp),u.free b o e f.1 (by simp),f.2⟩
theorem ajb{l f it S:ab}{fo:Obj}{xs:List V}{kf:Nat->Int}{Pv:Hp->Prop}{dv:aa}{R:Result->ae->Prop}(hc:X.calm=true)(hSI:S≠it)(hl:∀H,Pv H->tL X.K H l xs)
  (turn:∀(j:Nat) (v:V) (u:aa) (s:ae) (H:Hp),xs[j]?=some v->RelV v u->Inv X pins σ H s->Pv H->s.heap.get? f=some fo->ah (ar X.prog X.w) X.A.in1 (call (.ref f) [u]) (afR X Pv (kf j) H s) (fun _ _=>False) s)
  (hf:∀(H H':Hp) (s s':ae),Inv X pins σ H s->s.heap.get? f=some fo->Un (qp X.stack) [] H H' s.heap s'.heap->H f=none->s'.heap.get? f=some fo/\H' f=none) (hfi:f≠it) (hfS:f≠S)
  (hR:∀(H:Hp) (s:ae) (v:V) (u:aa),Inv X pins σ H s->Pv H->xs[fy (btG kf) (xs.length - 1)]?=some v->RelV v u->R (.ok (.ret u)) s) :
  ∀(r j:Nat) (H:Hp) (s:ae) (vb:V) (ub:aa) (tb:Tok) (c:Nat),xs.length - (j + 1)=r->j + 1<=xs.length->Inv X pins σ H s->Pv H->H f=none->qY X pins H it->qY X pins H S->s.heap.get? f=some fo->s.heap.IsListIter it l (j + 1) ->
   xs[fy (btG kf) j]?=some vb->RelV vb ub->s.heap.get? S=some (apb #[ub,.int (kf (fy (btG kf) j)) tb] c) ->
   f7 (ar X.prog X.w) X.A (.builtin "max.loop" ⟨[.ref it,.ref f,.ref S],[("default",dv)]⟩) R s:=by
 have hname:(toString "max"++toString ".loop":String)="max.loop":=by decide
 intro r
 induction r with
 |zero =>
  intro j H s vb ub tb c hr hj I pv hfn fi fS hfo hit hvb rb hS;have hin:j + 1=xs.length:=by lia
  obtain⟨its,rv,p,hz⟩:=I.list (hl H pv);have hlen:its.length=xs.length:=rv.length.symm;have hli:l≠it:=fun z=>by subst z;obtain⟨o,ho,hc',_⟩:=p.isList;obtain⟨o',ho',hc'',_⟩:=hit;rw[ho]at ho';cases ho';rw[hc']at hc'';injection hc'' with z;exact absurd z (by decide)
  have W:=n_ (prog:=X.prog) (w:=X.w) (A:=X.A.in1) (I.ok.hd hc) it l hli its.toArray;have hsz:its.toArray.size=xs.length:=by simp[hlen]
  refine ik wa ?_;rw[i3 k9 _];show ah _ X.A.in1 (seqItems? (.ref S) >>= _) _ _ _;refine af (mP hS rfl ?_);show ah _ X.A.in1 (tryCatch (d7 (.ref it)) _ >>= _) _ _ _;refine af (k_ (W.done _ _ _ ⟨by rw[hsz,<- hin];exact hit,p.isList⟩ fun h' tk' hk'=>?_));have hS':=hk' S _ (by simpa using hSI) hS;show ah _ X.A.in1 (kA S (fun _=>#[]) >>= _) _ _ _;refine af ?_;refine il hS' rfl (af (o6 (ax ?_)));have I2:Inv X pins σ H { s with heap:=h'.update S (c_ fun _=>#[]),toks:=tk' }:=I.vI (ch:=[it,S]) (fun b o hb e=>by
   have h1:b≠it:=fun z=>hb (by simp[z]);have h2:S≠b:=fun z=>hb (by simp[z]);exact(fF _ _ h2).trans (hk' b o (by simpa using h1) e)) (fun b hb=>by
   rcases bP.mp hb with z|hb
   ·rw[z];exact fi
   ·rw[dP.mp hb];exact fS)
  exact hR H _ vb ub I2 pv (by rw[<- hin];exact hvb) rb
 |succ r ih =>
  intro j H s vb ub tb c hr hj I pv hfn fi fS hfo hit hvb rb hS;have hlt:j + 1 < xs.length:=by lia
  obtain⟨its,rv,p,hz⟩:=I.list (hl H pv);have hlen:its.length=xs.length:=rv.length.symm;have hli:l≠it:=fun z=>by subst z;obtain⟨o,ho,hc',_⟩:=p.isList;obtain⟨o',ho',hc'',_⟩:=hit;rw[ho]at ho';cases ho';rw[hc']at hc'';injection hc'' with z;exact absurd z (by decide)
  have W:=n_ (prog:=X.prog) (w:=X.w) (A:=X.A.in1) (I.ok.hd hc) it l hli its.toArray;have hsz:its.toArray.size=xs.length:=by simp[hlen]
  refine ik wa ?_;rw[i3 k9 _];show ah _ X.A.in1 (seqItems? (.ref S) >>= _) _ _ _;refine af (mP hS rfl ?_);show ah _ X.A.in1 (tryCatch (d7 (.ref it)) _ >>= _) _ _ _;refine af (k_ (W.item (j + 1) _ _ _ (by rw[hsz];exact hlt) ⟨hit,p.isList⟩ fun u h' tk' hP hst' hk'=>?_));have hu:its[j + 1]?=some u:=by simpa using hP
  obtain⟨v,hv,ru⟩:=Vals.get' rv hu;have I1:Inv X pins σ H { s with heap:=h',toks:=tk' }:=I.vI (ch:=[it]) (fun b o hb e=>hk' b o hb e) (fun b hb=>by rw[dP.mp hb];exact fi);have hS1:=hk' S _ (by simpa using hSI) hS;have hf1:=hk' f _ (by simpa using hfi) hfo;obtain⟨oI',hoI',hoc,hod⟩:=id hst'.1;show ah _ X.A.in1 (tryCatch (d3 [u] (call (.ref f) [u])) _ >>= _) _ _ _;refine af (k_ (ez (d6 (turn (j + 1) v u _ H hv ru I1 pv hf1) (fun x s'' he=>?_) fun _ _ hF=>hF.elim)));obtain⟨t2,H2,rfl,os2,ba2,un2,ok2,pv2⟩:=he;have I2:Inv X pins σ H2 s'':=I1.call' (ch:=[]) os2 un2 ok2 ba2 (fun b z=>absurd z (by simp));obtain⟨hS2,fS2⟩:=Ea I1 fS hS1 un2;obtain⟨hI2,fi2⟩:=Ea I1 fi hoI' un2;obtain⟨hf2,ajd⟩:=hf H H2 _ s'' I1 hf1 un2 hfn;have hit2:s''.heap.IsListIter it l (j + 1 + 1):=⟨oI',hI2,hoc,hod⟩
  show ah _ X.A.in1 (tryCatch (d3 [u,.int (kf (j + 1)) t2] (richCompare .Gt (.int (kf (j + 1)) t2) (.int (kf (fy (btG kf) j)) tb) >>= _)) _ >>= _) _ _ _;refine af (k_ (ez (af (CmpOf.ints_gt (prog:=X.prog) (w:=X.w) (A:=X.A.in1) (P:=fun i v=>∃t,v=.int (kf i) t) kf (fun i v h=>h) (j + 1) (fy (btG kf) j) _ _ _ _ _ ⟨t2,rfl⟩ ⟨tb,rfl⟩ ?_))));refine af (ez (ls ?_));refine af (o6 (ax ?_));cases hb:btG kf (j + 1) (fy (btG kf) j) with
  |true =>
   have hb':decide (kf (j + 1) > kf (fy (btG kf) j))=true:=hb;simp only[hb',if_true];refine af ?_;refine il hS2 rfl (af (o6 ?_));rw[hname];have kp:∀b o,b∉[S]->s''.heap.get? b=some o->(s''.heap.update S (c_ fun _=>#[u,.int (kf (j + 1)) t2])).get? b=some o:=fun b o hb e=>(fF _ _ (fun z:S=b=>hb (by simp[z]))).trans e;have I3:Inv X pins σ H2 { s'' with heap:=s''.heap.update S (c_ fun _=>#[u,.int (kf (j + 1)) t2]),toks:=s''.toks }:=I2.vI (ch:=[S]) kp (fun b hb=>by rw[dP.mp hb];exact fS2);have e1:fy (btG kf) (j + 1)=j + 1:=by simp only[fy,hb,if_true]
   refine ax ⟨gN k9 _,ih (j + 1) H2 _ v u t2 _ (by lia) hlt I3 pv2 ajd fi2 fS2 (kp f _ (by simpa using hfS) hf2) ⟨oI',kp it _ (by simpa using hSI.symm) hI2,hoc,hod⟩ (by rw[e1];exact hv) ru (by rw[e1];exact fE _ hS2 rfl)⟩
  |false =>
   have hb':decide (kf (j + 1) > kf (fy (btG kf) j))=false:=hb;simp only[hb',br,if_false];refine af (o6 ?_);rw[hname];have e1:fy (btG kf) (j + 1)=fy (btG kf) j:=by simp only[fy,hb,br,if_false]
   refine ax ⟨gN k9 _,ih (j + 1) H2 _ vb ub tb c (by lia) hlt I2 pv2 ajd fi2 fS2 hf2 hit2 (by rw[e1];exact hvb) rb (by rw[e1];exact hS2)⟩
end
section
variable{X:Cx}{pins:List (ab×Obj)}{σ:St}
theorem Za(a v d:aa):i6 "max" ⟨[a],[("key",v),("default",d)]⟩:=by unfold i6;kernel_rfl
theorem acy{l f:ab}{fo:Obj}{xs:List V}{kf:Nat->Int}{Pv:Hp->Prop}{dv:aa}{Q:aa->ae->Prop}{H:Hp}{s:ae}(hc:X.calm=true)(I:Inv X pins σ H s)(pv:Pv H)(hl:∀H,Pv H->tL X.K H l xs)
  (turn:∀(j:Nat) (v:V) (u:aa) (s:ae) (H:Hp),xs[j]?=some v->RelV v u->Inv X pins σ H s->Pv H->s.heap.get? f=some fo->ah (ar X.prog X.w) X.A.in1 (call (.ref f) [u]) (afR X Pv (kf j) H s) (fun _ _=>False) s)
  (hfo:s.heap.get? f=some fo) (hfn:H f=none) (hff:f∉qp X.stack)
  (hQ0:xs=[]->∀(H:Hp) (s:ae),Inv X pins σ H s->Pv H->Q dv s)
  (hQ:∀(H:Hp) (s:ae) (v:V) (u:aa),Inv X pins σ H s->Pv H->xs[fy (btG kf) (xs.length - 1)]?=some v->RelV v u->Q u s) :
  ah (ar X.prog X.w) X.A (call (.builtin "max") [.ref l] [("key",.ref f),("default",dv)]) Q X.xe s:=by
 have hname:(toString "max"++toString ".loop":String)="max.loop":=by decide
 have hf:∀(H H':Hp) (s s':ae),Inv X pins σ H s->s.heap.get? f=some fo->Un (qp X.stack) [] H H' s.heap s'.heap->H f=none->s'.heap.get? f=some fo/\H' f=none:=fun H H' s s' _ e u n=>⟨u.keep f fo e n hff (by simp),u.free f fo e n (by simp)⟩
 refine PyProof.Rows.kmk_tree PySem.F.kind_max PySem.F.plain_max PySem.F.entry_max (Za _ _ _) ?_;show ah _ X.A.in1 (cv.Builtins.bindParams "max" ["key","default"] 0 ⟨[],[("key",.ref f),("default",dv)]⟩ >>= _) _ _ s;refine af (i4 (show cv.Builtins.bindParams "max" ["key","default"] 0 ⟨[],[("key",.ref f),("default",dv)]⟩=pure [some (.ref f),some dv] from by first|rfl|kernel_rfl) ?_);refine af (ax ?_);obtain⟨its,rv,p,hz⟩:=I.list (hl H pv);have hlen:its.length=xs.length:=rv.length.symm;refine af (o_ p.isList ?_);refine af (eM ?_);rw[hname];have sz:∀(h:Heap) (o:Obj),(h.push o).objs.size=h.objs.size + 1:=fun h o=>n9 ..;generalize hO:({ cls:=.type "list_iterator",data:=.fields #[.ref l,.int 0 0] }:Obj)=O at *;have amr:f < s.heap.objs.size:=bq hfo;have arF:l < s.heap.objs.size:=by obtain⟨_,e,_⟩:=p.isList;exact bq e
 have kp:∀b o,s.heap.get? b=some o->((s.heap.push O).push { cls:=.type "list",data:=.seq ([]:List aa).toArray }).get? b=some o:=fun b o e=>cb _ (cb _ e);have I1:Inv X pins σ H { s with heap:=(s.heap.push O).push { cls:=.type "list",data:=.seq ([]:List aa).toArray } }:=I.kept (t':=s.toks) kp;have fi:qY X pins H s.heap.objs.size:=I.Sd (bo _) (I.hok.fresh (bo _));have fS:qY X pins H (s.heap.push O).objs.size:=I.Sd (by rw[sz];lia) (I.hok.fresh (by rw[sz];lia));have hSI:(s.heap.push O).objs.size≠s.heap.objs.size:=by rw[sz];lia
 have hit:((s.heap.push O).push { cls:=.type "list",data:=.seq ([]:List aa).toArray }).IsListIter s.heap.objs.size l 0:=by subst hO;exact⟨_,cb _ (cS _ rfl),rfl,rfl⟩
 have hS:((s.heap.push O).push { cls:=.type "list",data:=.seq ([]:List aa).toArray }).get? (s.heap.push O).objs.size=some (apb #[] 0):=cS _ rfl;refine ax ⟨gN k9 _,?_⟩;show f7 (ar X.prog X.w) X.A (.builtin "max.loop" ⟨[.ref s.heap.objs.size,.ref f,.ref (s.heap.push O).objs.size],[("default",dv)]⟩) _ _;have W:=n_ (prog:=X.prog) (w:=X.w) (A:=X.A.in1) (I.ok.hd hc) s.heap.objs.size l (b_ arF) its.toArray;have hsz:its.toArray.size=xs.length:=by simp[hlen]
 refine ik wa ?_;rw[i3 k9 _];show ah _ X.A.in1 (seqItems? (.ref (s.heap.push O).objs.size) >>= _) _ _ _;refine af (mP hS rfl ?_);show ah _ X.A.in1 (tryCatch (d7 (.ref s.heap.objs.size)) _ >>= _) _ _ _;have hpl:(((s.heap.push O).push { cls:=.type "list",data:=.seq ([]:List aa).toArray })).IsList l its.toArray:=(p.isList.push _).push _;by_cases hn:xs=[]
 ·have h0:its.toArray.size=0:=by rw[hsz,hn];rfl
  refine af (k_ (W.done _ _ _ ⟨by rw[h0];exact hit,hpl⟩ fun h' tk' hk'=>?_));have I2:Inv X pins σ H { s with heap:=h',toks:=tk' }:=Inv.vI (s:={ s with heap:=(s.heap.push O).push { cls:=.type "list",data:=.seq ([]:List aa).toArray } }) (t':=tk') I1 (ch:=[s.heap.objs.size]) (fun b o hb e=>hk' b o hb e) (fun b hb=>by rw[dP.mp hb];exact fi);refine af (gT (ax ?_));exact hQ0 hn H _ I2 pv
 ·have h0:0 < xs.length:=wb.mpr hn;refine af (k_ (W.item 0 _ _ _ (by rw[hsz];exact h0) ⟨hit,hpl⟩ fun u h' tk' hP hst' hk'=>?_));have hu:its[0]?=some u:=by simpa using hP
  obtain⟨v,hv,ru⟩:=Vals.get' rv hu;have I2:Inv X pins σ H { s with heap:=h',toks:=tk' }:=Inv.vI (s:={ s with heap:=(s.heap.push O).push { cls:=.type "list",data:=.seq ([]:List aa).toArray } }) (t':=tk') I1 (ch:=[s.heap.objs.size]) (fun b o hb e=>hk' b o hb e) (fun b hb=>by rw[dP.mp hb];exact fi);have hS1:=hk' _ _ (by simpa using hSI) hS;have hf1:=hk' f _ (by simpa using b_ amr) (kp f _ hfo);obtain⟨oI',hoI',hoc,hod⟩:=id hst'.1;show ah _ X.A.in1 (tryCatch (d3 [u] (call (.ref f) [u])) _ >>= _) _ _ _;refine af (k_ (ez (d6 (turn 0 v u _ H hv ru I2 pv hf1) (fun x s'' he=>?_) fun _ _ hF=>hF.elim)));obtain⟨t2,H2,rfl,os2,ba2,un2,ok2,pv2⟩:=he;have I3:Inv X pins σ H2 s'':=I2.call' (ch:=[]) os2 un2 ok2 ba2 (fun b z=>absurd z (by simp));obtain⟨hS2,fS2⟩:=Ea I2 fS hS1 un2;obtain⟨hI2,fi2⟩:=Ea I2 fi hoI' un2;obtain⟨hf2,ajd⟩:=hf H H2 _ s'' I2 hf1 un2 hfn;refine af ?_;refine il hS2 rfl ?_;rw[hname];have kp3:∀b o,b∉[(s.heap.push O).objs.size]->s''.heap.get? b=some o->(s''.heap.update (s.heap.push O).objs.size (c_ fun _=>#[u,.int (kf 0) t2])).get? b=some o:=fun b o hb e=>(fF _ _ (fun z:(s.heap.push O).objs.size=b=>hb (by simp[z]))).trans e;have I4:Inv X pins σ H2 { s'' with heap:=s''.heap.update (s.heap.push O).objs.size (c_ fun _=>#[u,.int (kf 0) t2]),toks:=s''.toks }:=I3.vI (ch:=[(s.heap.push O).objs.size]) kp3 (fun b hb=>by rw[dP.mp hb];exact fS2);have hfS:f≠(s.heap.push O).objs.size:=fun z=>absurd amr (by rw[z,sz];exact Nat.not_lt.mpr (n6 _));refine ax ⟨gN k9 _,ajb (kf:=kf) (Pv:=Pv) (fo:=fo) hc hSI hl turn hf (b_ amr) hfS (fun H s v u I pv e r=>hQ H s v u I pv e r) (xs.length - (0 + 1)) 0 H2 _ v u t2 _ rfl h0 I4 pv2 ajd fi2 fS2 (kp3 f _ (by simpa using hfS) hf2) ⟨oI',kp3 _ _ (by simpa using hSI.symm) hI2,hoc,hod⟩ hv ru (fE _ hS2 rfl)⟩
end
section
variable{X:Cx}{pins:List (ab×Obj)}{σ:St}{H:Hp}{s:ae}
theorem CG{pos:Pos}{l:List aa}{a b:Int}{ta tb:Tok}{c:aa}(h:TriplesOk l){v:aa}(e:lj pos (l++[.int a ta,.int b tb,c])=some v):lj pos l=some v∨v=c:=by
 fun_induction TriplesOk l with
 |case1 =>
  simp only[sk,lj]at e;split at e
  ·exact .inr (c9 e).symm
  ·cases e
 |case2 i t j u d rest ih =>
  simp only[vx,lj]at e ⊢;split at e
  ·rename_i hc;rw[if_pos hc];exact .inl e
  ·rename_i hc;rw[if_neg hc];exact ih h e
 |case3=>exact h.elim
theorem Ov{l:List aa}{a b:Int}{ta tb:Tok}{c:aa}(h:TriplesOk l):TriplesOk (l++[.int a ta,.int b tb,c]):=by
 fun_induction TriplesOk l with
 |case1=>trivial
 |case2 i t j u d rest ih=>exact ih h
 |case3=>exact h.elim
structure Made (X:Cx)(pins:List (ab×Obj))(σ:St)(H:Hp)(P:ab)(q:Str)(params:lS)(body:ag)(sc:Scope)(f c':ab)(pm ctv:aa)(H':Hp)(s':ae):Prop where
 inv:Inv X pins σ H' s'
 hs:H'=H∨∃a,H a=none/\H'=upd H a (.RK q)
 RK:H' c'=some (.RK q)
 obj:s'.heap.get? f=some (kla_obj "<lambda>" q params body sc (gj sc X.env) pm c' ctv)
 fn:H' f=none
 ff:f∉qp X.stack
theorem afS{P c:ab}{q:Str}{params:lS}{body:ag}{sc:Scope}{pos:Pos}(I:Inv X pins σ H s) (hP:H P=some (.tab q)) (hcode:X.env.code=.ref c) (hhd:iE X.K c P=true) (hq:X.env.qual++("<lambda>":Str)=q) (hex:X.ex=[])
  (hcl:closureFor sc X.env=pure (gj sc X.env)) (hdef:defaultsOf params X.env=([],[]))
  {R:aa->ae->Prop}(hR:∀f c' pm ctv H' s',Made X pins σ H P q params body sc f c' pm ctv H' s'->R (.ref f) s') :
  ah (ar X.prog X.w) X.A (a_ (.Lambda params body sc pos) X.env) R X.xe s:=by
 refine kla_eval hdef ?_;rw[hq];have hgs:s.heap.Ns b0 X.mg:=I.ok.mod.glob.keeps I.bk;have C:CodeHd s.heap c P:=codeHd_of_K I.Xq hhd;obtain⟨ps,e1,e2,e3⟩:=(show fY X.prog X.w H s.heap P (.tab q) from I.hok P _ hP)
 obtain⟨bm,ob,b1,b2,b3,b4,b5,b6⟩:=I.ok.mod.bm;have b3s:=I.bk _ _ b3;have hgP:b0≠P:=fun z=>by obtain⟨o,es,ep,e,hd,_⟩:=hgs;rw[z,e1]at e;cases e;cases hd
 have hbP:bm≠P:=fun z=>by rw[z,e1]at b3s;cases b3s;cases b4
 have hbG:bm≠b0:=fun z=>by obtain⟨o,es,ep,e,hd,_⟩:=hgs;rw[z,e]at b3s;cases b3s;rw[hd]at b6;cases b6
 have hB:s.heap.BuiltinsAt X.mg P:=⟨bm,ob,b1,b2,hbG,hbP,b3s,b4,b5,b6⟩
 have ady:∀{b:ab},s.heap.objs.size<=b->b∉qp X.stack:=fun {b} hb z=>by
  rcases bP.mp (I.wJ b z) with z|z
  ·exact absurd I.lt (by rw[<- z];exact Nat.not_lt.mpr hb)
  ·exact I.ady hb z
 cases ca:lj pos ps.toList with
 |some v =>
  obtain⟨c',rfl,hc'⟩:=e3 pos v ca;refine kla_makeFunctionHit (mg:=X.mg) hcl I.ok.glob hgs hcode C e1 e2 ca hB fun ctv h' tk hk hsz=>?_;have hk2:∀b o,s.heap.get? b=some o->(h'.push { cls:=.type "function",data:=.func (kla_fn "<lambda>" q params body sc (gj sc X.env) ((X.mg "__name__").getD .none) (.ref c') ctv) }).get? b=some o:=fun b o e=>cb _ (hk b o e);exact hR _ c' _ ctv H _ ⟨I.kept (t':=tk) hk2,.inl rfl,hc',cS _ rfl,I.hok.fresh hsz,ady hsz⟩
 |none =>
  refine kla_makeFunction (mg:=X.mg) hcl I.ok.glob hgs hcode C e1 e2 ca hgP hB fun c' ctv h' tk hx hge hlt hrec htb=>?_;have hsz:s.heap.objs.size<=h'.objs.size:=cz hge (fR hlt);have hcn:H c'=none:=I.hok.fresh hge;have hcP:c'≠P:=fun z=>by rw[z,hP]at hcn;cases hcn
  obtain⟨c2,oc,vs,t,ec,hoc,hod,hv⟩:=hrec;cases ec
  let O:Obj:=kla_obj "<lambda>" q params body sc (gj sc X.env) ((X.mg "__name__").getD .none) c' ctv
  have up:∀b u,H b=some u->upd H c' (.RK q) b=some u:=fun b u e=>by rw[bh (bf e hcn)];exact e
  have hk2:∀b o,b≠P->s.heap.get? b=some o->(h'.push O).get? b=some o:=fun b o hb e=>cb _ (hx b o hb e);have apd:(h'.push O).get? P=some (tabObj (ps++#[cE pos.line,cE pos.col,.ref c'])):=cb _ htb;have un:Un (qp X.stack) [] H (upd H c' (.RK q)) s.heap (h'.push O):=by
   have old:∀b o,s.heap.get? b=some o->b≠c':=fun b o e=>b_ (et (bq e) hge);refine⟨fun b o e n _ _=>hk2 b o (fun z=>by rw[z,hP]at n;cases n) e,fun b o e n _ _=>⟨o.slots,hk2 b o (fun z=>by rw[z,hP]at n;cases n) e⟩,fun b o e n _=>by rw[bh (old b o e)];exact n,fun b o e _=>?_,fun b xs e=>up b _ e,fun b o u e=>up b _ e,fun b ps' e=>⟨#[],by rw[up b _ e];simp⟩⟩;by_cases hb:b=P
   ·subst hb;exact⟨_,apd⟩
   ·exact⟨o,hk2 b o hb e⟩
  have ok:zK X.prog X.w (upd H c' (.RK q)) (h'.push O):=fun b u e=>by
   by_cases hbc:b=c'
   ·subst hbc;rw[bH]at e;cases e;exact⟨oc,vs,t,cb _ hoc,hod,hv⟩
   ·rw[bh hbc]at e;by_cases ape:b=P
    ·subst ape;rw[hP]at e;cases e;refine⟨_,apd,?_,fun pos' v' e'=>?_⟩
     ·rw[i0];exact Ov e2
     ·rw[i0]at e';rcases CG e2 e' with e'|e'
      ·obtain⟨c3,h1,h2⟩:=e3 pos' v' e';exact⟨c3,h1,up _ _ h2⟩
      ·exact⟨c',e',bH⟩
    ·refine(I.hok b u e).stay (fun c3 v3 h3 e3'=>hk2 c3 v3 (fun z=>?_) e3') (fun c3 e3'=>up _ _ e3') (fun c3 xs e3'=>up _ _ e3') fun c3 q3 e3'=>up _ _ e3';subst z;rcases h3 with h3|h3
     ·exact ape h3.symm
     ·rw[hP]at h3;cases h3
  have I2:Inv X pins σ (upd H c' (.RK q)) { s with heap:=h'.push O,toks:=tk }:=I.call' (ch:=[]) rfl un ok I.bare (fun b z=>absurd z (by simp));refine hR _ c' _ ctv _ _ ⟨I2,.inr ⟨c',hcn,rfl⟩,bH,cS _ rfl,?_,ady hsz⟩;rw[bh (lz hlt)];exact I.hok.fresh hsz
end
def H0(ts:List (ab×Str))(K:ai)(a:ab)(o:HO):Hp:=fun b=>match ts.lookup b with
 |some q=>some (.tab q)
 |none=>if b=a/\K.lookup a=none then some o else none
theorem afT:∀{l:List (ab×Str)}{b:ab}{q:Str},l.lookup b=some q->(b,q)∈l
 | [],_,_,h=>by cases h
 | (c,r)::l,b,q,h=>by
  by_cases e:b=c
  ·subst e;rw[mo]at h;cases h;exact dA
  ·rw[j3,show(b == c)=false by simpa using e]at h;exact dS _ (afT h)
theorem acz{P:aE}{w:az}{K:ai}{mg mb:Str->Option aa}{k:Nat}{fa a:ab}{fd:ck}{x:Str}{v:List D->Rs D}{s₁:ae}{vs:List aa}{ns:List Int}{ts:List (ab×Str)}
  (KX:K.In s₁.heap) (hns:s₁.heap.Ns b0 mg) (hb:s₁.heap.Ns builtinsNs mb) (hbb:∀x:Str,x≠"__name__"->mb x=hG x) (hlim:s₁.heap.NoLimit) (hbm:∃bm ob,mg "__builtins__"=some (.ref bm)/\bm≠builtinsNs/\s₁.heap.get? bm=some ob/\ob.cls=.type "module"/\ob.dict=some builtinsNs/\ob.data=.plain) (hg:s₁.gens=#[])
  (ha:s₁.heap.get? a=some { cls:=.type "list",data:=.seq vs.toArray }) (hi:PyProof.Rows.IntsAre vs ns) (hl:ns.length<=sizeLine) (hr:lK k md)
  (F:∀base:Heap,K.In base->base.Ns b0 mg->Im P w K mg base (Ii P w K) k fa fd [x] (spV K 1 v)) (hbind:∀(s:ae) (u:aa),lI s fd ⟨[u],[]⟩ [(x,u)])
  (hts:adO K=ts) (nd:(ts.map (·.1)).Nodup) (hK0:∀y∈ts,K.lookup y.1=none) (htab:∀y∈ts,s₁.heap.get? y.1=some (tabObj #[])) (hct:∀y∈ts,isCodeTable s₁.heap y.1) (hv:v [.lst (ns.map D.int)]=.ok (.bl true)) :
  f7 (ar P w) md (.call (.ref fa) ⟨[.ref a],[]⟩) (fun r s'=>r=.ok (.ret (.bool true))/\OldK s₁.heap s'.heap/\s'.os=s₁.os/\p8 s'.gens) s₁:=by
 have rv:=vo hi;have lenV:=hi.length
 let o0:HO:=.Ik { cls:=.type "list",data:=.seq vs.toArray } (.lst (ns.map V.int))
 let H:Hp:=H0 ts K a o0
 have lk:∀{b:ab}{q:Str},ts.lookup b=some q->(b,q)∈ts:=fun h=>afT h;have lkm:∀{y:ab×Str},y∈ts->ts.lookup y.1=some y.2:=fun {y} hy=>by
  clear hts hK0 htab hct lk
  induction ts with
  |nil=>cases hy
  |cons z ts ih =>
   rw[cn,ka]at nd;rcases bP.mp hy with e|hy2
   ·subst e;obtain⟨y1,y2⟩:=y;exact mo
   ·have ne:y.1≠z.1:=fun e=>nd.1 (e▸k8 hy2);obtain⟨z1,z2⟩:=z;rw[j3,show(y.1 == z1)=false by simpa using ne];exact ih nd.2 hy2
 have abg:∀{b:ab}{u:HO},H b=some u->(∃q,(b,q)∈ts/\u=.tab q)∨(b=a/\K.lookup a=none/\u=o0):=fun {b u} e=>by
  have e':(match ts.lookup b with|some q=>some (HO.tab q)|none=>if b=a/\K.lookup a=none then some o0 else none)=some u:=e;cases h:ts.lookup b with
  |some q=>rw[h]at e';exact .inl ⟨q,lk h,(c9 e').symm⟩
  |none =>
   rw[h]at e';dsimp only at e';by_cases c:b=a/\K.lookup a=none
   ·rw[if_pos c]at e';exact .inr ⟨c.1,c.2,(c9 e').symm⟩
   ·rw[if_neg c]at e';cases e'
 have hok:zK P w H s₁.heap:=fun b u e=>by
  rcases abg e with ⟨q,hq,rfl⟩|⟨rfl,_,rfl⟩
  ·exact⟨#[],htab _ hq,trivial,fun pos v z=>by cases z⟩
  ·exact⟨ha,by rw[cf];exact hl,vs,_,rv,ha⟩
 have Ow:∀{b:ab}{o:Obj},s₁.heap.get? b=some o->H b=none->(Mt s₁.heap H).get? b=some o:=fun e n=>adx e n;have akj:∀{b:ab}{o:Obj},s₁.heap.get? b=some o->(∀vs n,o.data≠.seq vs n)->(∀vs,o.data≠.fields vs)->H b=none:=fun {b o} e d1 d2=>by
  cases q:H b with
  |none=>rfl
  |some u =>
   rcases abg q with ⟨q',hq,rfl⟩|⟨rfl,_,rfl⟩
   ·have:=htab _ hq;rw[e]at this;cases this;exact(d2 _ rfl).elim
   ·rw[ha]at e;cases e;exact(d1 _ _ rfl).elim
 have nsK:∀{b:ab}{m:Str->Option aa},s₁.heap.Ns b m->(Mt s₁.heap H).Ns b m:=fun {b m} ⟨o,es,ep,e,d,r⟩=>⟨o,es,ep,Ow e (akj e (fun _ _ z=>by rw[d]at z;cases z) (fun _ z=>by rw[d]at z;cases z)),d,r⟩
 have hKb:K.In (Mt s₁.heap H):=fun b o e=>Ow (KX b o e) (by
  cases q:H b with
  |none=>rfl
  |some u =>
   rcases abg q with ⟨q',hq,rfl⟩|⟨rfl,hk,rfl⟩
   ·rw[hK0 _ hq]at e;cases e
   ·rw[hk]at e;cases e)
 have hM:Mod K mg (Mt s₁.heap H):=⟨hKb,nsK hns,⟨mb,nsK hb,hbb⟩,let ⟨mc,h1,h2⟩:=hlim;⟨mc,nsK h1,h2⟩,let ⟨bm,ob,e1,e2,e3,e4,e5,e6⟩:=hbm;⟨bm,ob,e1,e2,Ow e3 (akj e3 (fun _ _ z=>by rw[e6]at z;cases z) (fun _ z=>by rw[e6]at z;cases z)),e4,e5,e6⟩⟩
 have e0:ahx P w K mg (Mt s₁.heap H) md [] s₁ H:=⟨rfl,hM,fun b o e=>ahn e,Nat.le_of_eq (abt _ _),trivial,fun b hb=>absurd (show b∈([]:List ab) from hb) (by simp),hok,.of_eq hg⟩
 have hS:tL K H a (ns.map V.int):=by
  cases hk:K.lookup a with
  |some o =>
   have e:=KX a o hk;rw[ha]at e;cases e;exact .inr ⟨_,vs.toArray,_,hk,rfl,rfl,rfl,by rw[cK,lenV];exact hl,by simpa using rv⟩
  |none =>
   refine .inl (.inr ⟨{ cls:=.type "list",data:=.seq vs.toArray },?_⟩);show(match ts.lookup a with|some q=>some (HO.tab q)|none=>if a=a/\K.lookup a=none then some o0 else none)=_;cases h:ts.lookup a with
   |some q=>have:=htab _ (lk h);rw[ha]at this;cases this
   |none=>dsimp only;rw[if_pos ⟨rfl,hk⟩]
 have hco:Cok K H:=fun y hy=>by rw[hts]at hy;show(match ts.lookup y.1 with|some q=>some (HO.tab q)|none=>_)=_;rw[lkm hy]
 have tp0:∀b xs,H b=some (.tup xs)->(fun b=>match H b with|some (.tab _)=>none|u=>u) b=some (.tup xs):=fun b xs e=>by dsimp only;rw[e]
 have hsp:spV K 1 v [.ref a] H (fun u H'=>u=.bl true/\∀y∈ts,H' y.1=some (.tab y.2)) (fun _ _ _=>False):=by
  let G:Hp:=fun b=>match H b with|some (.tab _)=>none|u=>u
  have gh:Same G H:=fun b u e=>by
   have e':(match H b with|some (.tab _)=>none|u=>u)=some u:=e;cases q:H b with
   |none=>rw[q]at e';cases e'
   |some z =>
    rw[q]at e';cases z with
    |tab _=>cases e'
    |_=>exact e'
  have hSG:tL K G a (ns.map V.int):=by
   rcases hS with (h|⟨o,h⟩)|h
   ·refine .inl (.inl ?_);show(match H a with|some (.tab _)=>none|u=>u)=_;rw[h]
   ·refine .inl (.inr ⟨o,?_⟩);show(match H a with|some (.tab _)=>none|u=>u)=_;rw[h]
   ·exact .inr h
  refine⟨rfl,G,[.lst (ns.map D.int)],⟨.refl gh tp0,hco⟩,bI.one (aY.mpr ⟨a,_,rfl,hSG,vA ns⟩),?_⟩;rw[hv];exact fun u H' G' e r=>⟨bL.mp r,fun y hy=>e.hh _ _ (hco y (by rw[hts];exact hy))⟩
 refine me ((F _ hKb (nsK hns)).run md [] s₁ H ⟨[.ref a],[]⟩ [.ref a] [.ref a] _ _ hr e0 (hbind s₁ (.ref a)) (.cons rfl .nil) hsp) fun r s' h=>?_;cases r with
 |error e =>
  obtain⟨_,_,_,_,_,_,_,_,_,_,z⟩:=h;exact z.elim
 |ok fl =>
  cases fl with
  |next=>exact f_ h
  |brk=>exact f_ h
  |cont=>exact f_ h
  |ret u =>
   obtain⟨v',H',os,bare,un,hok',r',q,qt⟩:=h;subst q;obtain rfl:u=aa.bool true:=r';have keep:∀b o,s₁.heap.get? b=some o->(∀q,(b,q)∉ts)->s'.heap.get? b=some o:=fun b o e nt=>by
    cases q:H b with
    |none=>exact un.keep b o e q (by intro z;exact absurd (show b∈([]:List ab) from z) (by simp)) (by simp)
    |some u =>
     rcases abg q with ⟨q',hq,rfl⟩|⟨rfl,hk,rfl⟩
     ·exact(nt q' hq).elim
     ·have z2:=un.Ef b _ _ q;obtain⟨e2,_⟩:=hok' b _ z2;rw[ha]at e;cases e;exact e2
   refine⟨rfl,⟨fun b o e=>?_,fun b o e=>un.there b o e (by simp)⟩,os,bare⟩;by_cases c:∃q,(b,q)∈ts
   ·obtain⟨q,hq⟩:=c;have e1:=htab _ hq;rw[e]at e1;cases e1;obtain⟨ps,e2,_⟩:=(show fY P w H' s'.heap b (.tab q) from hok' b _ (qt _ hq))
    exact .inr (.inl ⟨hct _ hq,rfl,#[],ps,rfl,by rw[e2];simp⟩)
   ·exact .inl (keep b o e fun q hq=>c ⟨q,hq⟩)
theorem Ox{K:ai}{h:Heap}{c P:ab}(X:K.In h)(e:iE K c P=true):isCodeTable h P:=by obtain⟨o,vs,_,_,_,_,_,_,_,h1,h2,h3,h4,_⟩:=codeHd_of_K X e;exact⟨c,o,vs,h1,h2,h3,h4⟩
theorem aje{l:l_}{k:Nat}{q:aE}{loose:List Str}{XP:(Str->Option aa)->Heap->Prop}{YP:az->Heap->Prop}{d:DefRec}{K:Params->Frag}{v:List D->Rs D}{ts:List (ab×Str)}(hn:l.most=some 63)(hdf:d.params.defaults=[])(hr:lK k md)
  (hY:∀(w:az) (h:Heap),YP w h->(K w.params).In h) (hT:∀(w:az) (h:Heap),YP w h->∀y∈ts,h.get? y.1=some (tabObj #[])) (nd:(ts.map (·.1)).Nodup) (arH:∀w:az,adO (K w.params)=ts) (hK0:∀w:az,∀y∈ts,(K w.params).lookup y.1=none) (hcd:∀w:az,∀y∈ts,∃c,iE (K w.params) c y.1=true)
  (hv:∀ns:List Int,ns.length<=63->v [.lst (ns.map D.int)]=.ok (.bl true))
  (F:∀(w:az) (mg:Str->Option aa) (fa:ab) (h:Heap),(K w.params).In h->h.Ns b0 mg->mg d.name=some (.ref fa) ->
   ∃fd:ck,(∀(s:ae) (u:aa),lI s fd ⟨[u],[]⟩ [("script",u)])/\∀base:Heap,(K w.params).In base->base.Ns b0 mg->Im l.prog w (K w.params) mg base (Ii l.prog w (K w.params)) k fa fd ["script"] (spV (K w.params) 1 v)) :
  WalkO q loose XP YP l.row.toRowW d [] (fun f vs=>PySem.call f vs):=by
 refine Att.Sw hn hdf fun w s₀ s₁ mg mb fa o pm cd doc a vs ns G Y ho hd hcd' hmg hobj hints hlen hg=>?_;have KX:=hY w _ Y;obtain⟨fd,hb,hF⟩:=F w mg fa _ KX G.T.g hmg;exact acz KX G.T.g G.T.b G.T.builtins G.T.nolimit G.T.bmain hg hobj hints (cz hlen (by decide)) hr hF hb (arH w) nd (hK0 w) (hT w _ Y) (fun y hy=>let ⟨c,e⟩:=hcd w y hy;Ox KX e) (hv ns hlen)
def mz(d:D)(caps:List Nat)(ρ:au):au:=.fz d::caps.map fun i=>match ρ[i]? with|some (Sl.fz e)=>Sl.fz e|_=>Sl.no
def uL(fb:au->Rs D)(caps:List Nat)(ρ:au):List D->Rs (List Int)
 | []=>.ok []
 |d::ds=>match fb (mz d caps ρ) with
  | .ok (.int k)=>(uL fb caps ρ ds).bind fun ks=>.ok (k::ks)
  |_=>.no
def Vg(ks:List Int):Nat:=fy (btG fun j=>(ks[j]?).getD 0) (ks.length - 1)
def Vh(caps:List Nat)(fa fb fd:au->Rs D):au->Rs D:=fun ρ=>match fa ρ with
 | .ok (.lst ds)=>(match fd ρ with
  | .ok dd=>(match uL fb caps ρ ds with
   | .ok ks=>.ok ((ds[Vg ks]?).getD dd)
   |_=>.no)
  |_=>.no)
 |_=>.no
theorem LQ{fb:au->Rs D}{caps:List Nat}{ρ:au}:∀{ds:List D}{ks:List Int},uL fb caps ρ ds=.ok ks->ks.length=ds.length
 | [],ks,h=>by cases h;rfl
 |d::ds,ks,h=>by
  simp only[uL]at h;split at h
  ·cases e:uL fb caps ρ ds with
   |ok ks'=>rw[e]at h;cases h;simp[LQ e]
   |ex c n=>rw[e]at h;cases h
   |no=>rw[e]at h;cases h
  ·cases h
theorem LR{fb:au->Rs D}{caps:List Nat}{ρ:au}:∀{ds:List D}{ks:List Int}{j:Nat}{d:D},uL fb caps ρ ds=.ok ks->ds[j]?=some d->fb (mz d caps ρ)=.ok (.int ((ks[j]?).getD 0))
 | [],ks,j,d,h,e=>by simp at e
 |d::ds,ks,j,d',h,e=>by
  simp only[uL]at h;split at h
  ·rename_i k hk;cases e2:uL fb caps ρ ds with
   |ok ks' =>
    rw[e2]at h;cases h;cases j with
    |zero=>simp at e;subst e;simpa using hk
    |succ j=>simpa using LR e2 (by simpa using e)
   |ex c n=>rw[e2]at h;cases h
   |no=>rw[e2]at h;cases h
  ·cases h
section
variable{X:Cx}{B:Bs}{W:Wi}{K:ai}
theorem Gw{d:D}{caps:List Nat}{ρ:au}:Tj (mz d caps ρ):=fun i z q w=>by
 unfold mz at q;cases i with
 |zero=>cases q;cases w
 |succ i =>
  rw[sm,cw]at q;cases e:caps[i]? with
  |none=>rw[e]at q;cases q
  |some k =>
   rw[e]at q;have q':(match ρ[k]? with|some (.fz d)=>Sl.fz d|_=>.no)=z:=c9 q;split at q' <;> (subst q';cases w)
theorem ams{σ:St}{H G:Hp}{ρ:au}{caps:List Nat}{d:D}{v:V}(s:SR K B σ H ρ G)(r:Rep K G d v):SR K ⟨G,H,0⟩ (zZ v caps σ) H (mz d caps ρ) G:=by
 refine⟨s.wL,by simp[zZ,mz],fun i d q=>?_,fun i z q w=>(Gw i z q w).elim,fun i j z z' a q w=>(Gw i z q w).elim,fun i ds a q=>(Gw i _ q rfl).elim,s.co⟩;unfold mz at q;unfold zZ;cases i with
 |zero=>cases q;exact⟨v,rfl,r⟩
 |succ i =>
  rw[sm,cw]at q;rw[sm,cw];cases e:caps[i]? with
  |none=>rw[e]at q;cases q
  |some k =>
   rw[e]at q;have q':(match ρ[k]? with|some (.fz d)=>Sl.fz d|_=>.no)=.fz d:=c9 q;cases e2:ρ[k]? with
   |none=>rw[e2]at q';cases q'
   |some z =>
    rw[e2]at q';cases z with
    |fz d' =>
     cases q';obtain⟨v,h1,h2⟩:=s.fz k _ e2;exact⟨v,by simp[h1],h2⟩
    |no=>cases q'
    |ow _=>cases q'
    |od _=>cases q'
    |op _=>cases q'
theorem Inv.arI{pins:List (ab×Obj)}{σ:St}{H:Hp}{s:ae}{f:ab}{o:Obj}(I:Inv X pins σ H s)(h1:s.heap.get? f=some o)(h2:H f=none)(h3:f∉qp X.stack)(h4:f≠X.env.locals)(h5:∀v,o.data≠.cell v)(hfs:f∉X.fs):Inv X ((f,o)::pins) σ H s :=
 I.Dt fun p hp=>by
  rcases bP.mp hp with e|hp
  ·subst e;exact⟨h1,h2,h4,hfs,h5⟩
  ·exact I.pin p (eA _ hp)
theorem ajf{a body ed:ag}{params:lS}{sc:Scope}{lp p pos k1 k2:Pos}{P c:ab}{q pn:Str}{Nc:List Str}{caps:List Nat}{fa fb fd:au->Rs D}{k:Nat}
  (hc:X.calm=true) (hex:X.ex=[]) (hr:lK k X.A) (hm:X.mg "max"=none) (hg:Gl X "max") (ha:SE X B W a fa) (hd:SE X B W ed fd)
  (cp:wQ X sc (pn::Nc) 1 caps) (hp:sc.names.lookup pn=some .local)
  (hb:∀s H f cd B',SE (amq X X.A.in1 (pn::Nc) s H q sc f cd) B' WF body fb)
  (hP:(P,q)∈adO X.K) (hcode:X.env.code=.ref c) (hhd:iE X.K c P=true) (hq:X.env.qual++("<lambda>":Str)=q)
  (hdef:defaultsOf params X.env=([],[])) (hco:sc.isCoroutine=false) (hgen:sc.isGenerator=false)
  (hbind:∀(pm ctv u:aa) (c':ab),bindArgs (kla_fn "<lambda>" q params body sc (gj sc X.env) pm (.ref c') ctv) ⟨[u],[]⟩=pure [(pn,u)])
  (hst:ba [a] X.env=[(false,a_ a X.env)]:=by rfl)
  (he:di pos (ba [a] X.env)=(false,a_ a X.env)::di pos (ba [] X.env):=by rfl)
  (hplain:(di pos (ba [a] X.env)).any (·.1)=false:=by rfl)
  (hall:(jI pos (jS [⟨some "key",.Lambda params body sc lp,k1⟩,⟨some "default",ed,k2⟩] X.env)).all (·.1.isSome)=true:=by rfl)
  (hkw:(jI pos (jS [⟨some "key",.Lambda params body sc lp,k1⟩,⟨some "default",ed,k2⟩] X.env)).any (·.1.isNone)=false:=by rfl)
  (hnm:(jI pos (jS [⟨some "key",.Lambda params body sc lp,k1⟩,⟨some "default",ed,k2⟩] X.env)).filterMap (·.1)=[("key":Str),("default":Str)]:=by rfl) :
  SE X B W (.Call (.Name "max" p) [a] [⟨some "key",.Lambda params body sc lp,k1⟩,⟨some "default",ed,k2⟩] pos) (Vh caps fa fb fd):=by
 intro pins s σ H Q I ⟨ρ,G,sr,h⟩;unfold Vh at h;cases ea:fa ρ with
 |no=>rw[ea]at h;exact h.elim
 |ex _ _=>rw[ea]at h;exact h.elim
 |ok da =>
  rw[ea]at h;cases da with
  |lst ds =>
   dsimp only at h;cases ed':fd ρ with
   |no=>rw[ed']at h;exact h.elim
   |ex _ _=>rw[ed']at h;exact h.elim
   |ok dd =>
    rw[ed']at h;dsimp only at h;cases ek:uL fb caps ρ ds with
    |no=>rw[ek]at h;exact h.elim
    |ex _ _=>rw[ek]at h;exact h.elim
    |ok ks =>
     rw[ek]at h;dsimp only at h;have pst:∀v H' G',Ext G H G' H'->Rep X.K G' ((ds[Vg ks]?).getD dd) v->Q v H':=h;refine nX (wK I hg hm rfl ?_ (by decide) (by decide));refine PyProof.Rows.callWith_kw ?_ he hplain hall hkw;rw[hnm];refine jc (dY ha jr hst pos pins s σ H (fun vs H1=>∃v G1,vs=[v]/\Ext G H G1 H1/\Rep X.K G1 (.lst ds) v) I ⟨ρ,G,sr,?_⟩) fun us s1 ⟨vs,H1,I1,r1,v1,G1,e1,x1,rp1⟩=>?_
     ·rw[ea];exact fun v H1 G1 x r=>⟨v,G1,rfl,x,r⟩
     subst e1;obtain⟨l,xs,rfl,hl,rxs⟩:=aY.mp rp1;cases r1 with|cons rl r1 =>
     cases r1;cases rl;have sr1:=sr.ext x1;refine PyProof.Rows.kws_cons (afS I1 (sr1.co _ hP) hcode hhd hq hex (tu (cp.cells I1)) hdef fun f c' pm ctv H2 s2 M=>?_);have x2:Ext G1 H1 G1 H2:=by
      rcases M.hs with e|⟨a',n,e⟩
      ·rw[e];exact sr1.wL
      ·rw[e];exact aar sr1.en.gh sr1.en.tp (fun _ z=>by cases z) n
     have sr2:=sr1.ext x2;have hfs:f∉X.fs:=fun z=>M.ff (by
      rcases I.ok.stk with e|⟨e,_⟩
      ·rw[e];exact z
      ·rw[e];unfold qp;rw[ll];split
       ·exact z
       ·exact dS _ z)
     have hfl:f≠X.env.locals:=fun z=>by obtain⟨m,⟨o,es,ep,e,d,_⟩,_⟩:=M.inv.loc;have:=M.obj;rw[z,e]at this;cases this;cases d
     have I2:=Inv.arI M.inv M.obj M.fn M.ff hfl (fun v z=>by cases z) hfs;refine PyProof.Rows.kws_cons (jc (hd _ s2 σ H2 (fun v H3=>∃G3,Ext G1 H2 G3 H3/\Rep X.K G3 dd v) I2 ⟨ρ,G1,sr2,?_⟩) fun u3 s3 ⟨v3,H3,I3,r3,G3,x3,rp3⟩=>?_)
     ·rw[ed'];exact fun v H3 G3 x r=>⟨G3,x,r⟩
     refine PyProof.Rows.kws_nil ?_;have sr3:=sr2.ext x3;have x03:Ext G H G3 H3:=(x1.trans x2).trans x3;have hf3:=I3.pin (f,_) (eA _ dA);have I4:Inv X pins σ H3 s3:=I3.Dt fun p hp=>I3.pin p (eA _ (dS _ hp));have hl3:tL X.K G3 l xs:=Same.seq (x2.gg.trans x3.gg) hl;have apg:bI X.K G3 ds xs:=rxs.mono (x2.gg.trans x3.gg);have hlen:ks.length=xs.length:=by rw[LQ ek,rxs.length]
     refine acy (kf:=fun j=>(ks[j]?).getD 0) (xs:=xs) (Pv:=fun H'=>∃G',Ext G3 H3 G' H') hc I4 ⟨G3,sr3.wL⟩ (fun H' ⟨G',x⟩=>Same.seq (x.gg.trans x.gh) hl3) (fun j v u s' H' hj rv I' pv ho=>?_) hf3.1 hf3.2.1 M.ff (fun hn H' s' I' ⟨G',x⟩=>?_) fun H' s' v u I' ⟨G',x⟩ hv ru=>?_
     ·obtain⟨G',x'⟩:=pv;obtain⟨d,hdj,rd⟩:=apg.get' hj;have akv:H' c'=some (.RK q):=x'.hh _ _ (x3.hh _ _ M.RK);obtain⟨oc,vs,t,hoc,hod,hov⟩:=(show fY X.prog X.w H' s'.heap c' (.RK q) from I'.hok c' _ akv)
      refine afQ (A:=X.A.in1) (t:=tF X.K ⟨G',H',0⟩ WF fb) (Q:=fun w Sx=>w=.int ((ks[j]?).getD 0)/\∃G'',Ext G3 H3 G'' Sx) cp hp I' rv hr.hd I'.ok.frames hr.depth hco hgen ho ⟨c',oc,vs,t,rfl,hoc,hod,hov⟩ (hbind _ _ _ _) (hb _ _ _ _ _) ⟨mz d caps ρ,G',ams (sr3.ext x') (rd.mono x'.gg),?_⟩ fun r s'' ⟨w,Sx,h1,h2,h3,h4,h5,h6,h7⟩=>?_
      ·rw[LR ek hdj];exact fun w Sx G'' x r=>⟨aM.mp r,G'',x'.trans x⟩
      ·subst h6;obtain⟨t,rfl⟩:=h5;exact⟨t,Sx,rfl,h1,h2,h3,h4,h7⟩
     ·subst hn;have:ds=[]:=by have:=rxs.length;simpa using this
      subst this;exact⟨v3,H',I',r3,pst v3 H' G' (x03.trans x) (by simpa using rp3.mono x.gg)⟩
     ·obtain⟨d,hd1,hd2⟩:=apg.get' hv;have:ds[Vg ks]?=some d:=by unfold Vg;rw[hlen];exact hd1
      exact⟨v,H',I',ru,pst v H' G' (x03.trans x) (by rw[this];exact hd2.mono x.gg)⟩
  |_=>exact h.elim
end
end Vl
namespace Dk
open PySem PySem.Spec
section
variable{prog:aE}{w:az}{A:aS}{E:aa->ae->Prop}{s:ae}{es:Array kP}{ep:Nat}{D:ab}
theorem ajg{R:Result->ae->Prop}(hh:A.handled=none) (hd:(D == gp)=false) (ho:qJ s.heap D es ep) (hn:es.size<=1000) (S:ab) (res:aa) (c₀:Nat) (hDS:D≠S) (hS:s.heap.get? S=some { cls:=.type "list",data:=.seq #[] c₀ })
  (hR:∀h' tk acc' c',(∀b o,b≠S->s.heap.get? b=some o->h'.get? b=some o)->h'.get? S=some { cls:=.type "list",dict:=none,data:=.seq acc' c',slots:=#[] } ->
   ItemsOf (fun i v=>∃e,es[i]?=some e/\v=e.key) acc' es.size->R (.ok (.ret res)) { s with heap:=h',toks:=tk }) :
  ah (ar prog w) A.in1 (kz (.ref S) (.ref D) res)
   (fun gB s'=>match gB with|.done f=>R (.ok f) s'|.again c'=>c'.quiet=true/\f7 (ar prog w) A c' R s') (fun e s'=>R (.error e) s') s:=by
 have hSlt:S < s.heap.objs.size:=bq hS;have uo:D < s.heap.objs.size:=by obtain⟨o,e,_⟩:=id ho;exact bq e
 have W:=(afu (prog:=prog) (w:=w) (A:=A.in1) (d:=D) (it:=s.heap.objs.size) (es:=es) (ep:=ep) (by simpa using hh) (b_ uo)).toS;have hSf:S∉[s.heap.objs.size,D]:=by simp only[bP,gS,or_false,not_or];exact⟨b_ hSlt,dQ hDS⟩
 have key:∀(h:Heap) (c₁ tk:Nat),h.get? s.heap.objs.size=some (kit D 0 es.size ep)->(∀b o,b≠S->s.heap.get? b=some o->h.get? b=some o) ->
   h.get? S=some { cls:=.type "list",data:=.seq #[] c₁ }->f7 (ar prog w) A (.builtin "list.extend.loop" ⟨[.ref S,.ref s.heap.objs.size,res],[]⟩) R { s with heap:=h,toks:=tk }:=by
  intro h c₁ tk hit hk hS₁;refine vk W (by rw[d8];lia) S hSf res es.size 0 _ #[] c₁ rfl (eB _) ⟨kit_is hit,ho.go fun o e=>hk _ _ hDS e⟩ hS₁ (vn _) fun s' acc' c' hm hS' hacc=>?_;rw[Moved.eq_with hm];refine hR s'.heap s'.toks acc' c' (fun b o hb e=>hm.heap b o (fun hmem=>?_) (hk b o hb e)) hS' hacc;rcases bP.mp hmem with e'|hmem
  ·exact hb e'
  ·exact absurd (bq e) (by rw[dP.mp hmem];exact gu _)
 unfold kz;refine af (jn ho.ty ?_);have h1:nh (.ref S) (.ref D)=false:=by simp[nh,dQ hDS]
 have h2:(aa.type "dict" == aa.type "list")=false:=by decide
 have h3:(aa.type "dict" == aa.type "tuple")=false:=by decide
 simp only[h1,h2,h3,qs,Bool.or_false,br,if_false];refine af (aft hd ho ?_);have hD2:qJ (s.heap.push (kit D 0 es.size ep)) D es ep:=ho.go fun o e=>cb _ e;have hS₁:=cb (kit D 0 es.size ep) hS;have hI:(s.heap.push (kit D 0 es.size ep)).get? s.heap.objs.size=some (kit D 0 es.size ep):=cS _ rfl;refine af (ez (ake hD2 ?_));refine wpAny_ite_split (fun _=>?_) (fun _=>ax ⟨gN rn _,key _ c₀ _ hI (fun b o _ e=>cb _ e) hS₁⟩);refine af (gT ?_);refine af ?_;show ah _ _ (kA S (·.push .none) >>= fun _=>kA S (·.pop)) _ _ _;refine af (il hS₁ rfl ?_);have hS₂:=fE (c_ (·.push aa.none)) hS₁ rfl;refine il (hz:=by seq_fits) hS₂ rfl ?_;have hS₃:=fE (c_ (·.pop)) hS₂ rfl;have hSI:S≠s.heap.objs.size:=b_ hSlt;refine ax ⟨gN rn _,key _ _ _ ?_ (fun b o hb e=>?_) hS₃⟩
 ·exact(fF _ _ hSI).trans ((fF _ _ hSI).trans hI)
 ·exact(fF _ _ (dQ hb)).trans ((fF _ _ (dQ hb)).trans (cb _ e))
theorem aph{R:Result->ae->Prop}(hh:A.handled=none) (hd:(D == gp)=false) (ho:qJ s.heap D es ep) (hn:es.size<=1000) (S:ab) (hDS:D≠S) (hS:s.heap.get? S=some { cls:=.type "list",data:=.seq #[] })
  (hR:∀h' tk acc' c',(∀b o,b≠S->s.heap.get? b=some o->h'.get? b=some o)->h'.get? S=some { cls:=.type "list",dict:=none,data:=.seq acc' c',slots:=#[] } ->
   ItemsOf (fun i v=>∃e,es[i]?=some e/\v=e.key) acc' es.size->R (.ok (.ret .none)) { s with heap:=h',toks:=tk }) :
  ah (ar prog w) A.in1 (Builtin.«list.__init__» ⟨[.ref S,.ref D],[]⟩)
   (fun gB s'=>match gB with|.done f=>R (.ok f) s'|.again c'=>c'.quiet=true/\f7 (ar prog w) A c' R s') (fun e s'=>R (.error e) s') s:=by
 show ah _ _ (do let old <- cv.List.listItems (.ref S);cv.List.listUpdate (.ref S) (fun _=>#[]);letGo old.toList.reverse;kz (.ref S) (.ref D) .none) _ _ s;refine af ?_;unfold cv.List.listItems;refine af (mP hS rfl (ax ?_));show ah _ _ (kA S (fun _=>#[]) >>= fun _=>letGo (#[]:Array aa).toList.reverse >>= fun _=>kz (.ref S) (.ref D) .none) _ _ s;refine af (il hS rfl ?_);have hS₂:=fE (c_ (fun _=>(#[]:Array aa))) hS rfl;have oth:∀b o,b≠S->s.heap.get? b=some o->(s.heap.update S (c_ (fun _=>(#[]:Array aa)))).get? b=some o :=
  fun b o hb e=>(fF _ _ (dQ hb)).trans e
 refine af (o6 ?_);refine ajg hh hd (ho.go fun o e=>oth _ _ hDS e) hn S .none _ hDS hS₂ fun h' tk acc' c' hk hS' hacc=>?_;exact hR h' tk acc' c' (fun b o hb e=>hk b o hb (oth b o hb e)) hS' hacc
theorem Zb{Q:aa->ae->Prop}(hh:A.handled=none)(hd:(D == gp)=false)(ho:qJ s.heap D es ep)(hn:es.size<=1000)
  (hQ:∀h' tk acc' c',(∀b o,s.heap.get? b=some o->h'.get? b=some o) ->
   h'.get? s.heap.objs.size=some { cls:=.type "list",dict:=none,data:=.seq acc' c',slots:=#[] }->ItemsOf (fun i v=>∃e,es[i]?=some e/\v=e.key) acc' es.size->Q (.ref s.heap.objs.size) { s with heap:=h',toks:=tk }) :
  ah (ar prog w) A (call (.type "list") [.ref D]) Q E s:=by
 have uo:D < s.heap.objs.size:=by obtain⟨o,e,_⟩:=id ho;exact bq e
 refine callType_codes (Q₁:=fun obj s₁=>obj=.ref s.heap.objs.size/\s₁={ s with heap:=s.heap.push { cls:=.type "list",data:=.seq #[] } }) F.called_list (F.typeCall_list_1 _) F.entry_list_init
  (code_list_new _ ⟨rfl,rfl⟩) fun obj s₁ h₁=>?_
 obtain⟨rfl,rfl⟩:=h₁;have hS:(s.heap.push { cls:=.type "list",data:=.seq #[] }).get? s.heap.objs.size=some { cls:=.type "list",data:=.seq #[] }:=cS _ rfl;refine⟨⟨_,hS,rfl⟩,F.args_list_init_2 _ _,aph (A:=A.in1) hh hd (ho.go fun o e=>cb _ e) hn _ (b_ uo) hS fun h' tk acc' c' hk hS' hacc=>?_⟩;exact⟨rfl,hQ h' tk acc' c' (fun b o e=>hk b o (b_ (bq e)) (cb _ e)) hS' hacc⟩
end
end Dk
namespace Vl
open PySem PySem.Spec PySem.Calls PySem.W L2
section
variable{X:Cx}{B:Bs}{W:Wi}{K:ai}
theorem Ma:∀ys:List (List Int×ab×aa),Vals (ys.map fun x=>V.ref x.2.1) (ys.map fun x=>aa.ref x.2.1)
 | []=>.nil
 |_::ys=>.cons rfl (Ma ys)
theorem Vi(hc:X.calm=true):iR X (.type "list") (fun xs H Q=>∃(a:ab) (U:ab->List Int->Prop) (bK:List (List Int×V)),xs=[.ref a]/\BW H a U bK/\(∀b ks,U b ks->UG X.K H b ks)/\bK.length < 1000 /\
  ∀l zs,H l=none->zs.length=bK.length->(∀(i:Nat) v,zs[i]?=some v->∃b,v=.ref b/\U b ((bK.map (·.1)).getD i []))->Q (.ref l) (upd H l (.lst zs))):=by
 intro pins s σ H xs us Q I r h;obtain⟨a,U,bK,rfl,hH,hU,hz,q⟩:=h;obtain⟨u,rfl,rx⟩:=r.one;cases rx;obtain⟨φ,hH,hφ⟩:=hH;obtain⟨o,es,ep,ys,ho,hx,hdat,hsys,hes,hnd,hp⟩:=hφ _ (I.hok _ _ hH).1;obtain⟨ek,hu⟩:=pC hp;have hlen:ys.length=bK.length:=by have:=congrArg eT ek;simpa using this
 have hsz:es.size=ys.length:=by have:=congrArg eT hes;simpa using this
 have hd0:Dk.qJ s.heap a es ep:=⟨o,ho,hx,hdat⟩
 refine Dk.Zb (I.ok.hd hc) hsys hd0 (by lia) fun h' tk acc c' kk hS hacc=>?_;have arK:∀i,es[i]?=(ys[i]?).map fun(x:List Int×ab×aa)=>(⟨MF x.1,.ref x.2.1,x.2.2⟩:kP):=fun i=>by rw[<- gd,hes,cw]
 have hln:H s.heap.objs.size=none:=I.hok.fresh (bo _);have hal:acc.toList=ys.map fun x=>aa.ref x.2.1:=by
  apply rL;intro i;rw[cw,gd];cases e:acc[i]? with
  |some v =>
   obtain⟨x,hx',rfl⟩:=hacc.2 i v e;rw[arK]at hx';cases e2:ys[i]? with
   |none=>rw[e2]at hx';cases hx'
   |some y=>rw[e2]at hx';cases hx';rfl
  |none =>
   have:acc.size<=i:=by simpa using e
   rw[hacc.1,hsz]at this;rw[List.getElem?_eq_none this];rfl
 have hv:Vals (ys.map fun x=>V.ref x.2.1) acc.toList:=by rw[hal];exact Ma ys
 have kl:(ys.map fun x=>V.ref x.2.1).length=bK.length:=by simp[hlen]
 refine⟨.ref s.heap.objs.size,_,I.laid (t':=tk) kk (bo _) (show fY X.prog X.w _ h' _ (.lst (ys.map fun x=>V.ref x.2.1)) from⟨?_,acc.toList,c',hv,by simpa using hS⟩),rfl,q _ _ hln kl fun i v e=>?_⟩
 ·rw[kl,d8];lia
 ·rw[cw]at e;cases e2:ys[i]? with
  |none=>rw[e2]at e;cases e
  |some y =>
   rw[e2]at e;have hg:(bK.map (·.1)).getD i []=y.1:=by rw[<- ek,e_,cw,e2];rfl
   rw[hg];exact⟨y.2.1,(c9 e).symm,hu y (kN e2)⟩
def xu:D->Rs D:=fun d=>match d with
 | .jW ks _=>if ks.length < 1000 then .ok (.lst (ks.map aj)) else .no
 |_=>.no
theorem afU{f:au->Rs D}{e:ag}{p pos:Pos}(hc:X.calm=true) (hm:X.mg "list"=none) (he:SE X B W e f) (hg:Gl X "list":=by rfl) (hst:ba [e] X.env=[(false,a_ e X.env)]:=by rfl) :
  SE X B W (.Call (.Name "list" p) [e] [] pos) (fB f xu):=by
 refine PE.imp (vm (Vi hc) hg hm PyProof.Rows.boot_list (dY he jr hst) (by decide) (by decide) hst rfl) fun σ H Q fZ=>?_;obtain⟨ρ,G,s,pp⟩:=fZ;refine⟨ρ,G,s,?_⟩;unfold fB at pp;cases e1:f ρ with
 |no=>rw[e1]at pp;exact pp.elim
 |ex c n=>rw[e1]at pp;exact pp
 |ok d =>
  rw[e1]at pp;intro v H1 G1 x r;have pp':Post X.K W σ G H (xu d) Q:=pp;cases d with
  |jW ks ds =>
   unfold xu at pp';dsimp only at pp';by_cases hl:ks.length < 1000
   ·rw[if_pos hl]at pp';obtain⟨a,U,bK,rfl,h1,h2,h3,h4⟩:=vp.mp r;subst h3;refine⟨a,U,bK,rfl,(h1.mono x.gh).at,fun b ks z=>Same.gW x.gh (h2 b ks z),by simpa using hl,fun l zs hln hz hv=>?_⟩;have y:=rA (xs:=zs) x.gh x.tp hln;refine pp' _ _ _ (x.trans y) (aY.mpr ⟨l,zs,rfl,.of bH,(nY (by simpa using hz) fun i v hv2=>?_).mono y.gg⟩);obtain⟨b,e1,e2⟩:=hv i v hv2;exact⟨b,e1,h2 b _ e2⟩
   ·rw[if_neg hl]at pp';exact pp'.elim
  |_=>exact pp'.elim
end
structure amu (K:ai)(x:Str)(st:bj)(f:ab)(fd:ck)(c P:ab)(q:Str):Prop where
 ex:∃(oc:aa) (od:Option ab) (kV doc pm:aa) (an:Option ab) (ct:aa) (osl:Array (Option aa)),
  fd=eW x x (bJ st) (bF st) (aD st) .none kV doc pm an (.ref c) ct/\K.lookup f=some ⟨oc,od,.func fd,osl⟩/\lT K (.ref c) x=true
 kp:gx K (.ref f)=true
 hd:iE K c P=true
 mem:(P,q)∈adO K
theorem Vj:∀{l:List (ab×Obj)}{b:ab}{q:Obj},l.lookup b=some q->(b,q)∈l
 | [],_,_,h=>by cases h
 | (c,r)::l,b,q,h=>by
  by_cases e:b=c
  ·subst e;rw[mo]at h;cases h;exact dA
  ·rw[j3,show(b == c)=false by simpa using e]at h;exact dS _ (Vj h)
theorem acA{K:ai}{c P:ab}(e:iE K c P=true):∃oc vs,K.lookup c=some oc/\oc.data=.fields vs/\(vs[11]?:Option aa)=some (.ref P):=by
 unfold iE at e;split at e
 ·rename_i vs _ hk;simp only[jv]at e;obtain⟨⟨⟨⟨⟨e1,_⟩,_⟩,_⟩,_⟩,_⟩:=e;split at e1
  ·rename_i P' h11;have:P'=P:=by simpa using e1
   subst this;exact⟨_,vs,hk,rfl,h11⟩
  ·cases e1
 ·cases e
theorem ajh{K:ai}{x q:Str}{st:bj}{f c P:ab}{oc:aa}{od an:Option ab}{osl:Array (Option aa)}{kV doc pm ct:aa}(l:K.lookup f=some ⟨oc,od,.func (eW x x (bJ st) (bF st) (aD st) .none kV doc pm an (.ref c) ct),osl⟩)
  (cc:lT K (.ref c) x=true) (k:gx K (.ref f)=true) (h:iE K c P=true) (hb:aaq (eW x x (bJ st) (bF st) (aD st) .none kV doc pm an (.ref c) ct)=true) (hq:x++(".<locals>.<lambda>":Str)=q) :
  amu K x st f (eW x x (bJ st) (bF st) (aD st) .none kV doc pm an (.ref c) ct) c P q:=by
 refine⟨⟨oc,od,kV,doc,pm,an,ct,osl,rfl,l,cc⟩,k,h,?_⟩;obtain⟨o2,vs,h1,h2,h3⟩:=acA h;refine ja.mpr ⟨_,Vj l,?_⟩;dsimp only;rw[if_pos hb];show(match K.lookup c with|some oc=>_|none=>none)=_;rw[h1];dsimp only;rw[h2];dsimp only;rw[h3];dsimp only;rw[<- hq]
section
variable{P:aE}{w:az}{K:ai}{mg:Str->Option aa}{base:Heap}
theorem aji{x q:Str}{st:bj}{f c T:ab}{fd:ck}{N ps:List Str}{k:Nat}{g:au->Ou}(F:amu K x st f fd c T q)(hm:mg x=some (.ref f))(S:bQ N ps (aD st))
  (hbi:∀(kV doc pm:aa) (an:Option ab) (cdv ct:aa) (us:List aa),us.length=ps.length->bindArgs (eW x x (bJ st) (bF st) (aD st) .none kV doc pm an cdv ct) ⟨us,[]⟩=pure (ps.zip us))
  (hb:∀(A:aS) (outer:List Env) (s:ae) (H:Hp) (E:XK) (B:Bs),lK k (A.deeper (mw x (aD st) s.heap.objs.size f (.ref c))) ->
   yq (tU (Ii P w K) P w K mg base N x (aD st) f (.ref c) A outer s H E) (fun c n _ H'=>E (Dv c n) none H') ->
   wk (tU (Ii P w K) P w K mg base N x (aD st) f (.ref c) A outer s H E) B (fun c n _ H'=>E (Dv c n) none H') (bF st) g) :
  kE P w K mg base x (k + 1) ps.length (fun ds=>gB (g (bG N ds))):=by
 obtain⟨oc,od,kV,doc,pm,an,ct,osl,rfl,lk,hcd⟩:=F.ex;refine⟨f,_,ps,?_,hm,F.kp,.all (hbi kV doc pm an (.ref c) ct)⟩;refine aaj lk hcd S (fun vs H Q E h=>h.1) fun A outer s H vs Q E hr h=>?_;obtain⟨_,G,ds,e,r,h⟩:=h;dsimp only at h;exact⟨_,hb A outer s H E ⟨G,H,0⟩ hr (ug qx rfl),bG N ds,G,Fb e r,Ti (B:=⟨G,H,0⟩) h⟩
end
theorem apj{k:Nat}{A:aS}{env:Env}(hr:lK k A):(A.in1.deeper env).units + 8 < bu:=by have:=hr.un;show A.units + 1 + 3 + 8 < bu;lia
end Vl
namespace Vl
open PySem PySem.Spec L2 So Tb
def apk(t:Int)(ks:List Int):List Int :=
 let r:=ks.getD 0 0;let c:=ks.getD 1 0
 if t=0 then [r,c] else if t=1 then [c,-r] else if t=2 then [-r,-c] else if t=3 then [-c,r] else if t=4 then [r,-c] else if t=5 then [-c,-r] else if t=6 then [-r,c] else [c,r]
def turned(t:Int)(l:List (List Int)):List (List Int):=bZ (l.map (apk t))
end Vl
namespace Vl
open PySem PySem.Spec PySem.Calls PySem.W L2 So Tb
abbrev c0(a:List Int):Int:=a.getD 0 0
abbrev c1(a:List Int):Int:=a.getD 1 0
def Aa(a b:List Int):Prop:=c0 a < c0 b∨(c0 a=c0 b/\c1 a < c1 b)
theorem oJ{a:List Int}(h:Pair a):a=[c0 a,c1 a]:=by obtain⟨x,y,rfl⟩:=h;rfl
theorem Vk{a b:List Int}(ha:Pair a)(hb:Pair b)(h0:c0 a=c0 b)(h1:c1 a=c1 b):a=b:=by rw[oJ ha,oJ hb,h0,h1]
theorem vM{a:List Int}(h:Aa a a):False:=by unfold Aa at h;lia
theorem Zc{a b c:List Int}(h:Aa a b)(k:Aa b c):Aa a c:=by unfold Aa at *;lia
theorem Vm{a b:List Int}(ha:Pair a)(hb:Pair b):zH a b=true↔Aa a b:=by
 obtain⟨x,y,rfl⟩:=ha;obtain⟨z,w,rfl⟩:=hb;unfold Aa;show _↔x < z∨(x=z/\y < w)
 simp only[zH];by_cases h:x=z
 ·subst h;by_cases k:y=w
  ·subst k;simp
  ·simp[k]
 ·simp[h]
structure fJ (L:KL):Prop where
 pr:∀x∈L,Pair x
 pw:L.Pairwise Aa
theorem fJ.nd{L:KL}(h:fJ L):L.Nodup:=h.pw.imp fun {a b} z e=>by subst e;exact vM z
theorem fJ.le{L:KL}(h:fJ L):L.Pairwise leK:=by
 have:L.Pairwise fun a b=>Pair a/\Pair b/\Aa a b:=by refine mf.imp_of_mem (fun {a b} ha hb z=>⟨h.pr a ha,h.pr b hb,z⟩) h.pw
 refine this.imp fun {a b} fZ=>?_;obtain⟨pa,pb,z⟩:=fZ;unfold leK;cases e:zH b a with
 |false=>rfl
 |true=>exact(vM (Zc z ((Vm pb pa).mp e))).elim
theorem fJ.of{L:KL}(pr:∀x∈L,Pair x)(nd:L.Nodup)(pw:L.Pairwise leK):fJ L:=by
 refine⟨pr,?_⟩;have:L.Pairwise fun a b=>a≠b/\leK a b:=(List.pairwise_and_iff.mpr ⟨nd,pw⟩)
 refine mf.imp_of_mem (fun {a b} ha hb ⟨ne,z⟩=>?_) this;have pa:=pr a ha;have pb:=pr b hb;by_cases c:Aa a b
 ·exact c
 ·exfalso;have nlt:¬Aa b a:=fun w=>by have:=(Vm pb pa).mpr w;unfold leK at z;rw[z]at this;cases this
  unfold Aa at c nlt;exact ne (Vk pa pb (by lia) (by lia))
theorem fJ.sort{L:KL}(pr:∀x∈L,Pair x)(nd:L.Nodup):fJ (bZ L):=.of (fun x hx=>pr x (jJ.mp hx)) ((eV L).nodup_iff.mpr nd) (qD L)
theorem fJ.rise{L:KL}(pr:∀x∈L,Pair x):fJ (rise L):=.sort (fun x hx=>pr x (xr.mp hx)) (acq L)
theorem fJ.ext{L M:KL}(hL:fJ L)(hM:fJ M)(h:∀x,x∈L↔x∈M):L=M:=zU ((List.perm_ext_iff_of_nodup hL.nd hM.nd).mpr h) hL.le hM.le
theorem fJ.filter{L:KL}(h:fJ L)(t:List Int->Bool):fJ (L.filter t):=⟨fun x hx=>h.pr x (fN.mp hx).1,h.pw.filter t⟩
theorem fJ.apl{L:KL}(h:fJ L)(p:List Int):fJ (L.map fun x=>mi x p):=by
 refine⟨fun x hx=>by obtain⟨y,_,rfl⟩:=c8.mp hx;exact vL _ _,?_⟩;refine List.pairwise_map.mpr (h.pw.imp fun {a b} z=>?_);unfold Aa at *;show c0 a - c0 p < c0 b - c0 p∨(c0 a - c0 p=c0 b - c0 p/\c1 a - c1 p < c1 b - c1 p)
 lia
def go(st c:List Int)(j:Nat):List Int:=[c0 c + j * c0 st,c1 c + j * c1 st]
theorem pD{st c:List Int}(h:Pair c):go st c 0=c:=by rw[oJ h];simp[go,c0,c1]
theorem Oz(st c:List Int)(j:Nat):go st (ad c st) j=go st c (j + 1):=by
 show [c0 c + c0 st + j * c0 st,c1 c + c1 st + j * c1 st]=[c0 c + ((j + 1:Nat):Int) * c0 st,c1 c + ((j + 1:Nat):Int) * c1 st]
 have e:∀a:Int,((j + 1:Nat):Int) * a=a + j * a:=fun a=>by rw[Int.natCast_succ,Int.add_mul,Int.one_mul,Int.add_comm]
 rw[e,e,<- sq,<- sq]
theorem akk(st p h:List Int)(j:Nat):go st (ad p h) j=ad p (go st h j):=by
 show [c0 p + c0 h + j * c0 st,c1 p + c1 h + j * c1 st]=[c0 p + (c0 h + j * c0 st),c1 p + (c1 h + j * c1 st)]
 rw[sq,sq]
def Up(st:List Int):Prop:=Aa [0,0] st
theorem afV{st c:List Int}(hs:Up st)(j:Nat):Aa c (go st c (j + 1)):=by
 have hs':0 < c0 st∨(0=c0 st/\0 < c1 st):=hs;show c0 c < c0 c + ((j + 1:Nat):Int) * c0 st∨(c0 c=c0 c + ((j + 1:Nat):Int) * c0 st/\c1 c < c1 c + ((j + 1:Nat):Int) * c1 st)
 have hj:(0:Int) < ((j + 1:Nat):Int):=by lia
 generalize ((j + 1:Nat):Int)=J at hj ⊢;rcases hs' with h|⟨h1,h2⟩
 ·have:=Int.mul_pos hj h;left;lia
 ·have:=Int.mul_pos hj h2;exact .inr ⟨by rw[<- h1];simp,by lia⟩
theorem apm{st c x:List Int}(hs:Up st)(hx:Pair x)(h:Aa c x)(j:Nat):Aa c (go st x j):=by
 cases j with
 |zero=>rw[pD hx];exact h
 |succ j=>exact Zc h (afV hs j)
def Mf(S:KL)(st c:List Int)(n:Nat):Prop:=(∀j,j < n->go st c j∈S)/\go st c n∉S
def xG(S:KL)(st:List Int)(kvs:List (List Int×D)):Prop:=∀x,(x∈S->∃n:Nat,cg kvs x=some (.int n)/\Mf S st x n)/\(x∉S->cg kvs x=none)
theorem OD(kvs:List (List Int×D))(k x:List Int)(d:D):cg (iw kvs k d) x=if x=k then some d else cg kvs x:=by
 unfold iw;by_cases h:(cg kvs k).isSome=true
 ·rw[if_pos h];by_cases e:x=k
  ·subst e;rw[if_pos rfl]
   induction kvs with
   |nil=>cases h
   |cons p kvs ih =>
    by_cases c:p.1=x
    ·simp[cg,fx,c]
    ·have h':(cg kvs x).isSome=true:=by simpa[cg,fx,c] using h
     have:=ih h';simpa[cg,fx,c] using this
  ·rw[if_neg e];clear h
   induction kvs with
   |nil=>rfl
   |cons p kvs ih =>
    by_cases c:p.1=k
    ·have:¬(k=x):=fun z=>e z.symm;have c':¬(p.1=x):=fun z=>this (c▸z);simpa[cg,fx,c,this,c'] using ih
    ·by_cases c':p.1=x
     ·have c2:(if p.1=k then (p.1,d) else p)=p:=if_neg c;show cg ((if p.1=k then (p.1,d) else p)::kvs.map fun p=>if p.1=k then (p.1,d) else p) x=_;rw[c2];simp[cg,fx,c']
     ·simpa[cg,fx,c,c'] using ih
 ·rw[if_neg h];have hn:cg kvs k=none:=by cases z:cg kvs k <;> simp_all
  by_cases e:x=k
  ·subst e;rw[if_pos rfl];unfold cg at hn ⊢;rw[List.find?_append];cases z:kvs.find? fun p=>decide (p.1=x) with
   |some p=>rw[z]at hn;cases hn
   |none=>simp
  ·rw[if_neg e];unfold cg;rw[List.find?_append];cases z:kvs.find? fun p=>decide (p.1=x) with
   |some p=>simp
   |none=>simp[dQ e,show ¬k=x from fun w=>e w.symm]
theorem afW{S:KL}{st c:List Int}{kvs:List (List Int×D)}(hs:Up st)(hc:Pair c)(pr:∀x∈S,Pair x)(lt:∀x∈S,Aa c x)(h:xG S st kvs) :
  ∃n:Nat,(cg kvs (ad c st)).getD (.int 0)=.int n/\xG (c::S) st (iw kvs c (.int (n + 1))):=by
 have hcS:c∉S:=fun z=>vM (lt c z);have key:∃n:Nat,(cg kvs (ad c st)).getD (.int 0)=.int n/\Mf (c::S) st c (n + 1):=by
  by_cases hy:ad c st∈S
  ·obtain⟨n,e,r1,r2⟩:=(h (ad c st)).1 hy;refine⟨n,by rw[e];rfl,fun j hj=>?_,?_⟩
   ·cases j with
    |zero=>rw[pD hc];exact dA
    |succ j=>rw[<- Oz];exact dS _ (r1 j (by lia))
   ·intro z;rcases bP.mp z with z|z
    ·have:=afV (c:=c) hs n;rw[z]at this;exact vM this
    ·rw[<- Oz]at z;exact r2 z
  ·refine⟨0,by rw[(h (ad c st)).2 hy];rfl,fun j hj=>?_,?_⟩
   ·obtain rfl:j=0:=by lia
    rw[pD hc];exact dA
   ·intro z;rcases bP.mp z with z|z
    ·have:=afV (c:=c) hs 0;rw[z]at this;exact vM this
    ·rw[<- Oz,pD (DX _ _)]at z;exact hy z
 obtain⟨n,e,r⟩:=key;refine⟨n,e,fun x=>⟨fun hx=>?_,fun hx=>?_⟩⟩
 ·rw[OD];by_cases ex:x=c
  ·subst ex;rw[if_pos rfl];exact⟨n + 1,by simp,r⟩
  ·rw[if_neg ex];have hxS:=(bP.mp hx).resolve_left ex;obtain⟨m,e',r1,r2⟩:=(h x).1 hxS;refine⟨m,e',fun j hj=>dS _ (r1 j hj),fun z=>?_⟩;rcases bP.mp z with z|z
   ·have:=apm hs (pr x hxS) (lt x hxS) m;rw[z]at this;exact vM this
   ·exact r2 z
 ·rw[OD,if_neg (fun z:x=c=>hx (by rw[z];exact dA))];exact(h x).2 fun z=>hx (dS _ z)
theorem amv{O:KL}{st:List Int}(hO:∀x∈O,Pair x)(hs:Up st){len:List Int->Nat}(hl:∀x∈O,Mf O st x (len x)):∀(k:Nat) (t:List Int),t∈O->(O.filter fun x=>decide (c0 x < c0 t∨(c0 x=c0 t/\c1 x < c1 t))).length=k->∃h∈O,mi h st∉O/\∃j,j < len h/\go st h j=t:=by
 intro k
 induction k using Nat.strongRecOn with
 |ind k ih =>
  intro t ht hk;have pos:∀x∈O,0 < len x:=fun x hx=>tx fun z=>(hl x hx).2 (by rw[z,pD (hO x hx)];exact hx);by_cases c:mi t st∈O
  ·have hlt:Aa (mi t st) t:=by
    have hs':0 < c0 st∨(0=c0 st/\0 < c1 st):=hs;show c0 t - c0 st < c0 t∨(c0 t - c0 st=c0 t/\c1 t - c1 st < c1 t)
    lia
   have less:(O.filter fun x=>decide (c0 x < c0 (mi t st)∨(c0 x=c0 (mi t st)/\c1 x < c1 (mi t st)))).length < k:=by
    rw[<- hk];have sub:(O.filter fun x=>decide (c0 x < c0 (mi t st)∨(c0 x=c0 (mi t st)/\c1 x < c1 (mi t st))))=(O.filter fun x=>decide (c0 x < c0 t∨(c0 x=c0 t/\c1 x < c1 t))).filter fun x=>decide (c0 x < c0 (mi t st)∨(c0 x=c0 (mi t st)/\c1 x < c1 (mi t st))):=by rw[List.filter_filter];refine List.filter_congr fun x _=>?_;rw[Bool.eq_iff_iff];simp only[jv,decide_eq_true_eq];refine⟨fun z=>⟨z,?_⟩,fun z=>z.1⟩;have:Aa x t:=Zc (show Aa x (mi t st) from z) hlt;exact this
    rw[sub];refine List.length_filter_lt_length_iff_exists.mpr ⟨mi t st,fN.mpr ⟨c,?_⟩,?_⟩
    ·exact decide_eq_true (show Aa (mi t st) t from hlt)
    ·simp
   obtain⟨h,hh,hm,j,hj,e⟩:=ih _ less (mi t st) c rfl;have e2:go st h (j + 1)=t:=by
    have h0:c0 h + j * c0 st=c0 t - c0 st:=congrArg c0 e;have h1:c1 h + j * c1 st=c1 t - c1 st:=congrArg c1 e;rw[oJ (hO t ht)];show [c0 h + ((j + 1:Nat):Int) * c0 st,c1 h + ((j + 1:Nat):Int) * c1 st]=_;have e:∀a:Int,((j + 1:Nat):Int) * a=j * a + a:=fun a=>by rw[Int.natCast_succ,Int.add_mul,Int.one_mul]
    rw[e,e];generalize (j:Int) * c0 st=A at *;generalize (j:Int) * c1 st=B at *;congr 1
    ·lia
    ·congr 1;lia
   refine⟨h,hh,hm,j + 1,?_,e2⟩;rcases ny (j + 1) (len h) with z|z
   ·exact z
   ·have:j + 1=len h:=by lia
    exact((hl h hh).2 (by rw[<- this,e2];exact ht)).elim
  ·exact⟨t,ht,c,0,pos t ht,pD (hO t ht)⟩
theorem afX{A O:KL}{st:List Int}(hO:∀x∈O,Pair x)(hs:Up st){len:List Int->Nat}(hl:∀x∈O,Mf O st x (len x))(p:List Int) :
  (∀h∈O,mi h st∉O->∀j,j < len h->go st (ad p h) j∈A)↔∀t∈O,ad p t∈A:=by
 constructor
 ·intro H t ht;obtain⟨h,hh,hm,j,hj,e⟩:=amv hO hs hl _ t ht rfl;rw[<- e,<- akk];exact H h hh hm j hj
 ·intro H h hh hm j hj;rw[akk];exact H _ ((hl h hh).1 j hj)
theorem amw{A:KL}{st x:List Int}{kvs:List (List Int×D)}{n:Nat}(hn:0 < n)(hx:Pair x)(h:xG A st kvs):∃m:Nat,(cg kvs x).getD (.int 0)=.int m/\(n<=m↔∀j,j < n->go st x j∈A):=by
 by_cases hA:x∈A
 ·obtain⟨m,e,r1,r2⟩:=(h x).1 hA;refine⟨m,by rw[e];rfl,fun hle j hj=>r1 j (by lia),fun H=>?_⟩;rcases ny m n with z|z
  ·exact(r2 (H m z)).elim
  ·exact z
 ·refine⟨0,by rw[(h x).2 hA];rfl,fun hle=>by lia,fun H=>?_⟩;have:=H 0 hn;rw[pD hx]at this;exact(hA this).elim
end Vl
namespace Vl
open PySem PySem.Spec PySem.Calls PySem.W L2
theorem apn{K:ai}{f c P:ab}{oc:aa}{od an:Option ab}{sl:Array (Option aa)}{x:Str}{st:bj}{kV doc pm ct:aa}(a:cx K b0 x=some (some (.ref f)))(b:K.lookup f=some ⟨oc,od,.func (eW x x (bJ st) (bF st) (aD st) .none kV doc pm an (.ref c) ct),sl⟩)(e:iE K c P=true):∃c,iE K c P=true:=⟨c,e⟩
end Vl
namespace L2
open PySem PySem.Spec PyProof.Rows Vl
abbrev afY(a:ab)(o:Obj)(U:ab->List Int->Prop)(bK:List (List Int×V)):HO:=.ext fun h=>h.get? a=some o/\pU U a bK h
def Itd(a:ab)(o:Obj)(U:ab->List Int->Prop)(bK:List (List Int×V)):It :=
 ⟨fun i H=>i < bK.length/\H a=some (afY a o U bK),fun i H x H'=>H'=H/\∃b,x=.ref b/\U b ((bK.map (·.1)).getD i []),fun i H=>bK.length<=i/\H a=some (afY a o U bK)⟩
theorem Zd{X:Cx}{pins:List (ab×Obj)}{σ:St}{H:Hp}{s:ae}{a:ab}{o:Obj}{U:ab->List Int->Prop}{bK:List (List Int×V)}(I:Inv X pins σ H s)(hH:H a=some (afY a o U bK)) :
  ∃(es:Array kP) (ep:Nat) (xs:List (List Int×ab×aa)),s.heap.get? a=some o/\o.ExactDict/\o.data=.dict es ep/\(a == gp)=false/\es.toList=xs.map (fun x=>⟨MF x.1,.ref x.2.1,x.2.2⟩)/\xs.map (·.1)=bK.map (·.1)/\∀x∈xs,U x.2.1 x.1:=by
 obtain⟨⟨ho,o',es,ep,xs,ho',hx,hd,hs,he,hn,hp⟩,_⟩:=I.hok a _ hH;rw[ho]at ho';cases ho';obtain⟨ek,hu⟩:=pC hp;exact⟨es,ep,xs,ho,hx,hd,hs,he,ek,hu⟩
theorem afZ{P:aE}{w:az}{K:ai}{tg:ag}(a it:ab){o:Obj}{U:ab->List Int->Prop}{bK:List (List Int×V)}{es:Array kP}{ep:Nat}(hdat:o.data=.dict es ep)(hn:es.size=bK.length) :
    Turn P w K tg (Itd a o U bK) [it] it (fun i h=>i<=es.size/\h.IsKeyIter it a i es.size ep) where
  mem:=by simp
  obj:=fun i h st b hb=>by
    have e:b=it:=by simpa using hb
    subst e;obtain⟨_,o,ho,hc,hd⟩:=st;exact⟨o,ho,fun v z=>by rw[hd]at z;cases z⟩
  keep:=fun i h h' st k=>⟨st.1,st.2.at fun o e=>k it (by simp) o e⟩
  item:=by
    intro X hP hw hK hc i pins s σ H E I hf st hg;subst hP hw hK;obtain⟨hlt,hH⟩:=hg;obtain⟨es',ep',xs,ho,hx,hd,hs,he,ek,hu⟩:=Zd I hH;rw[hdat]at hd;cases hd;have hi:i < es.size:=by rw[hn];exact hlt
    obtain⟨f0,f1,f2,f3,f4,f5⟩:=hf it (by simp);refine Dk.akd st.2 ⟨o,ho,hx,hdat⟩ hi fun h' st' sb=>?_;have I1:Inv X pins σ H { s with heap:=h',toks:=s.toks }:=I.turned (t':=s.toks) (fun b o hb e=>(sb.2 b hb).trans e) f0 f1 f3 f4 f5;have hxi:∃x,xs[i]?=some x/\es[i].key=.ref x.2.1:=by
      have h1:es.toList[i]?=some es[i]:=by rw[gd];exact kU hi
      rw[he,cw]at h1;cases e:xs[i]? with
      |none=>rw[e]at h1;cases h1
      |some x=>rw[e]at h1;exact⟨x,rfl,by rw[<- c9 h1]⟩
    obtain⟨x,hx1,hk⟩:=hxi;have hg:(bK.map (·.1)).getD i []=x.1:=by rw[<- ek,e_,cw,hx1];rfl
    rw[hk];obtain⟨oi,ho',hc',hd'⟩:=id st';refine⟨.ref x.2.1,rfl,Sg (s:={ s with heap:=h' }) (n:="dict_keyiterator") ho' hc' hd' (by decide) ⟨.ref x.2.1,H,I1,rfl,⟨rfl,x.2.1,rfl,?_⟩,⟨hi,st'⟩,fun b hb=>(hf b hb).1⟩⟩;rw[hg];exact hu x (kN hx1)
  done := by
    intro X hP hw hK hc i pins s σ H E I hf st hg;subst hP hw hK;obtain⟨hge,hH⟩:=hg;obtain⟨es',ep',xs,ho,hx,hd,hs,he,ek,hu⟩:=Zd I hH;rw[hdat]at hd;cases hd;have hi:i=es.size:=by have:=st.1;lia
    subst hi;obtain⟨f0,f1,f2,f3,f4,f5⟩:=hf it (by simp);exact Dk.aoE (I.ok.hd hc) st.2 ⟨o,ho,hx,hdat⟩ fun h' eb=>⟨rfl,I.turned (t':=s.toks) (fun b o hb e=>eb b o hb e) f0 f1 f3 f4 f5⟩
  self:=fun _ _ _ _ _ st h=>wpAny_pyIter_keyiter st.2 h
section
variable{X:Cx}{tg:ag}
def arM(t:TE):TI:=fun σ H R=>t σ H fun v H1=>∃a o U bK,v=.ref a/\H1 a=some (afY a o U bK)/\R (Itd a o U bK) H1
theorem amx{l:ag}{tl:TE}(hl:PE X l tl):PI X tg l (arM tl):=by
 intro pins s σ H R I h;refine jc (hl pins s σ H _ I h) fun v s1 fZ=>?_;obtain⟨x,H1,I1,r1,q1⟩:=fZ;obtain⟨a,o,U,bK,e,hH,q⟩:=q1;subst e;cases r1;obtain⟨es,ep,xs,ho,hx,hd,hs,he,ek,hu⟩:=Zd I1 hH;have hn:es.size=bK.length:=by have h1:=congrArg eT he;have h2:=congrArg eT ek;simp only[cf,iF]at h1 h2;lia
 refine Dk.aft hs ⟨o,ho,hx,hd⟩ ?_;refine⟨s1.heap.objs.size,[s1.heap.objs.size],_,_,H1,rfl,I1.kept (t':=s1.toks) fun b o e=>cb _ e,afZ a _ hd hn,⟨eB _,Dk.kit_is (cS _ rfl)⟩,fun b hb=>?_,q⟩;have e:b=s1.heap.objs.size:=by simpa using hb
 subst e;exact I1.Sd (bo _) (I1.hok.fresh (bo _))
end
end L2
namespace Vl
open PySem PySem.Spec L2 So Tb
section
variable{X:Cx}{B:Bs}{W:Wi}{tg:ag}{K:ai}
def asF:D->Rs (List D)
 | .jW ks _=>.ok (ks.map aj)
 |_=>.no
theorem ajj{G:Hp}{b:ab}{ks:List Int}(h:UG K G b ks):Rep K G (aj ks) (.ref b):=bA.mpr ⟨b,_,rfl,h,vA ks⟩
theorem amy{e:ag}{f:au->Rs D}(hi:SE X B W e f):SI X B W tg e (fL f asF):=by
 refine PI.imp (amx hi) fun σ H R ⟨ρ,G,s,p⟩=>⟨ρ,G,s,Dw p (fun d v H' G' ds e1 e rv k=>?_) (fun d c n z=>by cases d <;> cases z)⟩
 cases d with
 |jW ks es =>
  cases e1;obtain⟨a,U,bK,rfl,⟨o,h1⟩,h2,h3,_⟩:=vp.mp rv;refine⟨a,o,U,bK,rfl,e.gh _ _ h1,k _ H' G' (.refl e.gh e.tp) ?_⟩;subst h3;intro i G1 H1 gg e';have q1:H1 a=some (afY a o U bK):=e'.gh _ _ (gg _ _ h1);refine⟨fun d hd=>?_,fun hl=>⟨by simpa using hl,q1⟩⟩;rw[cw]at hd;cases eg:(bK.map (·.1))[i]? with
  |none=>rw[eg]at hd;cases hd
  |some ks =>
   rw[eg]at hd;cases hd;have hlt:i < bK.length:=by have:=(dC.mp eg).1;simpa using this
   refine⟨⟨hlt,q1⟩,fun x H2 y=>?_⟩;obtain⟨e2,b,rfl,y⟩:=y;subst e2;have eg':(bK.map (·.1)).getD i []=ks:=by rw[e_,eg];rfl
   rw[eg']at y;exact⟨G1,e',ajj (Same.gW gg (h2 b _ y))⟩
 |_=>cases e1
end
end Vl
namespace Vl
open PySem PySem.Spec PySem.Calls PySem.W L2 So
theorem Mi{α:Type}{h:Tg}{g:au->Ou}(F:α->D)(P:List α->au->Prop){L0:List α}
  (hs:∀x done ρ,x∈L0->done.length < L0.length->P done ρ->∃ρ1 ρ2,h (F x) ρ=some ρ1/\g ρ1=.nx ρ2/\P (done++[x]) ρ2) :
  ∀(L done:List α) (ρ:au),(∀x∈L,x∈L0)->done.length + L.length<=L0.length->P done ρ->∃ρ',cP h g (L.map F) ρ=.nx ρ'/\P (done++L) ρ'
 | [],done,ρ,_,_,p=>⟨ρ,rfl,by rw[hW];exact p⟩
 |x::L,done,ρ,hx,hl,p=>by rw[cy]at hl;obtain⟨ρ1,ρ2,e1,e2,p2⟩:=hs x done ρ (hx x (.head _)) (by lia) p;obtain⟨ρ',e,p'⟩:=Mi F P hs L (done++[x]) ρ2 (fun y hy=>hx y (.tail _ hy)) (by rw[dy,iO];lia) p2;refine⟨ρ',?_,by rw[h_]at p';exact p'⟩;simp only[cn,cP,e1,e2];exact e
theorem qL{α:Type}{h:Tg}{g:au->Ou}(F:α->D)(P:List α->au->Prop){L:List α}{ρ:au}(p:P [] ρ)
  (hs:∀x done ρ,x∈L->done.length < L.length->P done ρ->∃ρ1 ρ2,h (F x) ρ=some ρ1/\g ρ1=.nx ρ2/\P (done++[x]) ρ2):∃ρ',cP h g (L.map F) ρ=.nx ρ'/\P L ρ':=by
 obtain⟨ρ',e,p'⟩:=Mi F P hs L [] ρ (fun _ z=>z) (by rw[fw,iq];exact bo _) p;exact⟨ρ',e,by rw[sk]at p';exact p'⟩
structure Km (kvs:List (List Int×D))(n:Nat)(M:List Int->Prop):Prop where
 gn:GN kvs
 le:kvs.length<=n
 iff:∀k,k∈kvs.map (·.1)↔M k
theorem Km.nil:Km [] 0 fun _=>False:=⟨.nil,bo _,fun k=>by simp⟩
theorem Km.put{kvs:List (List Int×D)}{n:Nat}{M M':List Int->Prop}(h:Km kvs n M)(x y:Int)(d:D)(hM:∀k,M' k↔k=[x,y]∨M k):Km (iw kvs [x,y] d) (n + 1) M' :=
 ⟨h.gn.put x y d,cz (rT _ _ _) (Nat.add_le_add_right h.le 1),fun k=>by rw[uJ,hM,h.iff]⟩
theorem Km.mono{kvs:List (List Int×D)}{n n':Nat}{M M':List Int->Prop}(h:Km kvs n M)(hn:n<=n')(hM:∀k,M' k↔M k):Km kvs n' M':=⟨h.gn,cz h.le hn,fun k=>by rw[hM,h.iff]⟩
theorem ajk{kvs:List (List Int×D)}{ks:List Int}:yN false (aj ks) (dN kvs)=.ok (.bl (decide (ks∈kvs.map (·.1)))):=by unfold yN;dsimp only;rw[oh];dsimp only;rw[yM];simp only[br,if_false];rw[rR]
theorem ajl{kvs:List (List Int×D)}:asF (dN kvs)=.ok ((kvs.map (·.1)).map aj):=rfl
theorem Km.asc{kvs:List (List Int×D)}{n:Nat}{M:List Int->Prop}(h:Km kvs n M):fJ (bZ (kvs.map (·.1))):=.sort h.gn.pr h.gn.nd
theorem aga{bB:KL}(hl:bB.length < 1000)(hp:∀ks∈bB,Pair ks):ux [.lst (bB.map aj)]=.ok (.lst ((bZ bB).map aj)):=by simp only[ux,Lh];rw[if_pos ⟨fun ks hk=>by obtain⟨x,y,rfl⟩:=hp ks hk;simp,hl⟩]
theorem Ze{α:Type}(xs:List α)(f:α->Bool):Tq [.lst (xs.map fun x=>.bl (f x))]=.ok (.bl (xs.all f)):=by
 have h:∀xs:List α,Fe (xs.map fun x=>D.bl (f x))=some (xs.map f):=fun xs=>by
  induction xs with
  |nil=>rfl
  |cons x xs ih=>simp only[cn,Fe,ih];rfl
 simp only[Tq,h];have:(xs.map f).all id=xs.all f:=by rw[tf];rfl
 rw[this]
theorem amA{fa fb:au->Rs D}{ρ:au}{r:Rs D}(h:fa ρ=.ok (.bl true))(h2:fb ρ=r):KC fa fb ρ=r:=by unfold KC;rw[h];exact h2
theorem amB{h:Tg}{g:au->Ou}{f:au->Rs (List D)}{ρ:au}{ds:List D}{r:Ou}(h1:f ρ=.ok ds)(h2:cP h g ds ρ=r):Gj h g f ρ=r:=by unfold Gj;rw[h1];exact h2
theorem acB{L:KL}{E:au->Rs D}{F:List Int->D}{ρ:au}{fi:au->Rs (List D)}{caps:List Nat}{cs:List Sl}(hs:dZ 2 caps ρ=.no::.no::cs)(hi:fi ρ=.ok (L.map aj))(hp:∀ks∈L,Pair ks)(hE:∀x y,[x,y]∈L->E (.fz (.int x)::.fz (.int y)::cs)=.ok (F [x,y]))(hl:L.length<=1000000) :
  dw (ju 2 (bR (aU 0) (bR (aU 1) jY))) (fun _=>.ok true) E 2 caps fi ρ=.ok (.lst (L.map F)):=by
 refine Np hi ?_ (by rw[cf];exact hl);rw[hs];exact vK (fun ρ=>∃a b,ρ=a::b::cs) aj F ⟨_,_,rfl⟩ (by
  rintro ks hk ρ ⟨a,b,rfl⟩;obtain⟨x,y,rfl⟩:=hp ks hk;exact⟨_,rfl,hE x y hk,_,_,rfl⟩)
end Vl
namespace Vn
open PySem PySem.Spec PySem.Calls PySem.W L2 Vl
def zJ(i:Nat):bj:=PySem.Challenge.pw_edgemoss_k16_opened_and_closed.main.body.getD i (.Pass ⟨0,0,0,0⟩)
abbrev iB:bj:=zJ 1
abbrev jK:bj:=zJ 2
abbrev qM:bj:=zJ 3
abbrev jz:bj:=zJ 4
abbrev jA:bj:=zJ 6
abbrev cQ:bj:=zJ 13
abbrev gG:bj:=zJ 14
abbrev cR:bj:=zJ 15
abbrev cT:bj:=zJ 12
abbrev vN:bj:=zJ 8
abbrev vO:bj:=zJ 9
abbrev qN:bj:=zJ 10
abbrev qO:bj:=zJ 11
abbrev iC:bj:=zJ 17
abbrev jL:bj:=zJ 18
abbrev jM:bj:=zJ 19
abbrev jN:bj:=zJ 20
abbrev iD:bj:=zJ 21
abbrev lQ:bj:=zJ 22
abbrev jO:bj:=zJ 23
abbrev iG:bj:=zJ 24
abbrev gH:bj:=zJ 25
abbrev dI:bj:=zJ 26
abbrev dU:bj:=zJ 27
abbrev jP:bj:=zJ 28
abbrev jB:bj:=zJ 29
abbrev eZ:bj:=zJ 30
abbrev qP:bj:=zJ 31
structure Txt (K:Frag)(mg:Str->Option aa) :Prop where
 akl:mg "all"=none
 agb:mg "bool"=none
 agc:mg "divmod"=none
 akm:mg "int"=none
 iH:mg "isinstance"=none
 Cj:mg "len"=none
 amC:mg "list"=none
 apo:mg "max"=none
 rW:mg "range"=none
 Zf:mg "reversed"=none
 apq:mg "set"=none
 oK:mg "sorted"=none
 nJ:mg "tuple"=none
section
variable{P:aE}{w:az}{K:Frag}{mg:Str->Option aa}{base:Heap}
theorem IK:bQ ["cell","step"] ["cell","step"] (aD iB):=⟨rfl,rfl,rfl,by decide+kernel,rfl,by decide+kernel,by decide+kernel⟩
def yO:au->Ou :=
  fX (fA (ao (bW dh (bW fH (aH 0) (fC (.int 0))) (bW fH (aH 1) (fC (.int 0)))) (ao (bW dh (bW fH (aH 0) (fC (.int 1))) (bW fH (aH 1) (fC (.int 1)))) aR)) dJ)
def eE:List D->Rs D:=fun ds=>gB (yO (bG ["cell","step"] ds))
theorem IV(T:Txt K mg ) {f:ab}{fd:ck}(F:vW K "cell_moved" "cell_moved" iB f fd) (hm:mg "cell_moved"=some (.ref f)) :kE P w K mg base "cell_moved" 1 2 eE :=
 fO (k:=0) (g:=yO) F hm IK (fun _ _ _ _ _ _ us hl=>match us,hl with|[_,_],_=>rfl) fun cdv A outer s H E B hr hx =>
  bw (cM (eU (ak (gM (cF (sv 0) aJ) (cF (sv 1) aJ)) (ak (gM (cF (sv 0) aJ) (cF (sv 1) aJ)) aK))))
theorem OJ:bQ ["cell","step"] ["cell","step"] (aD jK):=⟨rfl,rfl,rfl,by decide+kernel,rfl,by decide+kernel,by decide+kernel⟩
def Ck:au->Ou :=
  fX (fA (ao (bW iT (bW fH (aH 0) (fC (.int 0))) (bW fH (aH 1) (fC (.int 0)))) (ao (bW iT (bW fH (aH 0) (fC (.int 1))) (bW fH (aH 1) (fC (.int 1)))) aR)) dJ)
def eF:List D->Rs D:=fun ds=>gB (Ck (bG ["cell","step"] ds))
theorem Pa(T:Txt K mg ) {f:ab}{fd:ck}(F:vW K "cell_less" "cell_less" jK f fd) (hm:mg "cell_less"=some (.ref f)) :kE P w K mg base "cell_less" 1 2 eF :=
 fO (k:=0) (g:=Ck) F hm OJ (fun _ _ _ _ _ _ us hl=>match us,hl with|[_,_],_=>rfl) fun cdv A outer s H E B hr hx =>
  bw (cM (eU (ak (pW (cF (sv 0) aJ) (cF (sv 1) aJ)) (ak (pW (cF (sv 0) aJ) (cF (sv 1) aJ)) aK))))
theorem acC:bQ ["cells"] ["cells"] (aD qM):=⟨rfl,rfl,rfl,by decide+kernel,rfl,by decide+kernel,by decide+kernel⟩
def Gx:au->Ou :=
  fX (fA (ao (Gb (fK (aH 0))) aR) jt)
def oM:List D->Rs D:=fun ds=>gB (Gx (bG ["cells"] ds))
theorem acD(T:Txt K mg ) {f:ab}{fd:ck}(F:vW K "rising" "rising" qM f fd) (hm:mg "rising"=some (.ref f)) :kE P w K mg base "rising" 1 1 oM :=
 fO (k:=0) (g:=Gx) F hm acC (fun _ _ _ _ _ _ us hl=>match us,hl with|[_],_=>rfl) fun cdv A outer s H E B hr hx =>
  bw (cM (uw T.nJ (Yx rfl T.oK (alM rfl (dO hr) T.apq (sv 0)))))
theorem uM:bQ ["one","other","sums","step"] ["one","other"] (aD jz):=⟨rfl,rfl,rfl,by decide+kernel,rfl,by decide+kernel,by decide+kernel⟩
def yP:au->Rs D :=
  fA (ao (aH 0) (ao (aH 1) aR)) (bC 2 eE)
def nM:au->Ou :=
  Ln 2 (dw (aU 0) (fun _=>.ok true) yP 1 [3] (fL (aH 0) Xr))
def rY:au->Ou :=
  bU (alN 2 aR)
  (bU (qy (ud (aU 3) nM (aH 1)))
  (air 2 (fX (fA (ao (aH 2) aR) (bC 1 oM)))))
def jC:List D->Rs D:=fun ds=>gB (rY (bG ["one","other","sums","step"] ds))
theorem Vo(T:Txt K mg ) {f:ab}{fd:ck}(F:vW K "all_sums" "all_sums" jz f fd) (hm:mg "all_sums"=some (.ref f)) (dG:kE P w K mg base "cell_moved" 1 2 eE) (qQ:kE P w K mg base "rising" 1 1 oM):kE P w K mg base "all_sums" 2 2 jC :=
 fO (k:=1) (g:=rY) F hm uM (fun _ _ _ _ _ _ us hl=>match us,hl with|[_,_],_=>rfl) fun cdv A outer s H E B hr hx =>
  aW (alO 2 uM.nd aK)
  (aW (iU (pA ef rfl (sv 1) (rg 3 uM.nd) (bw (aiB 2 (rD (kI (aD jz) ["one","other","sums","step"] (N:=["cell","step"]) (nt:=1) (caps:=[3]) (by decide+kernel)) rfl (by decide+kernel) (zQ (sv 0)) dR (fun s₀ H₀ C ex pins B1=>rg 0 (show g_ (["cell","step"]:List Str) by decide)) (fun s₀ H₀ C ex pins B1=>bN dG (hr.mono (by decide)) cX (ak (sv 0) (ak (sv 1) aK))))))))
  (afd 2 (bw (cM (bN qQ (hr.mono (by decide)) hx (ak (sv 2) aK))))))
theorem Vp:bQ ["piece"] ["piece"] (aD jA):=⟨rfl,rfl,rfl,by decide+kernel,rfl,by decide+kernel,by decide+kernel⟩
def yQ:au->Rs D :=
  fA (ao (Ye (bW fH (aH 0) (fC (.int 0)))) (ao (Ye (bW fH (aH 0) (fC (.int 1)))) aR)) dJ
def rZ:au->Ou :=
  fX (fA (ao (dw (aU 0) (fun _=>.ok true) yQ 1 [] (fL (aH 0) Xr)) aR) (bC 1 oM))
def jD:List D->Rs D:=fun ds=>gB (rZ (bG ["piece"] ds))
theorem Vq(T:Txt K mg ) {f:ab}{fd:ck}(F:vW K "mirrored" "mirrored" jA f fd) (hm:mg "mirrored"=some (.ref f)) (qQ:kE P w K mg base "rising" 1 1 oM):kE P w K mg base "mirrored" 2 1 jD :=
 fO (k:=1) (g:=rZ) F hm Vp (fun _ _ _ _ _ _ us hl=>match us,hl with|[_],_=>rfl) fun cdv A outer s H E B hr hx =>
  bw (cM (bN qQ (hr.mono (by decide)) hx (ak (rD (kI (aD jA) ["piece"] (N:=["step"]) (nt:=1) (caps:=[]) (by decide+kernel)) rfl (by decide+kernel) (zQ (sv 0)) dR (fun s₀ H₀ C ex pins B1=>rg 0 (show g_ (["step"]:List Str) by decide)) (fun s₀ H₀ C ex pins B1=>eU (ak (Yg (cF (sv 0) aJ)) (ak (Yg (cF (sv 0) aJ)) aK)))) aK)))
theorem iI:bQ ["piece","met","place","stride"] ["piece"] (aD cQ):=⟨rfl,rfl,rfl,by decide+kernel,rfl,by decide+kernel,by decide+kernel⟩
def gR:au->Ou :=
  bU (kj 3 (fA (ao (bW fH (aH 0) (aH 2)) (ao (bW fH (aH 0) (bW iT (aH 2) (fC (.int 1)))) aR)) (bC 2 eF)))
  (qH 1 (bW dh (Gg 1 (ao (aH 3) (ao (fC (.int 0)) aR))) (fC (.int 1))) (aH 3))
def ji:au->Ou :=
  bU (Iw 1)
  (bU (qy (Ez (aU 2) gR (ao (fC (.int 1)) (ao (fA (ao (aH 0) aR) vX) aR))))
  (LK 1 (fX (Vh [1] (fB (aH 1) xu) (bW Iz (aH 1) (aH 0)) (fA (ao (fC (.int 0)) (ao (fC (.int 1)) aR)) dJ)))))
def gC:List D->Rs D:=fun ds=>gB (ji (bG ["piece","met","place","stride"] ds))
theorem Ab(T:Txt K mg ) {f c0 t0:ab}{fd:ck}(F:amu K "common_stride" cQ f fd c0 t0 "common_stride.<locals>.<lambda>") (hm:mg "common_stride"=some (.ref f)) (eG:kE P w K mg base "cell_less" 1 2 eF):kE P w K mg base "common_stride" 2 1 gC :=
 aji (k:=1) (g:=ji) F hm iI (fun _ _ _ _ _ _ us hl=>match us,hl with|[_],_=>rfl) fun A outer s H E B hr hx =>
  aW (rM 1 iI.nd)
  (aW (iU (aef ef rfl T.rW aJ (wN T.Cj (sv 0)) (rg 2 iI.nd) (aW (jw 3 iI.nd (bN eG (hr.mono (by decide)) cX (ak (cF (sv 0) (sv 2)) (ak (cF (sv 0) (pW (sv 2) aJ)) aK))))
  (bw (pB 1 (dO hr) (gM (aaR 1 (dO hr) (ak (sv 3) (ak aJ aK))) aJ) (sv 3))))))
  (DY 1 (bw (cM (ajf (caps:=[1]) (pn:="difference") (Nc:=["met"]) rfl rfl hr T.apo rfl (afU rfl T.amC (sv 1)) (eU (ak aJ (ak aJ aK))) (kI (aD cQ) ["piece","met","place","stride"] (N:=["difference","met"]) (nt:=1) (caps:=[1]) (by decide+kernel)) rfl (fun s₀ H₀ f₀ cd₀ B1=>afM (apj hr) (sv 1) (sv 0)) F.mem rfl F.hd rfl rfl rfl rfl (fun _ _ _ _=>rfl))))))
theorem oN:bQ ["cells","stride","lengths","cell"] ["cells","stride"] (aD gG):=⟨rfl,rfl,rfl,by decide+kernel,rfl,by decide+kernel,by decide+kernel⟩
def jj:au->Ou :=
  qH 2 (bW dh (Gg 2 (ao (fA (ao (aH 3) (ao (aH 1) aR)) (bC 2 eE)) (ao (fC (.int 0)) aR))) (fC (.int 1))) (aH 3)
def mC:au->Ou :=
  bU (Iw 2)
  (bU (qy (Gj (aU 3) jj (fL (aH 0) asV)))
  (LK 2 (fX (aH 2))))
def fj:List D->Rs D:=fun ds=>gB (mC (bG ["cells","stride","lengths","cell"] ds))
theorem Gy(T:Txt K mg ) {f:ab}{fd:ck}(F:vW K "run_lengths" "run_lengths" gG f fd) (hm:mg "run_lengths"=some (.ref f)) (dG:kE P w K mg base "cell_moved" 1 2 eE):kE P w K mg base "run_lengths" 2 2 fj :=
 fO (k:=1) (g:=mC) F hm oN (fun _ _ _ _ _ _ us hl=>match us,hl with|[_,_],_=>rfl) fun cdv A outer s H E B hr hx =>
  aW (rM 2 oN.nd)
  (aW (iU (aaT ef rfl (amo T.Zf (sv 0)) (rg 3 oN.nd) (bw (pB 2 (dO hr) (gM (aaR 2 (dO hr) (ak (bN dG (hr.mono (by decide)) cX (ak (sv 3) (ak (sv 1) aK))) (ak aJ aK))) aJ) (sv 3)))))
  (DY 2 (bw (cM (sv 2)))))
theorem lR:bQ ["piece","stride","lengths","heads"] ["piece","stride"] (aD cR):=⟨rfl,rfl,rfl,by decide+kernel,rfl,by decide+kernel,by decide+kernel⟩
def pF:au->Rs D :=
  aH 0
def kZ:au->Rs Bool :=
  fT (bW (yN true) (fA (ao (aH 0) (ao (aH 2) aR)) (bC 2 eF)) (aH 1))
def pG:au->Rs D :=
  fA (ao (aH 0) (ao (bW Iz (aH 1) (aH 0)) aR)) dJ
def jk:au->Ou :=
  bU (kj 2 (fA (ao (aH 0) (ao (aH 1) aR)) (bC 2 fj)))
  (bU (kj 3 (dw (aU 0) kZ pF 1 [2,1] (fL (aH 0) Xr)))
  (fX (dw (aU 0) (fun _=>.ok true) pG 1 [2] (fL (aH 3) asL))))
def gD:List D->Rs D:=fun ds=>gB (jk (bG ["piece","stride","lengths","heads"] ds))
theorem Ac(T:Txt K mg ) {f:ab}{fd:ck}(F:vW K "heads_of_runs" "heads_of_runs" cR f fd) (hm:mg "heads_of_runs"=some (.ref f)) (gJ:kE P w K mg base "run_lengths" 2 2 fj) (eG:kE P w K mg base "cell_less" 1 2 eF):kE P w K mg base "heads_of_runs" 3 2 gD :=
 fO (k:=2) (g:=jk) F hm lR (fun _ _ _ _ _ _ us hl=>match us,hl with|[_,_],_=>rfl) fun cdv A outer s H E B hr hx =>
  aW (jw 2 lR.nd (bN gJ (hr.mono (by decide)) hx (ak (sv 0) (ak (sv 1) aK))))
  (aW (Lj 3 lR.nd (kI (aD cR) ["piece","stride","lengths","heads"] (N:=["step","lengths","stride"]) (nt:=1) (caps:=[2,1]) (by decide+kernel)) rfl (by decide+kernel) (zQ (sv 0)) dR (fun s₀ H₀ C ex pins B1=>rg 0 (show g_ (["step","lengths","stride"]:List Str) by decide)) (fun s₀ H₀ C ex pins B1=>aiY (dO hr) (bN eG (hr.mono (by decide)) cX (ak (sv 0) (ak (sv 2) aK))) (sv 1)) (fun s₀ H₀ C ex pins B1=>sv 0))
  (bw (cM (rD (kI (aD cR) ["piece","stride","lengths","heads"] (N:=["head","lengths"]) (nt:=1) (caps:=[2]) (by decide+kernel)) rfl (by decide+kernel) (Dy (sv 3)) dR (fun s₀ H₀ C ex pins B1=>rg 0 (show g_ (["head","lengths"]:List Str) by decide)) (fun s₀ H₀ C ex pins B1=>eU (ak (sv 0) (ak (afM (dO hr) (sv 1) (sv 0)) aK)))))))
theorem cW:bQ ["cells","piece","stride","lengths","places","head","length"] ["cells","piece"] (aD cT):=⟨rfl,rfl,rfl,by decide+kernel,rfl,by decide+kernel,by decide+kernel⟩
def lg:au->Rs D :=
  fA (ao (aH 0) (ao (bW fH (aH 1) (fC (.int 0))) aR)) (bC 2 eF)
def pH:au->Rs D :=
  aH 0
def lu:au->Rs Bool :=
  fT (bW gGe (Vf 2 (ao (fA (ao (aH 0) (ao (aH 3) aR)) (bC 2 eE)) (ao (fC (.int 0)) aR))) (aH 1))
def gU:au->Ou :=
  kj 4 (dw (aU 0) lu pH 1 [6,3,5] (fL (aH 4) asL))
def jl:au->Ou :=
  bU (kj 2 (fA (ao (aH 1) aR) (bC 1 gC)))
  (bU (kj 3 (fA (ao (aH 0) (ao (aH 2) aR)) (bC 2 fj)))
  (bU (kj 4 (dw (aU 0) (fun _=>.ok true) lg 1 [1] (fL (aH 0) Xr)))
  (bU (qy (KH (ju 2 (bR (aU 5) (bR (aU 6) jY))) gU (fA (ao (aH 1) (ao (aH 2) aR)) (bC 2 gD))))
  (fX (fA (ao (aH 4) aR) jt)))))
def dF:List D->Rs D:=fun ds=>gB (jl (bG ["cells","piece","stride","lengths","places","head","length"] ds))
theorem Ad(T:Txt K mg ) {f:ab}{fd:ck}(F:vW K "places_within" "places_within" cT f fd) (hm:mg "places_within"=some (.ref f)) (mZ:kE P w K mg base "common_stride" 2 1 gC) (gJ:kE P w K mg base "run_lengths" 2 2 fj) (eG:kE P w K mg base "cell_less" 1 2 eF) (dG:kE P w K mg base "cell_moved" 1 2 eE) (ni:kE P w K mg base "heads_of_runs" 3 2 gD):kE P w K mg base "places_within" 4 2 dF :=
 fO (k:=3) (g:=jl) F hm cW (fun _ _ _ _ _ _ us hl=>match us,hl with|[_,_],_=>rfl) fun cdv A outer s H E B hr hx =>
  aW (jw 2 cW.nd (bN mZ (hr.mono (by decide)) hx (ak (sv 1) aK)))
  (aW (jw 3 cW.nd (bN gJ (hr.mono (by decide)) hx (ak (sv 0) (ak (sv 2) aK))))
  (aW (ais 4 cW.nd (kI (aD cT) ["cells","piece","stride","lengths","places","head","length"] (N:=["cell","piece"]) (nt:=1) (caps:=[1]) (by decide+kernel)) rfl (by decide+kernel) (zQ (sv 0)) dR (fun s₀ H₀ C ex pins B1=>rg 0 (show g_ (["cell","piece"]:List Str) by decide)) (fun s₀ H₀ C ex pins B1=>bN eG (hr.mono (by decide)) cX (ak (sv 0) (ak (cF (sv 1) aJ) aK))))
  (aW (iU (Nf ef rfl (bN ni (hr.mono (by decide)) cX (ak (sv 1) (ak (sv 2) aK))) (ou rfl (cG (rg 5 cW.nd) (cG (rg 6 cW.nd) jZ))) (bw (Lj 4 cW.nd (kI (aD cT) ["cells","piece","stride","lengths","places","head","length"] (N:=["place","length","lengths","head"]) (nt:=1) (caps:=[6,3,5]) (by decide+kernel)) rfl (by decide+kernel) (Dy (sv 4)) dR (fun s₀ H₀ C ex pins B1=>rg 0 (show g_ (["place","length","lengths","head"]:List Str) by decide)) (fun s₀ H₀ C ex pins B1=>ajS (aiZ 2 (dO hr) (ak (bN dG (hr.mono (by decide)) cX (ak (sv 0) (ak (sv 3) aK))) (ak aJ aK))) (sv 1)) (fun s₀ H₀ C ex pins B1=>sv 0)))))
  (bw (cM (uw T.nJ (sv 4)))))))
theorem agd:bQ ["shape","piece"] ["shape","piece"] (aD vN):=⟨rfl,rfl,rfl,by decide+kernel,rfl,by decide+kernel,by decide+kernel⟩
def vP:au->Ou :=
  bU (zG (fT (bW fH (aH 0) (fC (.int 1)))) (fX (fA (ao (fA (ao (bW fH (aH 0) (fC (.int 0))) (ao (fA (ao (aH 1) aR) (bC 1 jD)) aR)) (bC 2 dF)) (ao (fC (.bl true)) aR)) dJ)) yr)
  (fX (fA (ao (fA (ao (bW fH (aH 0) (fC (.int 0))) (ao (aH 1) aR)) (bC 2 jC)) (ao (fC (.bl false)) aR)) dJ))
def pI:List D->Rs D:=fun ds=>gB (vP (bG ["shape","piece"] ds))
theorem agf(T:Txt K mg ) {f:ab}{fd:ck}(F:vW K "grown" "grown" vN f fd) (hm:mg "grown"=some (.ref f)) (dW:kE P w K mg base "places_within" 4 2 dF) (lU:kE P w K mg base "mirrored" 2 1 jD) (lV:kE P w K mg base "all_sums" 2 2 jC):kE P w K mg base "grown" 5 2 pI :=
 fO (k:=4) (g:=vP) F hm agd (fun _ _ _ _ _ _ us hl=>match us,hl with|[_,_],_=>rfl) fun cdv A outer s H E B hr hx =>
  aW (oE (lM (cF (sv 0) aJ)) (bw (cM (eU (ak (bN dW (hr.mono (by decide)) hx (ak (cF (sv 0) aJ) (ak (bN lU (hr.mono (by decide)) hx (ak (sv 1) aK)) aK))) (ak jE aK))))) gP)
  (bw (cM (eU (ak (bN lV (hr.mono (by decide)) hx (ak (cF (sv 0) aJ) (ak (sv 1) aK))) (ak jE aK)))))
theorem agg:bQ ["shape","piece"] ["shape","piece"] (aD vO):=⟨rfl,rfl,rfl,by decide+kernel,rfl,by decide+kernel,by decide+kernel⟩
def vQ:au->Ou :=
  bU (zG (fT (bW fH (aH 0) (fC (.int 1)))) (fX (fA (ao (fA (ao (bW fH (aH 0) (fC (.int 0))) (ao (fA (ao (aH 1) aR) (bC 1 jD)) aR)) (bC 2 jC)) (ao (fC (.bl true)) aR)) dJ)) yr)
  (fX (fA (ao (fA (ao (bW fH (aH 0) (fC (.int 0))) (ao (aH 1) aR)) (bC 2 dF)) (ao (fC (.bl false)) aR)) dJ))
def pJ:List D->Rs D:=fun ds=>gB (vQ (bG ["shape","piece"] ds))
theorem agh(T:Txt K mg ) {f:ab}{fd:ck}(F:vW K "eaten" "eaten" vO f fd) (hm:mg "eaten"=some (.ref f)) (lV:kE P w K mg base "all_sums" 2 2 jC) (lU:kE P w K mg base "mirrored" 2 1 jD) (dW:kE P w K mg base "places_within" 4 2 dF):kE P w K mg base "eaten" 5 2 pJ :=
 fO (k:=4) (g:=vQ) F hm agg (fun _ _ _ _ _ _ us hl=>match us,hl with|[_,_],_=>rfl) fun cdv A outer s H E B hr hx =>
  aW (oE (lM (cF (sv 0) aJ)) (bw (cM (eU (ak (bN lV (hr.mono (by decide)) hx (ak (cF (sv 0) aJ) (ak (bN lU (hr.mono (by decide)) hx (ak (sv 1) aK)) aK))) (ak jE aK))))) gP)
  (bw (cM (eU (ak (bN dW (hr.mono (by decide)) hx (ak (cF (sv 0) aJ) (ak (sv 1) aK))) (ak jE aK)))))
theorem acE:bQ ["shape","piece"] ["shape","piece"] (aD qN):=⟨rfl,rfl,rfl,by decide+kernel,rfl,by decide+kernel,by decide+kernel⟩
def yR:au->Ou :=
  fX (fA (ao (fA (ao (aH 0) (ao (aH 1) aR)) (bC 2 pJ)) (ao (aH 1) aR)) (bC 2 pI))
def oU:List D->Rs D:=fun ds=>gB (yR (bG ["shape","piece"] ds))
theorem acF(T:Txt K mg ) {f:ab}{fd:ck}(F:vW K "opened" "opened" qN f fd) (hm:mg "opened"=some (.ref f)) (vR:kE P w K mg base "grown" 5 2 pI) (vU:kE P w K mg base "eaten" 5 2 pJ):kE P w K mg base "opened" 6 2 oU :=
 fO (k:=5) (g:=yR) F hm acE (fun _ _ _ _ _ _ us hl=>match us,hl with|[_,_],_=>rfl) fun cdv A outer s H E B hr hx =>
  bw (cM (bN vR (hr.mono (by decide)) hx (ak (bN vU (hr.mono (by decide)) hx (ak (sv 0) (ak (sv 1) aK))) (ak (sv 1) aK))))
theorem acG:bQ ["shape","piece"] ["shape","piece"] (aD qO):=⟨rfl,rfl,rfl,by decide+kernel,rfl,by decide+kernel,by decide+kernel⟩
def yS:au->Ou :=
  fX (fA (ao (fA (ao (aH 0) (ao (aH 1) aR)) (bC 2 pI)) (ao (aH 1) aR)) (bC 2 pJ))
def oV:List D->Rs D:=fun ds=>gB (yS (bG ["shape","piece"] ds))
theorem acH(T:Txt K mg ) {f:ab}{fd:ck}(F:vW K "closed" "closed" qO f fd) (hm:mg "closed"=some (.ref f)) (vU:kE P w K mg base "eaten" 5 2 pJ) (vR:kE P w K mg base "grown" 5 2 pI):kE P w K mg base "closed" 6 2 oV :=
 fO (k:=5) (g:=yS) F hm acG (fun _ _ _ _ _ _ us hl=>match us,hl with|[_,_],_=>rfl) fun cdv A outer s H E B hr hx =>
  bw (cM (bN vU (hr.mono (by decide)) hx (ak (bN vR (hr.mono (by decide)) hx (ak (sv 0) (ak (sv 1) aK))) (ak (sv 1) aK))))
theorem qe:bQ ["cell","k","part"] ["cell","k"] (aD iC):=⟨rfl,rfl,rfl,by decide+kernel,rfl,by decide+kernel,by decide+kernel⟩
def su:au->Ou :=
  bU (kj 2 (bW Cy (bW nG (bW dh (bW dh (bW Cy (aH 0) (fC (.int 1000000000000000009))) (bW nG (fC (.int 7919)) (aH 1))) (fC (.int 12345))) (fC (.int 48271))) (fC (.int 2305843009213693951))))
  (bU (kj 2 (bW Cy (bW nG (aH 2) (aH 2)) (fC (.int 2305843009213693921))))
  (fX (bW adY (bW Cy (bW nG (bW dh (aH 2) (aH 1)) (fC (.int 69621))) (fC (.int 2305843009213693951))) (fC (.int 8)))))
def iJ:List D->Rs D:=fun ds=>gB (su (bG ["cell","k","part"] ds))
theorem IW(T:Txt K mg ) {f:ab}{fd:ck}(F:vW K "_law_mixed" "_law_mixed" iC f fd) (hm:mg "_law_mixed"=some (.ref f)) :kE P w K mg base "_law_mixed" 1 2 iJ :=
 fO (k:=0) (g:=su) F hm qe (fun _ _ _ _ _ _ us hl=>match us,hl with|[_,_],_=>rfl) fun cdv A outer s H E B hr hx =>
  aW (jw 2 qe.nd (Ew (tZ (gM (gM (Ew (sv 0) aJ) (tZ aJ (sv 1))) aJ) aJ) aJ))
  (aW (jw 2 qe.nd (Ew (tZ (sv 2) (sv 2)) aJ))
  (bw (cM (alb (Ew (tZ (gM (sv 2) (sv 1)) aJ) aJ) aJ))))
theorem nO:bQ ["cell","great","k"] ["cell"] (aD jL):=⟨rfl,rfl,rfl,by decide+kernel,rfl,by decide+kernel,by decide+kernel⟩
def nP:au->Ou :=
  kj 1 (bW dh (bW nG (aH 1) (fC (.int 1152921504606846976))) (bW Cy (fA (ao (aH 0) (ao (aH 2) aR)) (bC 2 iJ)) (fC (.int 1152921504606846976))))
def jQ:au->Ou :=
  bU (zG (fT (bW gGe (aH 0) (bW Td (fC (.int 10)) (fC (.int 18))))) (Lr (ao (bW iT (aH 0) (bW Td (fC (.int 10)) (fC (.int 18)))) aR)) yr)
  (bU (kj 1 (fC (.int 0)))
  (bU (qy (Ey (aU 2) nP (fC (.int 24))))
  (Lr (ao (aH 1) aR))))
def jR:List D->Rs (List D):=fun ds=>aoG (jQ (bG ["cell","great","k"] ds))
theorem Pb(T:Txt K mg ) {f:ab}{fd:ck}(F:vW K "_law_deal" "_law_deal" jL f fd) (hm:mg "_law_deal"=some (.ref f)) (sy:kE P w K mg base "_law_mixed" 1 2 iJ):Okf P w K mg base "_law_deal" 2 1 jR :=
 alV (k:=1) (g:=jQ) F hm nO (fun _ _ _ _ _ _ us hl=>match us,hl with|[_],_=>rfl) fun cdv A outer s H E B hr hx =>
  aW (oE (ajS (sv 0) (adZ aJ aJ)) (bw (aaW (ak (pW (sv 0) (adZ aJ aJ)) aK))) gP)
  (aW (jw 1 nO.nd aJ)
  (aW (iU (Ng ef rfl T.rW aJ (rg 2 nO.nd) (bw (jw 1 nO.nd (gM (tZ (sv 1) aJ) (Ew (bN sy (hr.mono (by decide)) cX (ak (sv 0) (ak (sv 2) aK))) aJ))))))
  (bw (aaW (ak (sv 1) aK)))))
theorem yU:bQ ["left","many","digit"] ["left","many"] (aD jM):=⟨rfl,rfl,rfl,by decide+kernel,rfl,by decide+kernel,by decide+kernel⟩
def pK:au->Ou :=
  bU (UW 0 2 (fA (ao (afD 0 (fC (.int 0))) (ao (aH 1) aR)) gDm) (fC (.int 0)))
  (xg (xP (aH 2)))
def aP:List D->List D->Rs (D×List D):=fun es ds=>YJ (pK (iZ ["left","many","digit"] es ds))
theorem Pg(T:Txt K mg ) {f:ab}{fd:ck}(F:vW K "_law_next" "_law_next" jM f fd) (hm:mg "_law_next"=some (.ref f)) :Xv P w K mg base "_law_next" 1 1 aP :=
 Gn (k:=0) (g:=pK) F hm yU (fun _ _ _ _ _ _ us hl=>match us,hl with|[_,_],_=>rfl) fun cdv A outer s H E B hr hx =>
  aW (aiM 0 2 rfl yU.nd (abL T.agc (amb 0 aJ) (sv 1)) aJ)
  (bw (uH (je (W:=WF) (sv 2))))
theorem Ph:bQ ["left","way","lead","spread"] ["left","way","lead","spread"] (aD jN):=⟨rfl,rfl,rfl,by decide+kernel,rfl,by decide+kernel,by decide+kernel⟩
def iz:au->Ou :=
  bU (xIf (acj (xPT (fT (bW RM (aH 1) (fC (.int 3))))) (xT (pq RM (xM 0 1 aP (rO (ao (fC (.int 3)) aR))) (xP (fC (.int 0)))))) (xg (xA (dM (pq iT (xM 0 1 aP (rO (ao (fC (.int 2000001)) aR))) (xP (fC (.int 1000000)))) (dM (pq fH (xP (fA (ao (Ye (fC (.int 1000000))) (ao (fC (.int 1000000)) aR)) yc)) (xM 0 1 aP (rO (ao (fC (.int 2)) aR)))) tQ)) dJ)) yr)
  (bU (zG (fT (bW RM (aH 1) (fC (.int 1)))) (xg (xA (dM (xP (fC (.int 0))) (dM (pq nG (pq iT (xM 0 1 aP (rO (ao (fC (.int 13)) aR))) (xP (fC (.int 6)))) (xP (aH 3))) tQ)) dJ)) yr)
  (xg (xA (dM (pq iT (pq dh (xP (bW fH (aH 2) (fC (.int 0)))) (xM 0 1 aP (rO (ao (fC (.int 5)) aR)))) (xP (fC (.int 2)))) (dM (pq iT (pq dh (xP (bW fH (aH 2) (fC (.int 1)))) (xM 0 1 aP (rO (ao (fC (.int 5)) aR)))) (xP (fC (.int 2)))) tQ)) dJ)))
def jT:List D->List D->Rs (D×List D):=fun es ds=>YJ (iz (iZ ["left","way","lead","spread"] es ds))
theorem Pj(T:Txt K mg ) {f:ab}{fd:ck}(F:vW K "_law_step" "_law_step" jN f fd) (hm:mg "_law_step"=some (.ref f)) (aX:Xv P w K mg base "_law_next" 1 1 aP):Xv P w K mg base "_law_step" 2 3 jT :=
 Gn (k:=1) (g:=iz) F hm Ph (fun _ _ _ _ _ _ us hl=>match us,hl with|[_,_,_,_],_=>rfl) fun cdv A outer s H E B hr hx =>
  aW (afE (aoJ (aiH (aoI (W:=WF) (ael (dO hr) (sv 1) aJ)) (afA (afH (dO hr) (bO 0 aX (hr.mono (by decide)) (fD (W:=WF) (ak aJ aK))) (je (W:=WF) aJ))))) (bw (uH (wY (cL (qd (bO 0 aX (hr.mono (by decide)) (fD (W:=WF) (ak aJ aK))) (je (W:=WF) aJ)) (cL (afC (je (W:=WF) (wM (ak (Yg aJ) (ak aJ aK)))) (bO 0 aX (hr.mono (by decide)) (fD (W:=WF) (ak aJ aK)))) kY))))) gP)
  (aW (oE (ael (dO hr) (sv 1) aJ) (bw (uH (wY (cL (je (W:=WF) aJ) (cL (ama (qd (bO 0 aX (hr.mono (by decide)) (fD (W:=WF) (ak aJ aK))) (je (W:=WF) aJ)) (je (W:=WF) (sv 3))) kY))))) gP)
  (bw (uH (wY (cL (qd (wZ (je (W:=WF) (cF (sv 2) aJ)) (bO 0 aX (hr.mono (by decide)) (fD (W:=WF) (ak aJ aK)))) (je (W:=WF) aJ)) (cL (qd (wZ (je (W:=WF) (cF (sv 2) aJ)) (bO 0 aX (hr.mono (by decide)) (fD (W:=WF) (ak aJ aK)))) (je (W:=WF) aJ)) kY))))))
theorem dH:bQ ["left","way","many","spread","lead","steps","k"] ["left"] (aD iD):=⟨rfl,rfl,rfl,by decide+kernel,rfl,by decide+kernel,by decide+kernel⟩
def mD:au->Ou :=
  Gq 5 (fC (.bl true)) (xM 0 3 jT (rO (ao (aH 1) (ao (aH 4) (ao (aH 3) aR)))))
def nQ:au->Ou :=
  bU (xq 1 (xM 0 1 aP (rO (ao (fC (.int 4)) aR))))
  (bU (xq 2 (pq dh (xP (fC (.int 1))) (xM 0 1 aP (dM (pq fH (xP (fA (ao (fC (.int 4)) (ao (fC (.int 3)) (ao (fC (.int 4)) (ao (fC (.int 12)) aR)))) yc)) (xM 0 1 aP (rO (ao (fC (.int 4)) aR)))) tQ))))
  (bU (xq 3 (pq fH (xP (fA (ao (fC (.int 1)) (ao (fC (.int 1)) (ao (fC (.int 7)) (ao (fC (.int 100003)) aR)))) yc)) (xM 0 1 aP (rO (ao (fC (.int 4)) aR)))))
  (bU (kj 4 (fA (ao (fC (.int 0)) (ao (fC (.int 0)) aR)) dJ))
  (bU (zG (fT (bW RM (aH 1) (fC (.int 2)))) (xq 4 (xA (dM (pq iT (xM 0 1 aP (rO (ao (fC (.int 1999997)) aR))) (xP (fC (.int 999998)))) (dM (pq iT (xM 0 1 aP (rO (ao (fC (.int 1999997)) aR))) (xP (fC (.int 999998)))) tQ)) dJ)) yr)
  (bU (Iw 5)
  (bU (qy (Ey (aU 6) mD (aH 2)))
  (xg (xP (fA (ao (uE 5) aR) jt)))))))))
def gw:List D->List D->Rs (D×List D):=fun es ds=>YJ (nQ (iZ ["left","way","many","spread","lead","steps","k"] es ds))
theorem Ja(T:Txt K mg ) {f:ab}{fd:ck}(F:vW K "_law_piece" "_law_piece" iD f fd) (hm:mg "_law_piece"=some (.ref f)) (aX:Xv P w K mg base "_law_next" 1 1 aP) (uN:Xv P w K mg base "_law_step" 2 3 jT):Xv P w K mg base "_law_piece" 3 0 gw :=
 Gn (k:=2) (g:=nQ) F hm dH (fun _ _ _ _ _ _ us hl=>match us,hl with|[_],_=>rfl) fun cdv A outer s H E B hr hx =>
  aW (rP 1 dH.nd (bO 0 aX (hr.mono (by decide)) (fD (W:=WF) (ak aJ aK))))
  (aW (rP 2 dH.nd (wZ (je (W:=WF) aJ) (bO 0 aX (hr.mono (by decide)) (cL (afC (je (W:=WF) (wM (ak aJ (ak aJ (ak aJ (ak aJ aK)))))) (bO 0 aX (hr.mono (by decide)) (fD (W:=WF) (ak aJ aK)))) kY))))
  (aW (rP 3 dH.nd (afC (je (W:=WF) (wM (ak aJ (ak aJ (ak aJ (ak aJ aK)))))) (bO 0 aX (hr.mono (by decide)) (fD (W:=WF) (ak aJ aK)))))
  (aW (jw 4 dH.nd (eU (ak aJ (ak aJ aK))))
  (aW (oE (ael (dO hr) (sv 1) aJ) (bw (rP 4 dH.nd (wY (cL (qd (bO 0 aX (hr.mono (by decide)) (fD (W:=WF) (ak aJ aK))) (je (W:=WF) aJ)) (cL (qd (bO 0 aX (hr.mono (by decide)) (fD (W:=WF) (ak aJ aK))) (je (W:=WF) aJ)) kY))))) gP)
  (aW (rM 5 dH.nd)
  (aW (iU (Ng ef rfl T.rW (sv 2) (rg 6 dH.nd) (bw (aaY 5 (dO hr) jE (bO 0 uN (hr.mono (by decide)) (fD (W:=WF) (ak (sv 1) (ak (sv 4) (ak (sv 3) aK)))))))))
  (bw (uH (je (W:=WF) (uw T.nJ (yJ 5 rfl T.oK)))))))))))
theorem Zg:bQ ["piece","cell"] ["piece","cell"] (aD lQ):=⟨rfl,rfl,rfl,by decide+kernel,rfl,by decide+kernel,by decide+kernel⟩
def xH:au->Rs D :=
  fA (ao (bW dh (bW fH (aH 2) (fC (.int 0))) (aH 0)) (ao (bW dh (bW fH (aH 2) (fC (.int 1))) (aH 1)) aR)) dJ
def vV:au->Ou :=
  fX (dw (ju 2 (bR (aU 0) (bR (aU 1) jY))) (fun _=>.ok true) xH 2 [1] (fL (aH 0) Xr))
def gK:List D->Rs D:=fun ds=>gB (vV (bG ["piece","cell"] ds))
theorem Zh(T:Txt K mg ) {f:ab}{fd:ck}(F:vW K "_law_on" "_law_on" lQ f fd) (hm:mg "_law_on"=some (.ref f)) :kE P w K mg base "_law_on" 1 2 gK :=
 fO (k:=0) (g:=vV) F hm Zg (fun _ _ _ _ _ _ us hl=>match us,hl with|[_,_],_=>rfl) fun cdv A outer s H E B hr hx =>
  bw (cM (rD (kI (aD lQ) ["piece","cell"] (N:=["row","column","cell"]) (nt:=2) (caps:=[1]) (by decide+kernel)) rfl (by decide+kernel) (zQ (sv 0)) (Tv (vC dR (vC dR Tt))) (fun s₀ H₀ C ex pins B1=>ou rfl (cG (rg 0 (show g_ (["row","column","cell"]:List Str) by decide)) (cG (rg 1 (show g_ (["row","column","cell"]:List Str) by decide)) jZ))) (fun s₀ H₀ C ex pins B1=>eU (ak (gM (cF (sv 2) aJ) (sv 0)) (ak (gM (cF (sv 2) aJ) (sv 1)) aK)))))
theorem yV:bQ ["left","far"] ["left"] (aD jO):=⟨rfl,rfl,rfl,by decide+kernel,rfl,by decide+kernel,by decide+kernel⟩
def mX:au->Ou :=
  bU (xIf (xT (pq gGt (xM 0 1 aP (rO (ao (fC (.int 3)) aR))) (xP (fC (.int 0))))) (xg (xP (fA (ao (fC (.int 0)) (ao (fC (.int 0)) aR)) dJ))) yr)
  (bU (kj 1 (fC (.int 999900000000)))
  (xg (xA (dM (pq iT (xM 0 1 aP (rO (ao (bW dh (bW nG (fC (.int 2)) (aH 1)) (fC (.int 1))) aR))) (xP (aH 1))) (dM (pq iT (xM 0 1 aP (rO (ao (bW dh (bW nG (fC (.int 2)) (aH 1)) (fC (.int 1))) aR))) (xP (aH 1))) tQ)) dJ)))
def jU:List D->List D->Rs (D×List D):=fun es ds=>YJ (mX (iZ ["left","far"] es ds))
theorem Pk(T:Txt K mg ) {f:ab}{fd:ck}(F:vW K "_law_lead" "_law_lead" jO f fd) (hm:mg "_law_lead"=some (.ref f)) (aX:Xv P w K mg base "_law_next" 1 1 aP):Xv P w K mg base "_law_lead" 2 0 jU :=
 Gn (k:=1) (g:=mX) F hm yV (fun _ _ _ _ _ _ us hl=>match us,hl with|[_],_=>rfl) fun cdv A outer s H E B hr hx =>
  aW (afE (amc (bO 0 aX (hr.mono (by decide)) (fD (W:=WF) (ak aJ aK))) (je (W:=WF) aJ)) (bw (uH (je (W:=WF) (eU (ak aJ (ak aJ aK)))))) gP)
  (aW (jw 1 yV.nd aJ)
  (bw (uH (wY (cL (qd (bO 0 aX (hr.mono (by decide)) (fD (W:=WF) (ak (gM (tZ aJ (sv 1)) aJ) aK))) (je (W:=WF) (sv 1))) (cL (qd (bO 0 aX (hr.mono (by decide)) (fD (W:=WF) (ak (gM (tZ aJ (sv 1)) aJ) aK))) (je (W:=WF) (sv 1))) kY))))))
theorem cZ:bQ ["left","piece","lead","rest","cells","k","mark","cell","told"] ["left","piece","lead"] (aD iG):=⟨rfl,rfl,rfl,by decide+kernel,rfl,by decide+kernel,by decide+kernel⟩
def mF:au->Ou :=
  qH 4 (fC (.bl true)) (aH 7)
def mG:au->Ou :=
  bU (xq 6 (xA (dM (pq dh (xP (bW fH (aH 2) (fC (.int 0)))) (xM 0 1 aP (rO (ao (fC (.int 4)) aR)))) (dM (pq dh (xP (bW fH (aH 2) (fC (.int 1)))) (xM 0 1 aP (rO (ao (fC (.int 4)) aR)))) tQ)) dJ))
  (KH (aU 7) mF (fA (ao (aH 1) (ao (aH 6) aR)) (bC 2 gK)))
def mH:au->Ou :=
  Gq 4 (fC (.bl true)) (xA (dM (pq iT (pq dh (xP (bW fH (aH 2) (fC (.int 0)))) (xM 0 1 aP (rO (ao (fC (.int 9)) aR)))) (xP (fC (.int 3)))) (dM (pq iT (pq dh (xP (bW fH (aH 2) (fC (.int 1)))) (xM 0 1 aP (rO (ao (fC (.int 9)) aR)))) (xP (fC (.int 3)))) tQ)) dJ)
def mJ:au->Ou :=
  zG (fT (Lx Tn 8 (fA aR yc))) (Lw 8 (xM 0 1 aP (rO (ao (aaV 8) aR)))) yr
def nR:au->Ou :=
  bU (xq 3 (pq RM (xM 0 1 aP (rO (ao (fC (.int 3)) aR))) (xP (fC (.int 0)))))
  (bU (Iw 4)
  (bU (qy (Ls (aU 5) mG (xM 0 1 aP (rO (ao (bW dh (fC (.int 3)) (bW nG (fC (.int 2)) (fA (ao (bW gLt (fA (ao (aH 1) aR) vX) (fC (.int 7))) aR) Yy))) aR)))))
  (bU (qy (Ls (aU 5) mH (xM 0 1 aP (rO (ao (fC (.int 6)) aR)))))
  (bU (Gr 8 4)
  (bU (qy (Ls (aU 5) mJ (xM 0 1 aP (rO (ao (fC (.int 3)) aR)))))
  (air 8 (xg (xP (fA (ao (fA (ao (aH 8) aR) jt) (ao (aH 3) aR)) dJ)))))))))
def lD:List D->List D->Rs (D×List D):=fun es ds=>YJ (nR (iZ ["left","piece","lead","rest","cells","k","mark","cell","told"] es ds))
theorem Jb(T:Txt K mg ) {f:ab}{fd:ck}(F:vW K "_law_shape" "_law_shape" iG f fd) (hm:mg "_law_shape"=some (.ref f)) (aX:Xv P w K mg base "_law_next" 1 1 aP) (iK:kE P w K mg base "_law_on" 1 2 gK):Xv P w K mg base "_law_shape" 2 2 lD :=
 Gn (k:=1) (g:=nR) F hm cZ (fun _ _ _ _ _ _ us hl=>match us,hl with|[_,_,_],_=>rfl) fun cdv A outer s H E B hr hx =>
  aW (rP 3 cZ.nd (aoK (dO hr) (bO 0 aX (hr.mono (by decide)) (fD (W:=WF) (ak aJ aK))) (je (W:=WF) aJ)))
  (aW (rM 4 cZ.nd)
  (aW (iU (Om ef rfl T.rW (bO 0 aX (hr.mono (by decide)) (fD (W:=WF) (ak (gM aJ (tZ aJ (alQ T.akm (aod (wN T.Cj (sv 1)) aJ)))) aK))) (rg 5 cZ.nd) (aW (rP 6 cZ.nd (wY (cL (wZ (je (W:=WF) (cF (sv 2) aJ)) (bO 0 aX (hr.mono (by decide)) (fD (W:=WF) (ak aJ aK)))) (cL (wZ (je (W:=WF) (cF (sv 2) aJ)) (bO 0 aX (hr.mono (by decide)) (fD (W:=WF) (ak aJ aK)))) kY))))
  (bw (Nf ef rfl (bN iK (hr.mono (by decide)) cX (ak (sv 1) (ak (sv 6) aK))) (rg 7 cZ.nd) (bw (pB 4 (dO hr) jE (sv 7))))))))
  (aW (iU (Om ef rfl T.rW (bO 0 aX (hr.mono (by decide)) (fD (W:=WF) (ak aJ aK))) (rg 5 cZ.nd) (bw (aaY 4 (dO hr) jE (wY (cL (qd (wZ (je (W:=WF) (cF (sv 2) aJ)) (bO 0 aX (hr.mono (by decide)) (fD (W:=WF) (ak aJ aK)))) (je (W:=WF) aJ)) (cL (qd (wZ (je (W:=WF) (cF (sv 2) aJ)) (bO 0 aX (hr.mono (by decide)) (fD (W:=WF) (ak aJ aK)))) (je (W:=WF) aJ)) kY)))))))
  (aW (afF 8 4 rfl cZ.nd T.oK)
  (aW (iU (Om ef rfl T.rW (bO 0 aX (hr.mono (by decide)) (fD (W:=WF) (ak aJ aK))) (rg 5 cZ.nd) (bw (oE (amd 8 (dO hr) (wM aK)) (bw (aiL 8 (bO 0 aX (hr.mono (by decide)) (fD (W:=WF) (ak (aiy 8 T.Cj) aK))))) gP))))
  (afd 8 (bw (uH (je (W:=WF) (eU (ak (uw T.nJ (sv 8)) (ak (sv 3) aK))))))))))))
theorem Gz:bQ ["found"] ["found"] (aD gH):=⟨rfl,rfl,rfl,by decide+kernel,rfl,by decide+kernel,by decide+kernel⟩
def wD:au->Ou :=
  fX (KC (fB (aH 0) (gIs .int)) (adT (fB (aH 0) (gIs .bool))))
def jf:List D->Rs D:=fun ds=>gB (wD (bG ["found"] ds))
theorem GC(T:Txt K mg ) {f:ab}{fd:ck}(F:vW K "_law_number" "_law_number" gH f fd) (hm:mg "_law_number"=some (.ref f)) :kE P w K mg base "_law_number" 1 1 jf :=
 fO (k:=0) (g:=wD) F hm Gz (fun _ _ _ _ _ _ us hl=>match us,hl with|[_],_=>rfl) fun cdv A outer s H E B hr hx =>
  bw (cM (adV (KQ (t:=.int) T.iH T.akm (sv 0) PyProof.Rows.Boot.«int») (adU (ala (KQ (t:=.bool) T.iH T.agb (sv 0) PyProof.Rows.Boot.«bool»)))))
theorem pL:bQ ["found","due","k"] ["found","due"] (aD dI):=⟨rfl,rfl,rfl,by decide+kernel,rfl,by decide+kernel,by decide+kernel⟩
def lE:au->Ou :=
  bU (zG (fOr (tW (fT (fB (bW fH (aH 0) (aH 2)) (gIs .tuple)))) (fOr (fT (bW Tn (fA (ao (bW fH (aH 0) (aH 2)) aR) vX) (fC (.int 2)))) (fT (bW Tn (bW fH (aH 0) (aH 2)) (bW fH (aH 1) (aH 2)))))) (fX (fC (.bl false))) yr)
  (zG (fOr (tW (fT (fA (ao (bW fH (bW fH (aH 0) (aH 2)) (fC (.int 0))) aR) (bC 1 jf)))) (tW (fT (fA (ao (bW fH (bW fH (aH 0) (aH 2)) (fC (.int 1))) aR) (bC 1 jf))))) (fX (fC (.bl false))) yr)
def iM:au->Ou :=
  bU (zG (fOr (tW (fT (fB (aH 0) (gIs .tuple)))) (fT (bW Tn (fA (ao (aH 0) aR) vX) (fA (ao (aH 1) aR) vX)))) (fX (fC (.bl false))) yr)
  (bU (qy (Ey (aU 2) lE (fA (ao (aH 1) aR) vX)))
  (fX (fC (.bl true))))
def fW:List D->Rs D:=fun ds=>gB (iM (bG ["found","due","k"] ds))
theorem yW(T:Txt K mg ) {f:ab}{fd:ck}(F:vW K "_law_cells_are" "_law_cells_are" dI f fd) (hm:mg "_law_cells_are"=some (.ref f)) (mK:kE P w K mg base "_law_number" 1 1 jf):kE P w K mg base "_law_cells_are" 2 2 fW :=
 fO (k:=1) (g:=iM) F hm pL (fun _ _ _ _ _ _ us hl=>match us,hl with|[_,_],_=>rfl) fun cdv A outer s H E B hr hx =>
  aW (oE (ahF (Kz (tY (lM (KQ (t:=.tuple) T.iH T.nJ (sv 0) PyProof.Rows.Boot.«tuple»))) (MP (aaw (dO hr) (wN T.Cj (sv 0)) (wN T.Cj (sv 1)))))) (bw (cM jE)) gP)
  (aW (iU (Ng ef rfl T.rW (wN T.Cj (sv 1)) (rg 2 pL.nd) (aW (oE (ahF (Kz (tY (lM (KQ (t:=.tuple) T.iH T.nJ (cF (sv 0) (sv 2)) PyProof.Rows.Boot.«tuple»))) (Kz (aaw (dO hr) (wN T.Cj (cF (sv 0) (sv 2))) aJ) (MP (aaw (dO hr) (cF (sv 0) (sv 2)) (cF (sv 1) (sv 2))))))) (bw (cM jE)) gP)
  (bw (oE (ahF (Kz (tY (lM (bN mK (hr.mono (by decide)) cX (ak (cF (cF (sv 0) (sv 2)) aJ) aK)))) (MP (tY (lM (bN mK (hr.mono (by decide)) cX (ak (cF (cF (sv 0) (sv 2)) aJ) aK))))))) (bw (cM jE)) gP)))))
  (bw (cM jE)))
theorem Ae:bQ ["found","due"] ["found","due"] (aD dU):=⟨rfl,rfl,rfl,by decide+kernel,rfl,by decide+kernel,by decide+kernel⟩
def jm:au->Ou :=
  bU (zG (fOr (tW (fT (fB (aH 0) (gIs .tuple)))) (fOr (fT (bW Tn (fA (ao (aH 0) aR) vX) (fC (.int 2)))) (tW (fT (fB (bW fH (aH 0) (fC (.int 1))) (gIs .bool)))))) (fX (fC (.bl false))) yr)
  (fX (KC (fA (ao (bW fH (aH 0) (fC (.int 0))) (ao (bW fH (aH 1) (fC (.int 0))) aR)) (bC 2 fW)) (bW RM (bW fH (aH 0) (fC (.int 1))) (bW fH (aH 1) (fC (.int 1))))))
def cC:List D->Rs D:=fun ds=>gB (jm (bG ["found","due"] ds))
theorem Af(T:Txt K mg ) {f:ab}{fd:ck}(F:vW K "_law_shape_is" "_law_shape_is" dU f fd) (hm:mg "_law_shape_is"=some (.ref f)) (lW:kE P w K mg base "_law_cells_are" 2 2 fW):kE P w K mg base "_law_shape_is" 3 2 cC :=
 fO (k:=2) (g:=jm) F hm Ae (fun _ _ _ _ _ _ us hl=>match us,hl with|[_,_],_=>rfl) fun cdv A outer s H E B hr hx =>
  aW (oE (ahF (Kz (tY (lM (KQ (t:=.tuple) T.iH T.nJ (sv 0) PyProof.Rows.Boot.«tuple»))) (Kz (aaw (dO hr) (wN T.Cj (sv 0)) aJ) (MP (tY (lM (KQ (t:=.bool) T.iH T.agb (cF (sv 0) aJ) PyProof.Rows.Boot.«bool»))))))) (bw (cM jE)) gP)
  (bw (cM (adV (bN lW (hr.mono (by decide)) hx (ak (cF (sv 0) aJ) (ak (cF (sv 1) aJ) aK))) (adU (aob (dO hr) (cF (sv 0) aJ) (cF (sv 1) aJ))))))
theorem iQ:bQ ["one","other","sums","row","column","further","beside"] ["one","other"] (aD jP):=⟨rfl,rfl,rfl,by decide+kernel,rfl,by decide+kernel,by decide+kernel⟩
def lF:au->Ou :=
  qH 2 (fC (.bl true)) (fA (ao (bW dh (aH 3) (aH 5)) (ao (bW dh (aH 4) (aH 6)) aR)) dJ)
def lG:au->Ou :=
  ud (ju 2 (bR (aU 5) (bR (aU 6) jY))) lF (aH 1)
def pN:au->Ou :=
  bU (Iw 2)
  (bU (qy (ud (ju 2 (bR (aU 3) (bR (aU 4) jY))) lG (aH 0)))
  (fX (uE 2)))
def jV:List D->Rs D:=fun ds=>gB (pN (bG ["one","other","sums","row","column","further","beside"] ds))
theorem Pn(T:Txt K mg ) {f:ab}{fd:ck}(F:vW K "_law_sums" "_law_sums" jP f fd) (hm:mg "_law_sums"=some (.ref f)) :kE P w K mg base "_law_sums" 1 2 jV :=
 fO (k:=0) (g:=pN) F hm iQ (fun _ _ _ _ _ _ us hl=>match us,hl with|[_,_],_=>rfl) fun cdv A outer s H E B hr hx =>
  aW (rM 2 iQ.nd)
  (aW (iU (pA ef rfl (sv 0) (ou rfl (cG (rg 3 iQ.nd) (cG (rg 4 iQ.nd) jZ))) (bw (pA ef rfl (sv 1) (ou rfl (cG (rg 5 iQ.nd) (cG (rg 6 iQ.nd) jZ))) (bw (pB 2 (dO hr) jE (eU (ak (gM (sv 3) (sv 5)) (ak (gM (sv 4) (sv 6)) aK)))))))))
  (bw (cM (yJ 2 rfl T.oK))))
theorem eH:bQ ["cells","piece","held","cell","told","row","column","further","beside","there"] ["cells","piece"] (aD jB):=⟨rfl,rfl,rfl,by decide+kernel,rfl,by decide+kernel,by decide+kernel⟩
def pO:au->Ou :=
  qH 2 (fC (.bl true)) (aH 3)
def Cm:au->Rs D :=
  bW (yN false) (aH 0) (aH 1)
def pP:au->Ou :=
  bU (kj 9 (fA (ao (aH 1) (ao (fA (ao (bW iT (aH 5) (aH 7)) (ao (bW iT (aH 6) (aH 8)) aR)) dJ) aR)) (bC 2 gK)))
  (zG (fT (fA (ao (dw (aU 0) (fun _=>.ok true) Cm 1 [2] (fL (aH 9) asL)) aR) Tq)) (qH 4 (fC (.bl true)) (fA (ao (aH 5) (ao (aH 6) aR)) dJ)) yr)
def uO:au->Ou :=
  ud (ju 2 (bR (aU 7) (bR (aU 8) jY))) pP (aH 1)
def sG:au->Ou :=
  bU (Iw 2)
  (bU (qy (ud (aU 3) pO (aH 0)))
  (bU (Iw 4)
  (LK 2 (bU (qy (ud (ju 2 (bR (aU 5) (bR (aU 6) jY))) uO (aH 0)))
  (fX (uE 4))))))
def gA:List D->Rs D:=fun ds=>gB (sG (bG ["cells","piece","held","cell","told","row","column","further","beside","there"] ds))
theorem Vr(T:Txt K mg ) {f:ab}{fd:ck}(F:vW K "_law_had" "_law_had" jB f fd) (hm:mg "_law_had"=some (.ref f)) (iK:kE P w K mg base "_law_on" 1 2 gK):kE P w K mg base "_law_had" 2 2 gA :=
 fO (k:=1) (g:=sG) F hm eH (fun _ _ _ _ _ _ us hl=>match us,hl with|[_,_],_=>rfl) fun cdv A outer s H E B hr hx =>
  aW (rM 2 eH.nd)
  (aW (iU (pA ef rfl (sv 0) (rg 3 eH.nd) (bw (pB 2 (dO hr) jE (sv 3)))))
  (aW (rM 4 eH.nd)
  (DY 2 (aW (iU (pA ef rfl (sv 0) (ou rfl (cG (rg 5 eH.nd) (cG (rg 6 eH.nd) jZ))) (bw (pA ef rfl (sv 1) (ou rfl (cG (rg 7 eH.nd) (cG (rg 8 eH.nd) jZ))) (aW (jw 9 eH.nd (bN iK (hr.mono (by decide)) cX (ak (sv 1) (ak (eU (ak (pW (sv 5) (sv 7)) (ak (pW (sv 6) (sv 8)) aK))) aK))))
  (bw (oE (lM (aep rfl T.akl (rD (kI (aD jB) ["cells","piece","held","cell","told","row","column","further","beside","there"] (N:=["one","held"]) (nt:=1) (caps:=[2]) (by decide+kernel)) rfl (by decide+kernel) (Dy (sv 9)) dR (fun s₀ H₀ C ex pins B1=>rg 0 (show g_ (["one","held"]:List Str) by decide)) (fun s₀ H₀ C ex pins B1=>afO (dO hr) (sv 0) (sv 1))))) (bw (pB 4 (dO hr) jE (eU (ak (sv 5) (ak (sv 6) aK))))) gP)))))))
  (bw (cM (yJ 4 rfl T.oK)))))))
theorem cJ:bQ ["cells","piece","led","row","column","further","beside","told","spot"] ["cells","piece"] (aD eZ):=⟨rfl,rfl,rfl,by decide+kernel,rfl,by decide+kernel,by decide+kernel⟩
def oW:au->Ou :=
  qH 2 (fC (.bl true)) (fA (ao (bW dh (aH 3) (aH 5)) (ao (bW dh (aH 4) (aH 6)) aR)) dJ)
def lH:au->Ou :=
  ud (ju 2 (bR (aU 5) (bR (aU 6) jY))) oW (aH 1)
def uP:au->Rs D :=
  bW (yN false) (aH 0) (aH 1)
def lJ:au->Ou :=
  bU (kj 8 (fA (ao (bW iT (aH 3) (bW fH (bW fH (aH 1) (fC (.int 0))) (fC (.int 0)))) (ao (bW iT (aH 4) (bW fH (bW fH (aH 1) (fC (.int 0))) (fC (.int 1)))) aR)) dJ))
  (zG (fT (fA (ao (dw (aU 0) (fun _=>.ok true) uP 1 [2] (fL (fA (ao (aH 1) (ao (aH 8) aR)) (bC 2 gK)) asL)) aR) Tq)) (qH 7 (fC (.bl true)) (aH 8)) yr)
def mL:au->Ou :=
  bU (Iw 2)
  (bU (qy (ud (ju 2 (bR (aU 3) (bR (aU 4) jY))) lH (aH 0)))
  (bU (Iw 7)
  (LK 2 (bU (qy (Gj (ju 2 (bR (aU 3) (bR (aU 4) jY))) lJ (fL (aH 2) asF)))
  (fX (uE 7))))))
def dg:List D->Rs D:=fun ds=>gB (mL (bG ["cells","piece","led","row","column","further","beside","told","spot"] ds))
theorem GD(T:Txt K mg ) {f:ab}{fd:ck}(F:vW K "_law_filled" "_law_filled" eZ f fd) (hm:mg "_law_filled"=some (.ref f)) (iK:kE P w K mg base "_law_on" 1 2 gK):kE P w K mg base "_law_filled" 2 2 dg :=
 fO (k:=1) (g:=mL) F hm cJ (fun _ _ _ _ _ _ us hl=>match us,hl with|[_,_],_=>rfl) fun cdv A outer s H E B hr hx =>
  aW (rM 2 cJ.nd)
  (aW (iU (pA ef rfl (sv 0) (ou rfl (cG (rg 3 cJ.nd) (cG (rg 4 cJ.nd) jZ))) (bw (pA ef rfl (sv 1) (ou rfl (cG (rg 5 cJ.nd) (cG (rg 6 cJ.nd) jZ))) (bw (pB 2 (dO hr) jE (eU (ak (gM (sv 3) (sv 5)) (ak (gM (sv 4) (sv 6)) aK)))))))))
  (aW (rM 7 cJ.nd)
  (DY 2 (aW (iU (aaT ef rfl (amy (sv 2)) (ou rfl (cG (rg 3 cJ.nd) (cG (rg 4 cJ.nd) jZ))) (aW (jw 8 cJ.nd (eU (ak (pW (sv 3) (cF (cF (sv 1) aJ) aJ)) (ak (pW (sv 4) (cF (cF (sv 1) aJ) aJ)) aK))))
  (bw (oE (lM (aep rfl T.akl (rD (kI (aD eZ) ["cells","piece","led","row","column","further","beside","told","spot"] (N:=["one","led"]) (nt:=1) (caps:=[2]) (by decide+kernel)) rfl (by decide+kernel) (Dy (bN iK (hr.mono (by decide)) cX (ak (sv 1) (ak (sv 8) aK)))) dR (fun s₀ H₀ C ex pins B1=>rg 0 (show g_ (["one","led"]:List Str) by decide)) (fun s₀ H₀ C ex pins B1=>afO (dO hr) (sv 0) (sv 1))))) (bw (pB 7 (dO hr) jE (sv 8))) gP)))))
  (bw (cM (yJ 7 rfl T.oK)))))))
theorem oY:bQ ["script","cell","left","piece","shape","cells","rest","due","back"] ["script"] (aD qP):=⟨rfl,rfl,rfl,by decide+kernel,rfl,by decide+kernel,by decide+kernel⟩
def yX:au->Rs D :=
  fA (ao (bW iT (fC (.int 0)) (aH 0)) (ao (bW iT (fC (.int 0)) (aH 1)) aR)) dJ
def Eb:au->Ou :=
  bU (UL 2 1 jR (ao (aH 1) aR))
  (bU (xq 3 (xM 2 0 gw (rO aR)))
  (bU (xIf (xT (pq RM (xM 2 1 aP (rO (ao (fC (.int 8)) aR))) (xP (fC (.int 0))))) (xq 3 (xA (dM (xA (dM (xP (afw (aH 3) abG (fP (fC (.int 5))))) (dM (afG (xM 2 0 gw (rO aR)) abG (fP (fC (.int 4)))) tQ)) (bC 2 jV)) tQ) jt)) yr)
  (bU (xq 4 (xM 2 2 lD (dM (xP (aH 3)) (dM (xM 2 0 jU (rO aR)) tQ))))
  (bU (aeo (aH 4) (ju 2 (bR (aU 5) (bR (aU 6) jY))))
  (bU (kj 7 (fA (ao (fA (ao (aH 5) (ao (aH 3) aR)) (bC 2 gA)) (ao (fA (ao (aH 5) (ao (aH 3) aR)) (bC 2 dg)) aR)) yc))
  (bU (zG (fT (aH 6)) (bU (kj 8 (fA (ao (fA (ao (dw (ju 2 (bR (aU 0) (bR (aU 1) jY))) (fun _=>.ok true) yX 2 [] (fL (aH 3) Xr)) aR) ux) aR) jt))
  (kj 7 (fA (ao (fA (ao (aH 5) (ao (aH 8) aR)) (bC 2 dg)) (ao (fA (ao (aH 5) (ao (aH 8) aR)) (bC 2 gA)) aR)) yc))) yr)
  (bU (zG (tW (fT (fA (ao (fA (ao (aH 4) (ao (aH 3) aR)) (bC 2 oU)) (ao (fA (ao (bW fH (aH 7) (fC (.int 0))) (ao (aH 6) aR)) dJ) aR)) (bC 2 cC)))) (fX (fC (.bl false))) yr)
  (zG (tW (fT (fA (ao (fA (ao (aH 4) (ao (aH 3) aR)) (bC 2 oV)) (ao (fA (ao (bW fH (aH 7) (fC (.int 1))) (ao (aH 6) aR)) dJ) aR)) (bC 2 cC)))) (fX (fC (.bl false))) yr))))))))
def abh:au->Ou :=
  bU (qy (KH (aU 1) Eb (bW dh (fA (ao (fC (.int 0)) aR) yc) (aH 0))))
  (fX (fC (.bl true)))
def abj:List D->Rs D:=fun ds=>gB (abh (bG ["script","cell","left","piece","shape","cells","rest","due","back"] ds))
theorem apr(T:Txt K mg ) {f:ab}(uQ:Okf P w K mg base "_law_deal" 2 1 jR) (nT:Xv P w K mg base "_law_piece" 3 0 gw) (aX:Xv P w K mg base "_law_next" 1 1 aP) (uR:kE P w K mg base "_law_sums" 1 2 jV) (sH:Xv P w K mg base "_law_shape" 2 2 lD) (uT:Xv P w K mg base "_law_lead" 2 0 jU) (mO:kE P w K mg base "_law_filled" 2 2 dg) (sI:kE P w K mg base "_law_had" 2 2 gA) (jo:kE P w K mg base "_law_shape_is" 3 2 cC) (GF:kE P w K mg base "opened" 6 2 oU) (GJ:kE P w K mg base "closed" 6 2 oV) {cdv:aa}{A:aS}{outer:List Env}{s:ae}{H:Hp}{E:XK}{B:Bs}(hr:lK 6 (A.deeper (mw "law" (aD qP) s.heap.objs.size f cdv)))
  (hx:yq (tU (Ii P w K) P w K mg base ["script","cell","left","piece","shape","cells","rest","due","back"] "law" (aD qP) f cdv A outer s H E) (fun c n _ H'=>E (Dv c n) none H')) :
  wk (tU (Ii P w K) P w K mg base ["script","cell","left","piece","shape","cells","rest","due","back"] "law" (aD qP) f cdv A outer s H E) B (fun c n _ H'=>E (Dv c n) none H') (bF qP) abh :=
  aW (iU (Nf ef rfl (gM (wM (ak aJ aK)) (sv 0)) (rg 1 oY.nd) (aW (aiD 2 uQ (hr.mono (by decide)) oY.nd (ak (sv 1) aK))
  (aW (rP 3 oY.nd (bO 2 nT (hr.mono (by decide)) (fD (W:=WF) aK)))
  (aW (afE (afH (dO hr) (bO 2 aX (hr.mono (by decide)) (fD (W:=WF) (ak aJ aK))) (je (W:=WF) aJ)) (bw (rP 3 oY.nd (afI T.nJ (aiI uR (hr.mono (by decide)) (cL (je (W:=WF) (acg (sv 3) aau (aav aJ))) (cL (acp (bO 2 nT (hr.mono (by decide)) (fD (W:=WF) aK)) aau (aav aJ)) kY)))))) gP)
  (aW (rP 4 oY.nd (bO 2 sH (hr.mono (by decide)) (cL (je (W:=WF) (sv 3)) (cL (bO 2 uT (hr.mono (by decide)) (fD (W:=WF) aK)) kY))))
  (aW (alw (sv 4) (ou rfl (cG (rg 5 oY.nd) (cG (rg 6 oY.nd) jZ))))
  (aW (jw 7 oY.nd (wM (ak (bN sI (hr.mono (by decide)) cX (ak (sv 5) (ak (sv 3) aK))) (ak (bN mO (hr.mono (by decide)) cX (ak (sv 5) (ak (sv 3) aK))) aK))))
  (aW (oE (lM (sv 6)) (aW (jw 8 oY.nd (uw T.nJ (afl T.oK (rD (kI (aD qP) ["script","cell","left","piece","shape","cells","rest","due","back"] (N:=["row","column"]) (nt:=2) (caps:=[]) (by decide+kernel)) rfl (by decide+kernel) (zQ (sv 3)) (Tv (vC dR (vC dR Tt))) (fun s₀ H₀ C ex pins B1=>ou rfl (cG (rg 0 (show g_ (["row","column"]:List Str) by decide)) (cG (rg 1 (show g_ (["row","column"]:List Str) by decide)) jZ))) (fun s₀ H₀ C ex pins B1=>eU (ak (pW aJ (sv 0)) (ak (pW aJ (sv 1)) aK)))))))
  (bw (jw 7 oY.nd (wM (ak (bN mO (hr.mono (by decide)) cX (ak (sv 5) (ak (sv 8) aK))) (ak (bN sI (hr.mono (by decide)) cX (ak (sv 5) (ak (sv 8) aK))) aK)))))) gP)
  (aW (oE (tY (lM (bN jo (hr.mono (by decide)) cX (ak (bN GF (hr.mono (by decide)) cX (ak (sv 4) (ak (sv 3) aK))) (ak (eU (ak (cF (sv 7) aJ) (ak (sv 6) aK))) aK))))) (bw (cM jE)) gP)
  (bw (oE (tY (lM (bN jo (hr.mono (by decide)) cX (ak (bN GJ (hr.mono (by decide)) cX (ak (sv 4) (ak (sv 3) aK))) (ak (eU (ak (cF (sv 7) aJ) (ak (sv 6) aK))) aK))))) (bw (cM jE)) gP))))))))))))
  (bw (cM jE))
end
section
variable{l:l_}{w:az}{K:Frag}{h:Heap}{mg:Str->Option aa}{fa:ab}
 {sJ:ab}{Jc Jd:Option ab}{Je:Array (Option aa)}{Jf Jg Jh Ji wF Jj:aa}
 {uU:ab}{Pq Pr:Option ab}{Pu:Array (Option aa)}{Px Py Pz PB yZ PJ:aa}
 {GP:ab}{acI acJ:Option ab}{acK:Array (Option aa)}{acL acM acN acO Mj acP:aa}
 {xJ:ab}{Vs Vt:Option ab}{Vu:Array (Option aa)}{Vv Vw Vx Vy Cp Vz:aa}
 {xK:ab}{VB VD:Option ab}{VF:Array (Option aa)}{VG VH VJ VL Cq VN:aa}
 {nq lZ qR:ab}{Ag Ah:Option ab}{Ai:Array (Option aa)}{Aj Ak Al Am Ao:aa}
 {qg:ab}{GQ GR:Option ab}{GX:Array (Option aa)}{GZ Hf Hg Hh uV Hi:aa}
 {nu:ab}{Aq Av:Option ab}{Aw:Array (Option aa)}{Ay Az Ba Bb qT Bc:aa}
 {nA:ab}{Bd Bf:Option ab}{Bg:Array (Option aa)}{Bh Bj Bk Bl qU Bm:aa}
 {PK:ab}{agi agj:Option ab}{agk:Array (Option aa)}{agl agm agn ago VP agp:aa}
 {PL:ab}{agq agr:Option ab}{ags:Array (Option aa)}{agt agu agv agw VR agx:aa}
 {Hj:ab}{acQ acR:Option ab}{acS:Array (Option aa)}{acT acU acV acW Ml acX:aa}
 {Hl:ab}{acY acZ:Option ab}{ada:Array (Option aa)}{adb ade adf adg Mp adh:aa}
 {sO:ab}{Jk Jl:Option ab}{Jm:Array (Option aa)}{Jo Jp Jq Jr wG Js:aa}
 {uW:ab}{PN PX:Option ab}{Qa:Array (Option aa)}{Qc Qd Qe Qf za Qg:aa}
 {uX:ab}{Qh Qi:Option ab}{Qj:Array (Option aa)}{Qk Ql Qm Qn zc Qo:aa}
 {uY:ab}{Qp Qq:Option ab}{Qs:Array (Option aa)}{Qt Qu Qv Qw zf Qx:aa}
 {sS:ab}{Jt Ju:Option ab}{Jv:Array (Option aa)}{Jw Jx Jy Jz wH JB:aa}
 {Bo:ab}{Zi Zj:Option ab}{Zk:Array (Option aa)}{Zm Zn Zo Zq Ho Zr:aa}
 {uZ:ab}{Qy Qz:Option ab}{QB:Array (Option aa)}{QC QD QF QG zj QH:aa}
 {sU:ab}{JC JD:Option ab}{JF:Array (Option aa)}{JG JH JK JL wI JM:aa}
 {qj:ab}{Hq Hr:Option ab}{Ht:Array (Option aa)}{Hu Hv Hw Hx vd Hy:aa}
 {mj:ab}{zm zp:Option ab}{zq:Array (Option aa)}{zu zx zy zA pQ zB:aa}
 {nC:ab}{Bp Bq:Option ab}{Br:Array (Option aa)}{Bt Bu Bv Bw qW Bx:aa}
 {vf:ab}{QJ QK:Option ab}{QL:Array (Option aa)}{QM QS QT QV zE QW:aa}
 {xO:ab}{Wa Wb:Option ab}{Wc:Array (Option aa)}{Wd Wf Wg Wh Cr Wj:aa}
 {ql:ab}{Hz HB:Option ab}{HD:Array (Option aa)}{HF HJ HN HS vg HW:aa}
 {agy:ab}{amD agz:Option ab}{amE:Array (Option aa)}{amF agA agB agC Zt agD:aa}
theorem all_mk(X:K.In h) (G:h.Ns b0 mg) (hfa:mg "law"=some (.ref fa))
  (QX:cx K b0 "cell_moved"=some (some (.ref sJ)))
  (QZ:K.lookup sJ=some ⟨Jf,Jc,.func (dk "cell_moved" "cell_moved" (bJ iB) (bF iB) (aD iB) .none Jg Jh Ji Jd wF Jj),Je⟩)
  (Ra:dm K wF "cell_moved"=true)
  (Rb:dq K (.ref sJ)=true)
  (Wk:cx K b0 "cell_less"=some (some (.ref uU)))
  (Wm:K.lookup uU=some ⟨Px,Pq,.func (dk "cell_less" "cell_less" (bJ jK) (bF jK) (aD jK) .none Py Pz PB Pr yZ PJ),Pu⟩)
  (Wn:dm K yZ "cell_less"=true)
  (Wo:dq K (.ref uU)=true)
  (agE:cx K b0 "rising"=some (some (.ref GP)))
  (agF:K.lookup GP=some ⟨acL,acI,.func (dk "rising" "rising" (bJ qM) (bF qM) (aD qM) .none acM acN acO acJ Mj acP),acK⟩)
  (agG:dm K Mj "rising"=true)
  (agH:dq K (.ref GP)=true)
  (Zu:cx K b0 "all_sums"=some (some (.ref xJ)))
  (Zv:K.lookup xJ=some ⟨Vv,Vs,.func (dk "all_sums" "all_sums" (bJ jz) (bF jz) (aD jz) .none Vw Vx Vy Vt Cp Vz),Vu⟩)
  (Zw:dm K Cp "all_sums"=true)
  (Zx:dq K (.ref xJ)=true)
  (Zy:cx K b0 "mirrored"=some (some (.ref xK)))
  (Zz:K.lookup xK=some ⟨VG,VB,.func (dk "mirrored" "mirrored" (bJ jA) (bF jA) (aD jA) .none VH VJ VL VD Cq VN),VF⟩)
  (ZC:dm K Cq "mirrored"=true)
  (ZD:dq K (.ref xK)=true)
  (CJ:cx K b0 "common_stride"=some (some (.ref nq)))
  (CK:K.lookup nq=some ⟨Aj,Ag,.func (dk "common_stride" "common_stride" (bJ cQ) (bF cQ) (aD cQ) .none Ak Al Am Ah (.ref lZ) Ao),Ai⟩)
  (CN:dm K (.ref lZ) "common_stride"=true)
  (CP:dq K (.ref nq)=true)
  (CQ:iE K lZ qR=true)
  (JN:cx K b0 "run_lengths"=some (some (.ref qg)))
  (JQ:K.lookup qg=some ⟨GZ,GQ,.func (dk "run_lengths" "run_lengths" (bJ gG) (bF gG) (aD gG) .none Hf Hg Hh GR uV Hi),GX⟩)
  (JR:dm K uV "run_lengths"=true)
  (JT:dq K (.ref qg)=true)
  (CT:cx K b0 "heads_of_runs"=some (some (.ref nu)))
  (CV:K.lookup nu=some ⟨Ay,Aq,.func (dk "heads_of_runs" "heads_of_runs" (bJ cR) (bF cR) (aD cR) .none Az Ba Bb Av qT Bc),Aw⟩)
  (CW:dm K qT "heads_of_runs"=true)
  (CZ:dq K (.ref nu)=true)
  (Dc:cx K b0 "places_within"=some (some (.ref nA)))
  (Dd:K.lookup nA=some ⟨Bh,Bd,.func (dk "places_within" "places_within" (bJ cT) (bF cT) (aD cT) .none Bj Bk Bl Bf qU Bm),Bg⟩)
  (Df:dm K qU "places_within"=true)
  (Dg:dq K (.ref nA)=true)
  (ajm:cx K b0 "grown"=some (some (.ref PK)))
  (ajn:K.lookup PK=some ⟨agl,agi,.func (dk "grown" "grown" (bJ vN) (bF vN) (aD vN) .none agm agn ago agj VP agp),agk⟩)
  (ajo:dm K VP "grown"=true)
  (ajp:dq K (.ref PK)=true)
  (ajq:cx K b0 "eaten"=some (some (.ref PL)))
  (ajr:K.lookup PL=some ⟨agt,agq,.func (dk "eaten" "eaten" (bJ vO) (bF vO) (aD vO) .none agu agv agw agr VR agx),ags⟩)
  (ajs:dm K VR "eaten"=true)
  (ajt:dq K (.ref PL)=true)
  (agI:cx K b0 "opened"=some (some (.ref Hj)))
  (agJ:K.lookup Hj=some ⟨acT,acQ,.func (dk "opened" "opened" (bJ qN) (bF qN) (aD qN) .none acU acV acW acR Ml acX),acS⟩)
  (agK:dm K Ml "opened"=true)
  (agL:dq K (.ref Hj)=true)
  (agM:cx K b0 "closed"=some (some (.ref Hl)))
  (agN:K.lookup Hl=some ⟨adb,acY,.func (dk "closed" "closed" (bJ qO) (bF qO) (aD qO) .none ade adf adg acZ Mp adh),ada⟩)
  (agO:dm K Mp "closed"=true)
  (k_closed:dq K (.ref Hl)=true)
  (Rc:cx K b0 "_law_mixed"=some (some (.ref sO)))
  (Rf:K.lookup sO=some ⟨Jo,Jk,.func (dk "_law_mixed" "_law_mixed" (bJ iC) (bF iC) (aD iC) .none Jp Jq Jr Jl wG Js),Jm⟩)
  (Rg:dm K wG "_law_mixed"=true)
  (Rh:dq K (.ref sO)=true)
  (Wq:cx K b0 "_law_deal"=some (some (.ref uW)))
  (Wr:K.lookup uW=some ⟨Qc,PN,.func (dk "_law_deal" "_law_deal" (bJ jL) (bF jL) (aD jL) .none Qd Qe Qf PX za Qg),Qa⟩)
  (Ws:dm K za "_law_deal"=true)
  (Wt:dq K (.ref uW)=true)
  (Wu:cx K b0 "_law_next"=some (some (.ref uX)))
  (Wv:K.lookup uX=some ⟨Qk,Qh,.func (dk "_law_next" "_law_next" (bJ jM) (bF jM) (aD jM) .none Ql Qm Qn Qi zc Qo),Qj⟩)
  (Ww:dm K zc "_law_next"=true)
  (Wx:dq K (.ref uX)=true)
  (Wy:cx K b0 "_law_step"=some (some (.ref uY)))
  (Wz:K.lookup uY=some ⟨Qt,Qp,.func (dk "_law_step" "_law_step" (bJ jN) (bF jN) (aD jN) .none Qu Qv Qw Qq zf Qx),Qs⟩)
  (WD:dm K zf "_law_step"=true)
  (WK:dq K (.ref uY)=true)
  (Ri:cx K b0 "_law_piece"=some (some (.ref sS)))
  (Rj:K.lookup sS=some ⟨Jw,Jt,.func (dk "_law_piece" "_law_piece" (bJ iD) (bF iD) (aD iD) .none Jx Jy Jz Ju wH JB),Jv⟩)
  (Rk:dm K wH "_law_piece"=true)
  (Rm:dq K (.ref sS)=true)
  (adi:cx K b0 "_law_on"=some (some (.ref Bo)))
  (adk:K.lookup Bo=some ⟨Zm,Zi,.func (dk "_law_on" "_law_on" (bJ lQ) (bF lQ) (aD lQ) .none Zn Zo Zq Zj Ho Zr),Zk⟩)
  (adl:dm K Ho "_law_on"=true)
  (adn:dq K (.ref Bo)=true)
  (WL:cx K b0 "_law_lead"=some (some (.ref uZ)))
  (WM:K.lookup uZ=some ⟨QC,Qy,.func (dk "_law_lead" "_law_lead" (bJ jO) (bF jO) (aD jO) .none QD QF QG Qz zj QH),QB⟩)
  (WQ:dm K zj "_law_lead"=true)
  (WR:dq K (.ref uZ)=true)
  (Ro:cx K b0 "_law_shape"=some (some (.ref sU)))
  (Rp:K.lookup sU=some ⟨JG,JC,.func (dk "_law_shape" "_law_shape" (bJ iG) (bF iG) (aD iG) .none JH JK JL JD wI JM),JF⟩)
  (Rq:dm K wI "_law_shape"=true)
  (Rr:dq K (.ref sU)=true)
  (JV:cx K b0 "_law_number"=some (some (.ref qj)))
  (JW:K.lookup qj=some ⟨Hu,Hq,.func (dk "_law_number" "_law_number" (bJ gH) (bF gH) (aD gH) .none Hv Hw Hx Hr vd Hy),Ht⟩)
  (JX:dm K vd "_law_number"=true)
  (JZ:dq K (.ref qj)=true)
  (BJ:cx K b0 "_law_cells_are"=some (some (.ref mj)))
  (BK:K.lookup mj=some ⟨zu,zm,.func (dk "_law_cells_are" "_law_cells_are" (bJ dI) (bF dI) (aD dI) .none zx zy zA zp pQ zB),zq⟩)
  (BL:dm K pQ "_law_cells_are"=true)
  (BP:dq K (.ref mj)=true)
  (Dh:cx K b0 "_law_shape_is"=some (some (.ref nC)))
  (Di:K.lookup nC=some ⟨Bt,Bp,.func (dk "_law_shape_is" "_law_shape_is" (bJ dU) (bF dU) (aD dU) .none Bu Bv Bw Bq qW Bx),Br⟩)
  (Dj:dm K qW "_law_shape_is"=true)
  (Dl:dq K (.ref nC)=true)
  (WT:cx K b0 "_law_sums"=some (some (.ref vf)))
  (WW:K.lookup vf=some ⟨QM,QJ,.func (dk "_law_sums" "_law_sums" (bJ jP) (bF jP) (aD jP) .none QS QT QV QK zE QW),QL⟩)
  (WX:dm K zE "_law_sums"=true)
  (WY:dq K (.ref vf)=true)
  (ZF:cx K b0 "_law_had"=some (some (.ref xO)))
  (ZG:K.lookup xO=some ⟨Wd,Wa,.func (dk "_law_had" "_law_had" (bJ jB) (bF jB) (aD jB) .none Wf Wg Wh Wb Cr Wj),Wc⟩)
  (ZJ:dm K Cr "_law_had"=true)
  (ZK:dq K (.ref xO)=true)
  (Ka:cx K b0 "_law_filled"=some (some (.ref ql)))
  (Kc:K.lookup ql=some ⟨HF,Hz,.func (dk "_law_filled" "_law_filled" (bJ eZ) (bF eZ) (aD eZ) .none HJ HN HS HB vg HW),HD⟩)
  (Kd:dm K vg "_law_filled"=true)
  (Ke:dq K (.ref ql)=true)
  (aps:cx K b0 "law"=some (some (.ref agy)))
  (apt:K.lookup agy=some ⟨amF,amD,.func (dk "law" "law" (bJ qP) (bF qP) (aD qP) .none agA agB agC agz Zt agD),amE⟩)
  (apu:dm K Zt "law"=true)
  (apv:dq K (.ref agy)=true)
  (apw:cx K b0 "all"=some none)
  (amG:cx K b0 "bool"=some none)
  (agP:cx K b0 "divmod"=some none)
  (apx:cx K b0 "int"=some none)
  (Rt:cx K b0 "isinstance"=some none)
  (apy:cx K b0 "len"=some none)
  (amH:cx K b0 "list"=some none)
  (apz:cx K b0 "max"=some none)
  (aju:cx K b0 "range"=some none)
  (ZL:cx K b0 "reversed"=some none)
  (apA:cx K b0 "set"=some none)
  (agQ:cx K b0 "sorted"=some none)
  (ajv:cx K b0 "tuple"=some none) :
  ∃fd:ck,(∀(s:ae) (v:aa),lI s fd ⟨[v],[]⟩ [("script",v)])/\∀base:Heap,K.In base->base.Ns b0 mg->Im l.prog w K mg base (Ii l.prog w K) 7 fa fd ["script"] (spV K 1 abj):=by
 have e:=hfa.symm.trans (dt X G aps);cases e;have T:Txt K mg :=⟨gi X G apw,
  gi X G amG,
  gi X G agP,
  gi X G apx,
  gi X G Rt,
  gi X G apy,
  gi X G amH,
  gi X G apz,
  gi X G aju,
  gi X G ZL,
  gi X G apA,
  gi X G agQ,
  gi X G ajv⟩
 have Ru:=cU (st:=iB) QZ Ra Rb;have Xa:=cU (st:=jK) Wm Wn Wo;have agR:=cU (st:=qM) agF agG agH;have ZM:=cU (st:=jz) Zv Zw Zx;have ZP:=cU (st:=jA) Zz ZC ZD;have Dm:=ajh (st:=cQ) (q:="common_stride.<locals>.<lambda>") CK CN CP CQ rfl rfl;have Kf:=cU (st:=gG) JQ JR JT;have Dp:=cU (st:=cR) CV CW CZ;have Dq:=cU (st:=cT) Dd Df Dg;have ajw:=cU (st:=vN) ajn ajo ajp;have ajx:=cU (st:=vO) ajr ajs ajt;have agS:=cU (st:=qN) agJ agK agL;have agT:=cU (st:=qO) agN agO k_closed;have Rv:=cU (st:=iC) Rf Rg Rh;have Xb:=cU (st:=jL) Wr Ws Wt;have Xc:=cU (st:=jM) Wv Ww Wx;have Xd:=cU (st:=jN) Wz WD WK;have Rw:=cU (st:=iD) Rj Rk Rm;have ado:=cU (st:=lQ) adk adl adn;have Xe:=cU (st:=jO) WM WQ WR;have Rx:=cU (st:=iG) Rp Rq Rr;have Kg:=cU (st:=gH) JW JX JZ;have BR:=cU (st:=dI) BK BL BP;have Dr:=cU (st:=dU) Di Dj Dl;have Xf:=cU (st:=jP) WW WX WY;have ZQ:=cU (st:=jB) ZG ZJ ZK;have Kh:=cU (st:=eZ) Kc Kd Ke;have apB:=cU (st:=qP) apt apu apv;refine⟨dk "law" "law" (bJ qP) (bF qP) (aD qP) .none agA agB agC agz Zt agD,fun s v=>.of_eq rfl,fun base _ _=>?_⟩;have dG:=IV (P:=l.prog) (w:=w) (base:=base) T Ru (dt X G QX);have eG:=Pa (P:=l.prog) (w:=w) (base:=base) T Xa (dt X G Wk);have qQ:=acD (P:=l.prog) (w:=w) (base:=base) T agR (dt X G agE);have lV:=Vo (P:=l.prog) (w:=w) (base:=base) T ZM (dt X G Zu) dG qQ;have lU:=Vq (P:=l.prog) (w:=w) (base:=base) T ZP (dt X G Zy) qQ;have mZ:=Ab (P:=l.prog) (w:=w) (base:=base) T Dm (dt X G CJ) eG;have gJ:=Gy (P:=l.prog) (w:=w) (base:=base) T Kf (dt X G JN) dG;have ni:=Ac (P:=l.prog) (w:=w) (base:=base) T Dp (dt X G CT) gJ eG;have dW:=Ad (P:=l.prog) (w:=w) (base:=base) T Dq (dt X G Dc) mZ gJ eG dG ni;have vR:=agf (P:=l.prog) (w:=w) (base:=base) T ajw (dt X G ajm) dW lU lV;have vU:=agh (P:=l.prog) (w:=w) (base:=base) T ajx (dt X G ajq) lV lU dW;have GF:=acF (P:=l.prog) (w:=w) (base:=base) T agS (dt X G agI) vR vU;have GJ:=acH (P:=l.prog) (w:=w) (base:=base) T agT (dt X G agM) vU vR;have sy:=IW (P:=l.prog) (w:=w) (base:=base) T Rv (dt X G Rc);have uQ:=Pb (P:=l.prog) (w:=w) (base:=base) T Xb (dt X G Wq) sy;have aX:=Pg (P:=l.prog) (w:=w) (base:=base) T Xc (dt X G Wu);have uN:=Pj (P:=l.prog) (w:=w) (base:=base) T Xd (dt X G Wy) aX;have nT:=Ja (P:=l.prog) (w:=w) (base:=base) T Rw (dt X G Ri) aX uN;have iK:=Zh (P:=l.prog) (w:=w) (base:=base) T ado (dt X G adi);have uT:=Pk (P:=l.prog) (w:=w) (base:=base) T Xe (dt X G WL) aX;have sH:=Jb (P:=l.prog) (w:=w) (base:=base) T Rx (dt X G Ro) aX iK;have mK:=GC (P:=l.prog) (w:=w) (base:=base) T Kg (dt X G JV);have lW:=yW (P:=l.prog) (w:=w) (base:=base) T BR (dt X G BJ) mK;have jo:=Af (P:=l.prog) (w:=w) (base:=base) T Dr (dt X G Dh) lW;have uR:=Pn (P:=l.prog) (w:=w) (base:=base) T Xf (dt X G WT);have sI:=Vr (P:=l.prog) (w:=w) (base:=base) T ZQ (dt X G ZF) iK;have mO:=GD (P:=l.prog) (w:=w) (base:=base) T Kh (dt X G Ka) iK;exact aoj apB oY fun cdv A outer s H E B hr=>apr T uQ nT aX uR sH uT mO sI jo GF GJ hr (ug qx rfl)
end
theorem agU(m n:Int)(h:0 < n)(h2:n < 2 ^ 200):aP [.int m] [.int n]=.ok (.int (m % n),[.int (m / n)]):=by
 have run:pK (iZ ["left","many","digit"] [.int m] [.int n])=.rx (.int (m % n)) [.op [.int (m / n)],.fz (.int n),.fz (.int (m % n))]:=by unfold pK;exact aZ (afK (fM (aq (apa rfl rfl cu rfl) (aq (aG rfl) aO)) (aqV ⟨h,h2⟩)) rfl rfl cu rfl) (rQ (iy (aG rfl)))
 unfold aP;rw[run];rfl
theorem xn{ρ:au}{i:Nat}{z:Sl}{m n:Int}{fs:au->Rs (List D)}(h0:ρ[i]?=some z)(l0:lent z=some [.int m])(hf:fs ρ=.ok [.int n])(h:0 < n)(h2:n < 2 ^ 200):xM i 1 aP (rO fs) ρ=.ok (.int (m % n),ρ.set i (iY z [.int (m / n)])) :=
 YQ h0 l0 (Vb hf) rfl h0 l0 (agU m n h h2)
theorem adp{c k A1 A2 A3 p A4 q A5 A6 A7:Int}(e1:Cy (.int c) (.int 1000000000000000009)=.ok (.int A1))(e2:nG (.int 7919) (.int k)=.ok (.int A2))(e3:nG (.int (A1 + A2 + 12345)) (.int 48271)=.ok (.int A3))(e4:Cy (.int A3) (.int 2305843009213693951)=.ok (.int p))
  (e5:nG (.int p) (.int p)=.ok (.int A4)) (e6:Cy (.int A4) (.int 2305843009213693921)=.ok (.int q)) (e7:nG (.int (q + k)) (.int 69621)=.ok (.int A5)) (e8:Cy (.int A5) (.int 2305843009213693951)=.ok (.int A6)) (e9:adY (.int A6) (.int 8)=.ok (.int A7)) :
  iJ [.int c,.int k]=.ok (.int A7):=by
 unfold iJ su;simp (config:={ decide:=false }) only[bU,aoL,aoM,aoN,aoO,aru,Cg,aoP,arv,aoQ,aoR,aoS,aoT,aoU,amf,kj,fX,aqS,zG,aeo,aqU,qy,yr,alN,arp,air,aqT,bW,aH,fC,fA,fB,ao,aR,fT,tW,aqC,fOr,KC,aqD,adT,Ye,fL,fSl,fP,abG,toB,toI,ame,gk,jd,alx,aqW,aly,ahU,YL,Gs,Gu,amg,amh,ami,amj,YM,aoW,amk,arw,arx,arz,arA,arB,aoX,oF,aax,aki,aoV,aoY,aoZ,aU,ju,bR,jY,bG,cn,l8,cy,fw,gy,vx,sk,List.getElem?_cons_zero,sm,iA,i8,Nat.reduceAdd,Nat.reduceSub,Nat.reduceEqDiff,Nat.reduceLeDiff,iq,Option.bind_some,if_true,if_false,ite_true,ite_false,decide_true,decide_false,eR,oj,br,reduceIte,reduceCtorEq,e1,e2,e3,e4,e5,e6,e7,e8,e9]
theorem ajy(c:Int)(k:Nat)(hk:k < 24):∃n:Int,iJ [.int c,.int k]=.ok (.int n):=by have e1:=Tw (m:=c) (n:=1000000000000000009) (by decide);have e2:nG (.int 7919) (.int k)=.ok (.int (7919 * k)):=uI (by omega);have e3:nG (.int (c % 1000000000000000009 + 7919 * k + 12345)) (.int 48271)=.ok (.int ((c % 1000000000000000009 + 7919 * k + 12345) * 48271)):=uI (by decide);have e4:=Tw (m:=(c % 1000000000000000009 + 7919 * k + 12345) * 48271) (n:=2305843009213693951) (by decide);have b1:0<=(c % 1000000000000000009 + 7919 * k + 12345) * 48271 % 2305843009213693951:=km _ (by decide);have b2:(c % 1000000000000000009 + 7919 * k + 12345) * 48271 % 2305843009213693951 < 2305843009213693951:=kS _ (by decide);generalize (c % 1000000000000000009 + 7919 * k + 12345) * 48271 % 2305843009213693951=p at e4 b1 b2;have e5:nG (.int p) (.int p)=.ok (.int (p * p)):=uI (by omega);have e6:=Tw (m:=p * p) (n:=2305843009213693921) (by decide);generalize p * p % 2305843009213693921=q at e6;have e7:nG (.int (q + k)) (.int 69621)=.ok (.int ((q + k) * 69621)):=uI (by decide);have e8:=Tw (m:=(q + k) * 69621) (n:=2305843009213693951) (by decide);generalize (q + k) * 69621 % 2305843009213693951=u at e8;exact⟨_,adp e1 e2 e3 e4 e5 e6 e7 e8 (aon ⟨by decide,by decide⟩)⟩
theorem adq(c:Int):∃(n:Int) (a:Sl),Ey (aU 2) nP (fC (.int 24)) [.fz (.int c),.fz (.int 0),.no]=.nx [.fz (.int c),.fz (.int n),a]:=by
 obtain⟨ρ',e1,n,a,rfl⟩:=yt (h:=aU 2) (g:=nP) (fun ρ=>∃(n:Int) (a:Sl),ρ=[.fz (.int c),.fz (.int n),a])
  (ds:=(bE 24).map fun(i:Nat)=>.int i) (ρ:=[.fz (.int c),.fz (.int 0),.no]) ⟨_,_,rfl⟩ (by
   rintro d hd ρ ⟨n,a,rfl⟩;obtain⟨j,hj,rfl⟩:=c8.mp hd;obtain⟨x,hx⟩:=ajy c j (eJ.mp hj);refine⟨_,_,rfl,?_,n * 1152921504606846976 + x % 1152921504606846976,.fz (.int j),rfl⟩;unfold nP;exact mQ (bM (bM (aG rfl) cu (ajV (.inr ⟨by decide,by decide⟩))) (bM (fM (aq (aG rfl) (aq (aG rfl) aO)) (bV rfl hx)) cu (Tw (by decide))) gk))
 exact⟨n,a,Yh (N:=24) cu (by decide) rfl e1⟩
theorem amI(c:Int):∃m:Int,jR [.int c]=.ok [.int m]:=by
 have p1:Td (.int 10) (.int 18)=.ok (.int (10 ^ Int.toNat 18)):=aoo ⟨by decide,by decide,by decide⟩;generalize (10:Int) ^ Int.toNat 18=T at p1;obtain⟨n,a,e⟩:=adq c;cases h:decide (T<=c) with
 |true =>
  refine⟨c - T,?_⟩;have run:jQ (bG ["cell","great","k"] [.int c])=.rl [.int (c - T)]:=by
   unfold jQ;have:zG (fT (bW gGe (aH 0) (bW Td (fC (.int 10)) (fC (.int 18))))) (Lr (ao (bW iT (aH 0) (bW Td (fC (.int 10)) (fC (.int 18)))) aR)) yr (bG ["cell","great","k"] [.int c])=.rl [.int (c - T)]:=by refine rE (vD (bM (aG rfl) (bM cu cu p1) (by rw[ahU,h]))) ?_;unfold Lr;rw[aq (bM (aG (d:=.int c) rfl) (bM cu cu p1) jd) aO];rfl
   unfold bU;rw[this];rfl
  unfold jR;rw[run];rfl
 |false =>
  refine⟨n,?_⟩;have run:jQ (bG ["cell","great","k"] [.int c])=.rl [.int n]:=by unfold jQ;refine aZ (iV (vD (bM (aG rfl) (bM cu cu p1) (by rw[ahU,h]))) pX) ?_;refine aZ (ρ1:=[.fz (.int c),.fz (.int 0),.no]) (mQ cu) ?_;refine aZ (nF e) ?_;rfl
  unfold jR;rw[run];rfl
theorem Mq{m w lx ly:Int}{s:Sl}:∃x y m':Int,xg (xA (dM (pq Vl.iT (pq dh (xP (bW fH (aH 2) (fC (.int 0)))) (xM 0 1 aP (rO (ao (fC (.int 5)) aR)))) (xP (fC (.int 2)))) (dM (pq Vl.iT (pq dh (xP (bW fH (aH 2) (fC (.int 1)))) (xM 0 1 aP (rO (ao (fC (.int 5)) aR)))) (xP (fC (.int 2)))) tQ)) Vl.dJ) [.op [.int m],.fz (.int w),.fz (aj [lx,ly]),s]=.rx (aj [x,y]) [.op [.int m'],.fz (.int w),.fz (aj [lx,ly]),s] :=
 ⟨lx + m % 5 - 2,ly + m / 5 % 5 - 2,m / 5 / 5,rQ (Oo (dD (fG (fG (iy (bM (aG rfl) cu rfl)) (xn rfl rfl (aq cu aO) (by decide) (by decide)) gk) (iy cu) jd) (dD (fG (fG (iy (bM (aG rfl) cu rfl)) (xn rfl rfl (aq cu aO) (by decide) (by decide)) gk) (iy cu) jd) oH)) (t2 _ _))⟩
theorem amJ(m w lx ly sp:Int)(hs:-(2 ^ 64) < sp/\sp < 2 ^ 64):∃x y m':Int,jT [.int m] [.int w,aj [lx,ly],.int sp]=.ok (aj [x,y],[.int m']):=by
 have Ry:∀{x y m':Int}{zs:List Sl},iz (iZ ["left","way","lead","spread"] [.int m] [.int w,aj [lx,ly],.int sp])=.rx (aj [x,y]) (.op [.int m']::zs)->∃x y m':Int,jT [.int m] [.int w,aj [lx,ly],.int sp]=.ok (aj [x,y],[.int m']):=fun {x y m' zs} h=>⟨x,y,m',by unfold jT;rw[h];rfl⟩
 cases h3:decide (w=3) with
 |true =>
  have w3:w=3:=of_decide_eq_true h3;cases h0:decide (m % 3=0) with
  |true =>
   have ix:∃z:Int,fH (.lst [.int (-1000000),.int 1000000]) (.int (m / 3 / 2000001 % 2))=.ok (.int z):=by
    rcases(show m / 3 / 2000001 % 2=0∨m / 3 / 2000001 % 2=1 by omega) with e|e <;> rw[e]
    ·exact⟨_,rfl⟩
    ·exact⟨_,rfl⟩
   obtain⟨z,ix⟩:=ix;refine Ry (x:=m / 3 % 2000001 - 1000000) (y:=z) (m':=m / 3 / 2000001 / 2) (zs:=[.fz (.int w),.fz (aj [lx,ly]),.fz (.int sp)]) ?_;unfold iz;refine YT (Oq (ρ1:=[.op [.int (m / 3)],.fz (.int w),.fz (aj [lx,ly]),.fz (.int sp)]) (Vd (aaZ (vD (bM (aG rfl) cu (by rw[oF,h3])))) (acs (fG (xn rfl rfl (aq cu aO) (by decide) (by decide)) (iy cu) (by rw[oF,h0])))) ?_);exact rQ (Oo (dD (fG (xn rfl rfl (aq cu aO) (by decide) (by decide)) (iy cu) jd) (dD (fG (iy (fM (aq (aes cu) (aq cu aO)) (BZ (by simp)))) (xn rfl rfl (aq cu aO) (by decide) (by decide)) ix) oH)) (t2 _ _))
  |false =>
   obtain⟨x,y,m',e⟩:=Mq (m:=m / 3) (w:=w) (lx:=lx) (ly:=ly) (s:=.fz (.int sp));refine Ry (x:=x) (y:=y) (m':=m') (zs:=[.fz (.int w),.fz (aj [lx,ly]),.fz (.int sp)]) ?_;unfold iz;refine aZ (yL (ρ1:=[.op [.int (m / 3)],.fz (.int w),.fz (aj [lx,ly]),.fz (.int sp)]) (Vd (aaZ (vD (bM (aG rfl) cu (by rw[oF,h3])))) (acs (fG (xn rfl rfl (aq cu aO) (by decide) (by decide)) (iy cu) (by rw[oF,h0])))) pX) ?_;refine aZ (iV (vD (bM (aG rfl) cu (by rw[oF,w3];rfl))) pX) e
 |false =>
  cases h1:decide (w=1) with
  |true =>
   refine Ry (x:=0) (y:=(m % 13 - 6) * sp) (m':=m / 13) (zs:=[.fz (.int w),.fz (aj [lx,ly]),.fz (.int sp)]) ?_;unfold iz;refine aZ (yL (ρ1:=[.op [.int m],.fz (.int w),.fz (aj [lx,ly]),.fz (.int sp)]) (Vc (aaZ (vD (bM (aG rfl) cu (by rw[oF,h3]))))) pX) ?_;refine YT (rE (vD (bM (aG rfl) cu (by rw[oF,h1]))) ?_);exact rQ (Oo (dD (iy cu) (dD (fG (fG (xn rfl rfl (aq cu aO) (by decide) (by decide)) (iy cu) jd) (iy (aG rfl)) (uI hs)) oH)) (t2 _ _))
  |false =>
   obtain⟨x,y,m',e⟩:=Mq (m:=m) (w:=w) (lx:=lx) (ly:=ly) (s:=.fz (.int sp));refine Ry (x:=x) (y:=y) (m':=m') (zs:=[.fz (.int w),.fz (aj [lx,ly]),.fz (.int sp)]) ?_;unfold iz;refine aZ (yL (ρ1:=[.op [.int m],.fz (.int w),.fz (aj [lx,ly]),.fz (.int sp)]) (Vc (aaZ (vD (bM (aG rfl) cu (by rw[oF,h3]))))) pX) ?_;exact aZ (iV (vD (bM (aG rfl) cu (by rw[oF,h1]))) pX) e
theorem HX{w mn lx ly sp:Int}(hs:-(2 ^ 64) < sp/\sp < 2 ^ 64):∀(l:List Nat) (m:Int) (kvs:List (List Int×D)) (a6:Sl),GN kvs->kvs.length + l.length<=1000 ->
  ∃(m':Int) (kvs':List (List Int×D)) (b6:Sl),cP (aU 6) mD (l.map fun(i:Nat)=>.int i) [.op [.int m],.fz (.int w),.fz (.int mn),.fz (.int sp),.fz (aj [lx,ly]),.od kvs,a6]=.nx [.op [.int m'],.fz (.int w),.fz (.int mn),.fz (.int sp),.fz (aj [lx,ly]),.od kvs',b6]/\GN kvs'/\kvs'.length<=kvs.length + l.length/\(kvs≠[]∨l≠[]->kvs'≠[])
 | [],m,kvs,a6,g,_=>⟨m,kvs,a6,rfl,g,by simp,fun h=>h.elim id fun z=>(z rfl).elim⟩
 |i::l,m,kvs,a6,g,hl=>by
  simp only[cy]at hl;obtain⟨x,y,m1,e⟩:=amJ m w lx ly sp hs;have lp:=rT kvs [x,y] (.bl true);have hb:mD [.op [.int m],.fz (.int w),.fz (.int mn),.fz (.int sp),.fz (aj [lx,ly]),.od kvs,.fz (.int i)]=.nx [.op [.int m1],.fz (.int w),.fz (.int mn),.fz (.int sp),.fz (aj [lx,ly]),.od (iw kvs [x,y] (.bl true)),.fz (.int i)]:=by unfold mD;exact abb (ks:=[x,y]) (kvs:=kvs) rfl (YQ rfl rfl (Vb (aq (aG rfl) (aq (aG rfl) (aq (aG rfl) aO)))) rfl rfl rfl e) rfl cu (by omega) rfl
  obtain⟨m2,k2,b6,e2,g2,l2,ne⟩:=HX (w:=w) (mn:=mn) (lx:=lx) (ly:=ly) hs l m1 (iw kvs [x,y] (.bl true)) (.fz (.int i)) (g.put _ _ _) (by omega);refine⟨m2,k2,b6,?_,g2,by simp only[cy];omega,fun _=>ne (.inl fun z=>?_)⟩
  ·simp only[cn,cP,aU,i8,iA,hb];exact e2
  ·have:=(uJ kvs [x,y] [x,y] (.bl true)).mpr (.inl rfl);rw[z]at this;cases this
structure Ps (n:Nat)(L:KL):Prop where
 pr:∀ks∈L,Pair ks
 nd:L.Nodup
 ex:∃L0,L=So.bZ L0
 ne:L≠[]
 le:L.length<=n
theorem abk{l:KL}(h:l.Nodup):(So.bZ l).Nodup:=(So.eV l).nodup_iff.mpr h
theorem apC{n:Nat}{kvs:List (List Int×D)}(g:GN kvs)(ne:kvs≠[])(hl:kvs.length<=n):Ps n (So.bZ (kvs.map (·.1))) :=
 ⟨fun ks hk=>g.pr ks (jJ.mp hk),abk g.nd,⟨_,rfl⟩,fun z=>ne (by
  have:=congrArg eT z;rw[nZ,cf]at this;exact ox.mp this),by rw[nZ,cf];exact hl⟩
theorem abl(m:Int):∃(m':Int) (L:KL),gw [.int m] []=.ok (.tup (L.map aj),[.int m'])/\Ps 12 L:=by
 have w0:0<=m % 4:=km _ (by decide);have ix:∃z:Int,(0 < z/\z<=12)/\fH (.lst [.int 4,.int 3,.int 4,.int 12]) (.int (m / 4 % 4))=.ok (.int z):=by
  rcases(show m / 4 % 4=0∨m / 4 % 4=1∨m / 4 % 4=2∨m / 4 % 4=3 by omega) with e|e|e|e <;> rw[e]
  ·exact⟨_,by decide,rfl⟩
  ·exact⟨_,by decide,rfl⟩
  ·exact⟨_,by decide,rfl⟩
  ·exact⟨_,by decide,rfl⟩
 obtain⟨z,⟨z0,z12⟩,ix⟩:=ix;generalize hm1:m / 4 / 4 / z=m1;have d0:0<=m / 4 / 4 % z:=km _ (by omega);have d1:m / 4 / 4 % z < z:=kS _ (by omega);generalize hM:m / 4 / 4 % z=M at d0 d1;have ix2:∃s:Int,(-(2 ^ 64) < s/\s < 2 ^ 64)/\fH (.lst [.int 1,.int 1,.int 7,.int 100003]) (.int (m1 % 4))=.ok (.int s):=by
  rcases(show m1 % 4=0∨m1 % 4=1∨m1 % 4=2∨m1 % 4=3 by omega) with e|e|e|e <;> rw[e]
  ·exact⟨_,by decide,rfl⟩
  ·exact⟨_,by decide,rfl⟩
  ·exact⟨_,by decide,rfl⟩
  ·exact⟨_,by decide,rfl⟩
 obtain⟨s,hs,ix2⟩:=ix2;generalize hw:m % 4=w at w0;have lead:∃(m2 lx ly:Int),zG (fT (bW RM (aH 1) (fC (.int 2)))) (xq 4 (xA (dM (pq Vl.iT (xM 0 1 aP (rO (ao (fC (.int 1999997)) aR))) (xP (fC (.int 999998)))) (dM (pq Vl.iT (xM 0 1 aP (rO (ao (fC (.int 1999997)) aR))) (xP (fC (.int 999998)))) tQ)) Vl.dJ)) yr
   [.op [.int (m1 / 4)],.fz (.int w),.fz (.int (1 + M)),.fz (.int s),.fz (aj [0,0]),.no,.no]=.nx [.op [.int m2],.fz (.int w),.fz (.int (1 + M)),.fz (.int s),.fz (aj [lx,ly]),.no,.no]:=by
  cases h:decide (w=2) with
  |false=>exact⟨m1 / 4,0,0,iV (vD (bM (aG rfl) cu (by rw[oF,h]))) pX⟩
  |true=>exact⟨m1 / 4 / 1999997 / 1999997,m1 / 4 % 1999997 - 999998,m1 / 4 / 1999997 % 1999997 - 999998,rE (vD (bM (aG rfl) cu (by rw[oF,h]))) (nH (Oo (dD (fG (xn rfl rfl (aq cu aO) (by decide) (by decide)) (iy cu) jd) (dD (fG (xn rfl rfl (aq cu aO) (by decide) (by decide)) (iy cu) jd) oH)) (t2 _ _)) rfl)⟩
 obtain⟨m2,lx,ly,el⟩:=lead;obtain⟨M',rfl⟩:∃M':Nat,M=M':=⟨M.toNat,by omega⟩
 obtain⟨m3,kvs,b6,e,g,l,ne⟩:=HX (w:=w) (mn:=1 + (M':Int)) (lx:=lx) (ly:=ly) hs (bE (1 + M')) m2 [] .no .nil (by rw[ir];simp only[fw];omega);rw[ir,fw]at l;have nn:kvs≠[]:=ne (.inr (by intro z;have:=congrArg eT z;rw[ir]at this;simp at this));refine⟨m3,_,?_,apC g nn (by omega)⟩;have run:nQ (iZ ["left","way","many","spread","lead","steps","k"] [.int m] [])=.rx (.tup ((So.bZ (kvs.map (·.1))).map aj)) [.op [.int m3],.fz (.int w),.fz (.int (1 + M')),.fz (.int s),.fz (aj [lx,ly]),.od kvs,b6]:=by
  unfold nQ;refine aZ (ρ1:=[.op [.int (m / 4)],.fz (.int w),.no,.no,.no,.no,.no]) (by rw[<- hw];exact nH (xn rfl rfl (aq cu aO) (by decide) (by decide)) rfl) ?_;refine aZ (ρ1:=[.op [.int m1],.fz (.int w),.fz (.int (1 + M')),.no,.no,.no,.no]) (by
   rw[<- hM,<- hm1];exact nH (fG (iy cu) (YQ rfl rfl (dD (fG (iy (fM (aq cu (aq cu (aq cu (aq cu aO)))) (BZ (by simp)))) (xn rfl rfl (aq cu aO) (by decide) (by decide)) ix) oH) rfl rfl rfl (agU _ z z0 (by omega))) gk) rfl) ?_
  refine aZ (ρ1:=[.op [.int (m1 / 4)],.fz (.int w),.fz (.int (1 + M')),.fz (.int s),.no,.no,.no]) (nH (fG (iy (fM (aq cu (aq cu (aq cu (aq cu aO)))) (BZ (by simp)))) (xn rfl rfl (aq cu aO) (by decide) (by decide)) ix2) rfl) ?_;refine aZ (ρ1:=[.op [.int (m1 / 4)],.fz (.int w),.fz (.int (1 + M')),.fz (.int s),.fz (aj [0,0]),.no,.no]) (mQ (fM (aq cu (aq cu aO)) (t2 _ _))) ?_;refine aZ el ?_;refine aZ (ρ1:=[.op [.int m2],.fz (.int w),.fz (.int (1 + M')),.fz (.int s),.fz (aj [lx,ly]),.od [],.no]) rfl ?_;refine aZ (nF (Yh (n:=1 + (M':Int)) (N:=1 + M') (aG rfl) (by omega) (by omega) e)) ?_;exact rQ (iy (fM (aq (DW rfl (by omega) g.pr) aO) rfl))
 unfold gw;rw[run];rfl
theorem agV{O:KL}(hp:∀ks∈O,Pair ks)(hl:O.length<=1000)(x y:Int):gK [.tup (O.map aj),aj [x,y]]=.ok (.lst ((O.map (ad [x,y])).map aj)):=by
 have c1:dw (ju 2 (bR (aU 0) (bR (aU 1) jY))) (fun _=>.ok true) xH 2 [1] (fL (aH 0) Xr) (bG ["piece","cell"] [.tup (O.map aj),aj [x,y]])=.ok (.lst ((O.map (ad [x,y])).map aj)):=by
  rw[fg];refine Np (ds:=O.map aj) rfl ?_ (by rw[cf];omega);exact vK (fun ρ=>∃a b,ρ=[a,b,.fz (aj [x,y])]) aj _ ⟨_,_,rfl⟩ (by
   rintro ks hk ρ ⟨a,b,rfl⟩;obtain⟨r,c,rfl⟩:=hp ks hk;refine⟨[.fz (.int r),.fz (.int c),.fz (aj [x,y])],rfl,?_,_,_,rfl⟩;unfold xH;exact fM (aq (bM (bM (aG rfl) cu rfl) (aG rfl) gk) (aq (bM (bM (aG rfl) cu rfl) (aG rfl) gk) aO)) (t2 _ _))
 have run:vV (bG ["piece","cell"] [.tup (O.map aj),aj [x,y]])=.rt (.lst ((O.map (ad [x,y])).map aj)):=by unfold vV;exact jH c1
 unfold gK;rw[run];rfl
theorem amK(m:Int):∃x y m':Int,jU [.int m] []=.ok (aj [x,y],[.int m']):=by
 have e2:nG (.int 2) (.int 999900000000)=.ok (.int 1999800000000):=by rw[uI (by decide)];exact congrArg (fun z=>Rs.ok (D.int z)) (by decide)
 have Ry:∀{x y m':Int}{zs:List Sl},mX (iZ ["left","far"] [.int m] [])=.rx (aj [x,y]) (.op [.int m']::zs)->∃x y m':Int,jU [.int m] []=.ok (aj [x,y],[.int m']):=fun {x y m' zs} h=>⟨x,y,m',by unfold jU;rw[h];rfl⟩
 cases h:decide (0 < m % 3) with
 |true =>
  refine Ry (x:=0) (y:=0) (m':=m / 3) (zs:=[.no]) ?_;unfold mX;refine YT (Oq (ρ1:=[.op [.int (m / 3)],.no]) (acs (fG (xn rfl rfl (aq cu aO) (by decide) (by decide)) (iy cu) (by rw[aly,h]))) ?_);exact rQ (iy (fM (aq cu (aq cu aO)) (t2 _ _)))
 |false =>
  refine Ry (x:=m / 3 % 1999800000001 - 999900000000) (y:=m / 3 / 1999800000001 % 1999800000001 - 999900000000) (m':=m / 3 / 1999800000001 / 1999800000001) (zs:=[.fz (.int 999900000000)]) ?_;unfold mX;refine aZ (yL (ρ1:=[.op [.int (m / 3)],.no]) (acs (fG (xn rfl rfl (aq cu aO) (by decide) (by decide)) (iy cu) (by rw[aly,h]))) pX) ?_;refine aZ (ρ1:=[.op [.int (m / 3)],.fz (.int 999900000000)]) (mQ cu) ?_;refine aiS (Oo (dD (fG (xn rfl rfl (aq (bM (bM cu (aG rfl) e2) cu gk) aO) (by decide) (by decide)) (iy (aG rfl)) jd) (dD (fG (xn rfl rfl (aq (bM (bM cu (aG rfl) e2) cu gk) aO) (by decide) (by decide)) (iy (aG rfl)) jd) oH)) (t2 _ _)) rfl
theorem Xg{z0 z1 z2 z3 z5 z6 z8:Sl}:∀(L:KL) (kvs:List (List Int×D)) (a7:Sl),(∀ks∈L,Pair ks)->GN kvs->kvs.length + L.length<=1000 ->
  ∃kvs' b7,cP (aU 7) mF (L.map aj) [z0,z1,z2,z3,.od kvs,z5,z6,a7,z8]=.nx [z0,z1,z2,z3,.od kvs',z5,z6,b7,z8]/\GN kvs'/\kvs'.length<=kvs.length + L.length
 | [],kvs,a7,_,g,_=>⟨kvs,a7,rfl,g,by simp⟩
 |s::L,kvs,a7,hp,g,hl=>by
  simp only[cy]at hl;obtain⟨x,y,rfl⟩:=hp s (.head _);have lp:=rT kvs [x,y] (.bl true);have hb:mF [z0,z1,z2,z3,.od kvs,z5,z6,.fz (aj [x,y]),z8]=.nx [z0,z1,z2,z3,.od (iw kvs [x,y] (.bl true)),z5,z6,.fz (aj [x,y]),z8]:=by unfold mF;exact Ci (ks:=[x,y]) cu rfl (aG rfl) (by omega)
  obtain⟨k2,b7,e2,g2,l2⟩:=Xg L (iw kvs [x,y] (.bl true)) (.fz (aj [x,y])) (fun z hz=>hp z (.tail _ hz)) (g.put _ _ _) (by omega);refine⟨k2,b7,?_,g2,by simp only[cy];omega⟩;simp only[cn,cP,aU,i8,iA,hb];exact e2
theorem Xh{O:KL}{N:Nat}(hp:∀ks∈O,Pair ks)(hO:O.length<=N)(hN:N<=48){lx ly:Int}{z3 z8:Sl}:∀(l:List Nat) (m:Int) (kvs:List (List Int×D)) (a5 a6 a7:Sl),GN kvs->kvs.length + l.length * N<=1000 ->
  ∃m' kvs' b5 b6 b7,cP (aU 5) mG (l.map fun(i:Nat)=>.int i) [.op [.int m],.fz (.tup (O.map aj)),.fz (aj [lx,ly]),z3,.od kvs,a5,a6,a7,z8]=.nx [.op [.int m'],.fz (.tup (O.map aj)),.fz (aj [lx,ly]),z3,.od kvs',b5,b6,b7,z8]/\GN kvs'/\kvs'.length<=kvs.length + l.length * N
 | [],m,kvs,a5,a6,a7,g,_=>⟨m,kvs,a5,a6,a7,rfl,g,by simp⟩
 |i::l,m,kvs,a5,a6,a7,g,hl=>by
  simp only[cy,i9,i_]at hl;obtain⟨k1,b7,e1,g1,l1⟩:=Xg (z0:=.op [.int (m / 4 / 4)]) (z1:=.fz (.tup (O.map aj))) (z2:=.fz (aj [lx,ly])) (z3:=z3) (z5:=.fz (.int i)) (z6:=.fz (aj [lx + m % 4,ly + m / 4 % 4])) (z8:=z8) (O.map (ad [lx + m % 4,ly + m / 4 % 4])) kvs a7 (amm O _) g (by rw[cf];omega);rw[cf]at l1;have hb:mG [.op [.int m],.fz (.tup (O.map aj)),.fz (aj [lx,ly]),z3,.od kvs,.fz (.int i),a6,a7,z8]=.nx [.op [.int (m / 4 / 4)],.fz (.tup (O.map aj)),.fz (aj [lx,ly]),z3,.od k1,.fz (.int i),.fz (aj [lx + m % 4,ly + m / 4 % 4]),b7,z8]:=by unfold mG;refine aZ (ρ1:=[.op [.int (m / 4 / 4)],.fz (.tup (O.map aj)),.fz (aj [lx,ly]),z3,.od kvs,.fz (.int i),.fz (aj [lx + m % 4,ly + m / 4 % 4]),a7,z8]) (nH (Oo (dD (fG (iy (bM (aG rfl) cu rfl)) (xn rfl rfl (aq cu aO) (by decide) (by decide)) gk) (dD (fG (iy (bM (aG rfl) cu rfl)) (xn rfl rfl (aq cu aO) (by decide) (by decide)) gk) oH)) (t2 _ _)) rfl) ?_;exact Yi (fM (aq (aG rfl) (aq (aG rfl) aO)) (bV rfl (agV hp (by omega) _ _))) e1
  obtain⟨m2,k2,b5,b6,c7,e2,g2,l2⟩:=Xh hp hO hN (lx:=lx) (ly:=ly) (z3:=z3) (z8:=z8) l (m / 4 / 4) k1 (.fz (.int i)) (.fz (aj [lx + m % 4,ly + m / 4 % 4])) b7 g1 (by omega);refine⟨m2,k2,b5,b6,c7,?_,g2,by simp only[cy,i9,i_];omega⟩;simp only[cn,cP,aU,i8,iA,hb];exact e2
theorem Xi{lx ly:Int}{z1 z3 z6 z7 z8:Sl}:∀(l:List Nat) (m:Int) (kvs:List (List Int×D)) (a5:Sl),GN kvs->kvs.length + l.length<=1000 ->
  ∃m' kvs' b5,cP (aU 5) mH (l.map fun(i:Nat)=>.int i) [.op [.int m],z1,.fz (aj [lx,ly]),z3,.od kvs,a5,z6,z7,z8]=.nx [.op [.int m'],z1,.fz (aj [lx,ly]),z3,.od kvs',b5,z6,z7,z8]/\GN kvs'/\kvs'.length<=kvs.length + l.length
 | [],m,kvs,a5,g,_=>⟨m,kvs,a5,rfl,g,by simp⟩
 |i::l,m,kvs,a5,g,hl=>by
  simp only[cy]at hl;have lp:=rT kvs [lx + m % 9 - 3,ly + m / 9 % 9 - 3] (.bl true);have hb:mH [.op [.int m],z1,.fz (aj [lx,ly]),z3,.od kvs,.fz (.int i),z6,z7,z8]=.nx [.op [.int (m / 9 / 9)],z1,.fz (aj [lx,ly]),z3,.od (iw kvs [lx + m % 9 - 3,ly + m / 9 % 9 - 3] (.bl true)),.fz (.int i),z6,z7,z8]:=by unfold mH;exact abb (ks:=[lx + m % 9 - 3,ly + m / 9 % 9 - 3]) (kvs:=kvs) rfl (Oo (dD (fG (fG (iy (bM (aG rfl) cu rfl)) (xn rfl rfl (aq cu aO) (by decide) (by decide)) gk) (iy cu) jd) (dD (fG (fG (iy (bM (aG rfl) cu rfl)) (xn rfl rfl (aq cu aO) (by decide) (by decide)) gk) (iy cu) jd) oH)) (t2 _ _)) rfl cu (by omega) rfl
  obtain⟨m2,k2,b5,e2,g2,l2⟩:=Xi (lx:=lx) (ly:=ly) (z1:=z1) (z3:=z3) (z6:=z6) (z7:=z7) (z8:=z8) l (m / 9 / 9) (iw kvs [lx + m % 9 - 3,ly + m / 9 % 9 - 3] (.bl true)) (.fz (.int i)) (g.put _ _ _) (by omega);refine⟨m2,k2,b5,?_,g2,by simp only[cy];omega⟩;simp only[cn,cP,aU,i8,iA,hb];exact e2
theorem abm(L:KL):Tn (.lst (L.map aj)) (.lst [])=.ok (.bl (!decide (L=[]))):=by
 have hd:cV (.lst (L.map aj))<=8:=by have:=acr L;simp only[cV];omega
 rw[aop hd (by decide)];cases L <;> rfl
theorem vJ{α β:Type}(f:α->β):∀(l:List α) (n:Nat),(l.map f).eraseIdx n=(l.eraseIdx n).map f
 | [],_=>rfl
 |_::_,0=>rfl
 |a::l,n + 1=>by simp only[cn,qE,vJ f l n]
theorem Xj{z1 z2 z3 z4 z6 z7:Sl}:∀(l:List Nat) (m:Int) (A:KL) (a5:Sl),A.length<=1000 ->
  ∃(m':Int) (A':KL) (b5:Sl),cP (aU 5) mJ (l.map fun(i:Nat)=>.int i) [.op [.int m],z1,z2,z3,z4,a5,z6,z7,.ow (A.map aj)]=.nx [.op [.int m'],z1,z2,z3,z4,b5,z6,z7,.ow (A'.map aj)]/\A'.Sublist A
 | [],m,A,a5,_=>⟨m,A,a5,rfl,List.Sublist.refl _⟩
 |i::l,m,A,a5,hl=>by
  have hb:∃(m1:Int) (A1:KL),mJ [.op [.int m],z1,z2,z3,z4,.fz (.int i),z6,z7,.ow (A.map aj)]=.nx [.op [.int m1],z1,z2,z3,z4,.fz (.int i),z6,z7,.ow (A1.map aj)]/\A1.Sublist A:=by
   unfold mJ;cases h:decide (A=[]) with
   |true=>exact⟨m,A,iV (vD (afL rfl rfl (fM aO (BZ (by simp))) (by rw[abm,h];rfl))) pX,List.Sublist.refl _⟩
   |false =>
    have hA:A≠[]:=of_decide_eq_false h;have h0:0 < A.length:=wb.mpr hA;have p0:0<=m % (A.length:Int):=km _ (by omega);have p1:m % (A.length:Int) < A.length:=kS _ (by omega);refine⟨m / A.length,A.eraseIdx (m % (A.length:Int)).toNat,rE (vD (afL rfl rfl (fM aO (BZ (by simp))) (by rw[abm,h];rfl))) ?_,List.eraseIdx_sublist _ _⟩;have ln:aaV 8 [.op [.int m],z1,z2,z3,z4,.fz (.int i),z6,z7,.ow (A.map aj)]=.ok (.int A.length):=by show Rs.ok (D.int ((A.map aj).length:Nat))=_;rw[cf]
    refine aiV (es:=A.map aj) rfl (xn rfl rfl (aq ln aO) (by omega) (by omega)) rfl ⟨p0,by rw[cf];exact p1,by rw[cf];omega⟩ ?_;rw[vJ];rfl
  obtain⟨m1,A1,hb,s1⟩:=hb;obtain⟨m2,A2,b5,e2,s2⟩:=Xj (z1:=z1) (z2:=z2) (z3:=z3) (z4:=z4) (z6:=z6) (z7:=z7) l m1 A1 (.fz (.int i)) (cz s1.length_le hl);refine⟨m2,A2,b5,?_,s2.trans s1⟩;simp only[cn,cP,aU,i8,iA,hb];exact e2
structure Cl (n:Nat)(A:KL):Prop where
 pr:∀ks∈A,Pair ks
 nd:A.Nodup
 pw:A.Pairwise So.leK
 le:A.length<=n
theorem ajz{O:KL}{N:Nat}(hp:∀ks∈O,Pair ks)(hO:O.length<=48)(h24:24<=N)(h2N:2 * O.length<=N)(hN:N<=192)(m lx ly:Int):∃(A:KL) (b:Bool) (m':Int),lD [.int m] [.tup (O.map aj),aj [lx,ly]]=.ok (sh A b,[.int m'])/\Cl (N + 5) A:=by
 have cnt:∃n1:Int,(0 < n1/\n1<=5/\(n1.toNat - 1) * O.length<=N)/\(bW dh (fC (.int 3)) (bW nG (fC (.int 2)) (fA (ao (bW gLt (fA (ao (aH 1) aR) vX) (fC (.int 7))) aR) Yy))) [.op [.int (m / 3)],.fz (.tup (O.map aj)),.fz (aj [lx,ly]),.fz (.bl (decide (m % 3=0))),.od [],.no,.no,.no,.no]=.ok (.int n1):=by
  have hl:vX [.tup (O.map aj)]=.ok (.int O.length):=by rw[Gs,cf]
  cases h:decide ((O.length:Int) < 7) with
  |true=>exact⟨5,⟨by decide,by decide,by have:=of_decide_eq_true h;show 4 * O.length<=N;omega⟩,bM cu (bM cu (fM (aq (bM (fM (aq (aG rfl) aO) hl) cu (by rw[alx,h])) aO) YM) (uI (by decide))) rfl⟩
  |false=>exact⟨3,⟨by decide,by decide,h2N⟩,bM cu (bM cu (fM (aq (bM (fM (aq (aG rfl) aO) hl) cu (by rw[alx,h])) aO) YM) (uI (by decide))) rfl⟩
 obtain⟨n1,⟨c0,c1,cN⟩,ec⟩:=cnt;have d0:0<=m / 3 % n1:=km _ (by omega);have d1:m / 3 % n1 < n1:=kS _ (by omega);obtain⟨C,hC⟩:∃C:Nat,m / 3 % n1=C:=⟨(m / 3 % n1).toNat,by omega⟩
 have hmul:C * O.length<=N:=cz (o7 _ (by omega:C<=n1.toNat - 1)) cN;obtain⟨m2,k2,b5,b6,b7,e2,g2,l2⟩:=Xh (N:=O.length) hp (bo _) hO (lx:=lx) (ly:=ly) (z3:=.fz (.bl (decide (m % 3=0)))) (z8:=.no) (bE C) (m / 3 / n1) [] .no .no .no .nil (by rw[ir,fw];omega);rw[ir,fw]at l2;have q0:0<=m2 % 6:=km _ (by decide);have q1:m2 % 6 < 6:=kS _ (by decide);obtain⟨C3,hC3⟩:∃C:Nat,m2 % 6=C:=⟨(m2 % 6).toNat,by omega⟩
 obtain⟨m3,k3,c5,e3,g3,l3⟩:=Xi (lx:=lx) (ly:=ly) (z1:=.fz (.tup (O.map aj))) (z3:=.fz (.bl (decide (m % 3=0)))) (z6:=b6) (z7:=b7) (z8:=.no) (bE C3) (m2 / 6) k2 b5 g2 (by rw[ir];omega);rw[ir]at l3;have r0:0<=m3 % 3:=km _ (by decide);have r1:m3 % 3 < 3:=kS _ (by decide);obtain⟨C4,hC4⟩:∃C:Nat,m3 % 3=C:=⟨(m3 % 3).toNat,by omega⟩
 have lk:(So.bZ (k3.map (·.1))).length=k3.length:=by rw[nZ,cf]
 obtain⟨m4,A,d5,e4,sA⟩:=Xj (z1:=.fz (.tup (O.map aj))) (z2:=.fz (aj [lx,ly])) (z3:=.fz (.bl (decide (m % 3=0)))) (z4:=.od k3) (z6:=b6) (z7:=b7) (bE C4) (m3 / 3) (So.bZ (k3.map (·.1))) c5 (by omega);refine⟨A,decide (m % 3=0),m4,?_,⟨fun ks hk=>g3.pr ks (jJ.mp (sA.subset hk)),(abk g3.nd).sublist sA,j5 sA (So.qD _),?_⟩⟩
 ·have run:nR (iZ ["left","piece","lead","rest","cells","k","mark","cell","told"] [.int m] [.tup (O.map aj),aj [lx,ly]])=.rx (sh A (decide (m % 3=0))) [.op [.int m4],.fz (.tup (O.map aj)),.fz (aj [lx,ly]),.fz (.bl (decide (m % 3=0))),.od k3,d5,b6,b7,.fz (.lst (A.map aj))]:=by unfold nR;refine aZ (ρ1:=[.op [.int (m / 3)],.fz (.tup (O.map aj)),.fz (aj [lx,ly]),.fz (.bl (decide (m % 3=0))),.no,.no,.no,.no,.no]) (nH (fG (xn rfl rfl (aq cu aO) (by decide) (by decide)) (iy cu) oF) rfl) ?_;refine aZ (ρ1:=[.op [.int (m / 3)],.fz (.tup (O.map aj)),.fz (aj [lx,ly]),.fz (.bl (decide (m % 3=0))),.od [],.no,.no,.no,.no]) rfl ?_;refine aZ (nF (Gv (N:=C) (ρ1:=[.op [.int (m / 3 / n1)],.fz (.tup (O.map aj)),.fz (aj [lx,ly]),.fz (.bl (decide (m % 3=0))),.od [],.no,.no,.no,.no]) (xn (i:=0) (z:=.op [.int (m / 3)]) (m:=m / 3) rfl rfl (aq ec aO) c0 (by omega)) (by omega) hC e2)) ?_;refine aZ (nF (Gv (N:=C3) (ρ1:=[.op [.int (m2 / 6)],.fz (.tup (O.map aj)),.fz (aj [lx,ly]),.fz (.bl (decide (m % 3=0))),.od k2,b5,b6,b7,.no]) (xn (i:=0) (z:=.op [.int m2]) (m:=m2) (n:=6) rfl rfl (aq cu aO) (by decide) (by decide)) (by omega) hC3 e3)) ?_;refine aZ (ρ1:=[.op [.int m3],.fz (.tup (O.map aj)),.fz (aj [lx,ly]),.fz (.bl (decide (m % 3=0))),.od k3,c5,b6,b7,.ow ((So.bZ (k3.map (·.1))).map aj)]) (acu rfl (by omega) g3.pr) ?_;refine aZ (nF (Gv (N:=C4) (ρ1:=[.op [.int (m3 / 3)],.fz (.tup (O.map aj)),.fz (aj [lx,ly]),.fz (.bl (decide (m % 3=0))),.od k3,c5,b6,b7,.ow ((So.bZ (k3.map (·.1))).map aj)]) (xn (i:=0) (z:=.op [.int m3]) (m:=m3) (n:=3) rfl rfl (aq cu aO) (by decide) (by decide)) (by omega) hC4 e4)) ?_;show xg _ [.op [.int m4],.fz (.tup (O.map aj)),.fz (aj [lx,ly]),.fz (.bl (decide (m % 3=0))),.od k3,d5,b6,b7,.fz (.lst (A.map aj))]=_;exact rQ (iy (fM (aq (fM (aq (aG rfl) aO) Gu) (aq (aG rfl) aO)) (t2 _ _)))
  unfold lD;rw[run];rfl
 ·have:=sA.length_le;omega
theorem HY{z0 z1:Sl}{x y:Int}:∀(L:KL) (kvs:List (List Int×D)) (a5 a6:Sl),(∀ks∈L,Pair ks)->GN kvs->kvs.length + L.length<=1000 ->
  ∃kvs' b5 b6,cP (ju 2 (bR (aU 5) (bR (aU 6) jY))) lF (L.map aj) [z0,z1,.od kvs,.fz (.int x),.fz (.int y),a5,a6]=.nx [z0,z1,.od kvs',.fz (.int x),.fz (.int y),b5,b6]/\GN kvs'/\kvs'.length<=kvs.length + L.length/\∀k,k∈kvs'.map (·.1)↔k∈kvs.map (·.1)∨∃t∈L,k=ad [x,y] t
 | [],kvs,a5,a6,_,g,_=>⟨kvs,a5,a6,rfl,g,by simp,fun k=>by simp⟩
 |s::L,kvs,a5,a6,hp,g,hl=>by
  simp only[cy]at hl;obtain⟨r,c,rfl⟩:=hp s (.head _);have lp:=rT kvs [x + r,y + c] (.bl true);have hb:lF [z0,z1,.od kvs,.fz (.int x),.fz (.int y),.fz (.int r),.fz (.int c)]=.nx [z0,z1,.od (iw kvs [x + r,y + c] (.bl true)),.fz (.int x),.fz (.int y),.fz (.int r),.fz (.int c)]:=by unfold lF;exact Ci (ks:=[x + r,y + c]) cu rfl (fM (aq (bM (aG rfl) (aG rfl) gk) (aq (bM (aG rfl) (aG rfl) gk) aO)) (t2 _ _)) (by omega)
  obtain⟨k2,b5,b6,e2,g2,l2,m2⟩:=HY (z0:=z0) (z1:=z1) (x:=x) (y:=y) L _ (.fz (.int r)) (.fz (.int c)) (fun z hz=>hp z (.tail _ hz)) (g.put (x + r) (y + c) (.bl true)) (by omega);refine⟨k2,b5,b6,?_,g2,by simp only[cy];omega,fun k=>?_⟩
  ·show cP _ _ (aj [r,c]::L.map aj) _=_;unfold cP;show(match lF [z0,z1,.od kvs,.fz (.int x),.fz (.int y),.fz (.int r),.fz (.int c)] with|.nx ρ=>cP _ _ (L.map aj) ρ|.ct ρ=>cP _ _ (L.map aj) ρ|.bk ρ=>.nx ρ|o=>o)=_;rw[hb];exact e2
  ·rw[m2,uJ];constructor
   ·rintro((h|h)|⟨t,ht,h⟩)
    ·exact .inr ⟨_,.head _,h⟩
    ·exact .inl h
    ·exact .inr ⟨t,.tail _ ht,h⟩
   ·rintro(h|⟨t,ht,h⟩)
    ·exact .inl (.inr h)
    ·cases ht with
     |head=>exact .inl (.inl h)
     |tail _ ht=>exact .inr ⟨t,ht,h⟩
theorem Ia{T:KL}(hT:∀ks∈T,Pair ks){z0:Sl}:∀(L:KL) (kvs:List (List Int×D)) (a3 a4 a5 a6:Sl),(∀ks∈L,Pair ks)->GN kvs->kvs.length + L.length * T.length<=1000 ->
  ∃kvs' b3 b4 b5 b6,cP (ju 2 (bR (aU 3) (bR (aU 4) jY))) lG (L.map aj) [z0,.fz (.tup (T.map aj)),.od kvs,a3,a4,a5,a6]=.nx [z0,.fz (.tup (T.map aj)),.od kvs',b3,b4,b5,b6]/\GN kvs'/\kvs'.length<=kvs.length + L.length * T.length/\∀k,k∈kvs'.map (·.1)↔k∈kvs.map (·.1)∨∃s∈L,∃t∈T,k=ad s t
 | [],kvs,a3,a4,a5,a6,_,g,_=>⟨kvs,a3,a4,a5,a6,rfl,g,by simp,fun k=>by simp⟩
 |s::L,kvs,a3,a4,a5,a6,hp,g,hl=>by
  simp only[cy,i9,i_]at hl;obtain⟨r,c,rfl⟩:=hp s (.head _);obtain⟨k1,b5,b6,e1,g1,l1,m1⟩:=HY (z0:=z0) (z1:=.fz (.tup (T.map aj))) (x:=r) (y:=c) T kvs a5 a6 hT g (by omega);have hb:lG [z0,.fz (.tup (T.map aj)),.od kvs,.fz (.int r),.fz (.int c),a5,a6]=.nx [z0,.fz (.tup (T.map aj)),.od k1,.fz (.int r),.fz (.int c),b5,b6]:=by unfold lG;exact uh (aG rfl) e1
  obtain⟨k2,c3,c4,c5,c6,e2,g2,l2,m2⟩:=Ia hT (z0:=z0) L k1 (.fz (.int r)) (.fz (.int c)) b5 b6 (fun z hz=>hp z (.tail _ hz)) g1 (by omega);refine⟨k2,c3,c4,c5,c6,?_,g2,by simp only[cy,i9,i_];omega,fun k=>?_⟩
  ·show cP _ _ (aj [r,c]::L.map aj) _=_;unfold cP;show(match lG [z0,.fz (.tup (T.map aj)),.od kvs,.fz (.int r),.fz (.int c),a5,a6] with|.nx ρ=>cP _ _ (L.map aj) ρ|.ct ρ=>cP _ _ (L.map aj) ρ|.bk ρ=>.nx ρ|o=>o)=_;rw[hb];exact e2
  ·rw[m2,m1];constructor
   ·rintro((h|⟨t,ht,h⟩)|⟨s,hs,h⟩)
    ·exact .inl h
    ·exact .inr ⟨_,.head _,t,ht,h⟩
    ·exact .inr ⟨s,.tail _ hs,h⟩
   ·rintro(h|⟨s,hs,t,ht,h⟩)
    ·exact .inl (.inl h)
    ·cases hs with
     |head=>exact .inl (.inr ⟨t,ht,h⟩)
     |tail _ hs=>exact .inr ⟨s,hs,t,ht,h⟩
theorem amL{L T:KL}(hL:∀ks∈L,Pair ks)(hT:∀ks∈T,Pair ks)(hl:L.length * T.length < 1000):∃kvs,jV [.tup (L.map aj),.tup (T.map aj)]=.ok (.lst ((So.bZ (kvs.map (·.1))).map aj))/\GN kvs/\kvs.length<=L.length * T.length/\∀k,k∈kvs.map (·.1)↔∃s∈L,∃t∈T,k=ad s t:=by
 obtain⟨k1,b3,b4,b5,b6,e1,g1,l1,m1⟩:=Ia hT (z0:=.fz (.tup (L.map aj))) L [] .no .no .no .no hL .nil (by rw[fw];omega);rw[fw,iq]at l1;refine⟨k1,?_,g1,l1,fun k=>by rw[m1];simp⟩;have run:pN (bG ["one","other","sums","row","column","further","beside"] [.tup (L.map aj),.tup (T.map aj)])=.rt (.lst ((So.bZ (k1.map (·.1))).map aj)):=by unfold pN;refine aZ (ρ1:=[.fz (.tup (L.map aj)),.fz (.tup (T.map aj)),.od [],.no,.no,.no,.no]) rfl ?_;refine aZ (nF (uh (aG rfl) e1)) ?_;exact jH (DW rfl (by omega) g1.pr)
 unfold jV;rw[run];rfl
theorem sV(a b:List Int)(ha:Pair a)(hb:Pair b):eF [aj a,aj b]=.ok (aj (mi a b)):=by obtain⟨x,y,rfl⟩:=ha;obtain⟨z,w,rfl⟩:=hb;kernel_rfl
theorem qm(a b:List Int)(ha:Pair a)(hb:Pair b):eE [aj a,aj b]=.ok (aj (ad a b)):=by obtain⟨x,y,rfl⟩:=ha;obtain⟨z,w,rfl⟩:=hb;kernel_rfl
theorem agW{ρ:au}{j:Nat}{kvs:List (List Int×D)}{ks:List Int}{w:D}{fs:au->Rs (List D)}(hj:ρ[j]?=some (.od kvs))(hf:fs ρ=.ok [aj ks,w]):Gg j fs ρ=.ok ((cg kvs ks).getD w):=by unfold Gg;rw[hj];dsimp only;rw[hf];simp only[Cg,oh]
theorem amM{ρ:au}{j:Nat}{kvs:List (List Int×D)}{ks:List Int}{w:D}{fs:au->Rs (List D)}(hj:ρ[j]?=some (.fz (dN kvs)))(hf:fs ρ=.ok [aj ks,w]):Vf j fs ρ=.ok ((cg kvs ks).getD w):=by unfold Vf;rw[hj];dsimp only;rw[hf];simp only[Cg,oh,yM]
theorem akn{kvs:List (List Int×D)}{ks:List Int}{d:D}(h:cg kvs ks=some d):Iz (dN kvs) (aj ks)=.ok d:=by unfold Iz;dsimp only;rw[oh];dsimp only;rw[yM,h]
theorem amN{kvs:List (List Int×D)}{ks:List Int}:yN true (aj ks) (dN kvs)=.ok (.bl (!(cg kvs ks).isSome)):=by unfold yN;dsimp only;rw[oh];dsimp only;rw[yM];rfl
theorem zF{L:KL}{j:Nat}{x:List Int}(h:L[j]?=some x):fH (.tup (L.map aj)) (.int j)=.ok (aj x):=aqX (aam (by rw[cw,h];rfl))
def SM(kvs:List (List Int×D)):Prop:=∀x,(∀d,cg kvs x=some d->∃n:Int,d=.int n)/\(x∈kvs.map (·.1)->Pair x/\Up x)
theorem amO{kvs:List (List Int×D)}{k:List Int}{n:Int}(h:SM kvs)(hk:Pair k)(hu:Up k):SM (iw kvs k (.int n)):=fun x=>by
 refine⟨fun d e=>?_,fun e=>?_⟩
 ·rw[OD]at e;by_cases c:x=k
  ·rw[if_pos c]at e;cases e;exact⟨_,rfl⟩
  ·rw[if_neg c]at e;exact(h x).1 d e
 ·rcases(uJ _ _ _ _).mp e with rfl|e
  ·exact⟨hk,hu⟩
  ·exact(h x).2 e
theorem amP{kvs:List (List Int×D)}(h:SM kvs)(x:List Int):∃n:Int,(cg kvs x).getD (.int 0)=.int n:=by
 cases e:cg kvs x with
 |none=>exact⟨0,rfl⟩
 |some d=>obtain⟨n,rfl⟩:=(h x).1 d e;exact⟨n,rfl⟩
theorem Xk{O:KL}(hO:fJ O){kvs:List (List Int×D)}{j:Nat}{a3:Sl}(hj:1 + j < O.length)(h:SM kvs)(hl:kvs.length<=1000000) :
  ∃kvs' b3,gR [.fz (.tup (O.map aj)),.od kvs,.fz (.int (1 + (j:Int))),a3]=.nx [.fz (.tup (O.map aj)),.od kvs',.fz (.int (1 + (j:Int))),b3]/\SM kvs'/\kvs'.length<=kvs.length + 1:=by
 have hj0:j < O.length:=by lia
 have hb:O[1 + j]?=some O[1 + j]:=d_ hj;have ha:O[j]?=some O[j]:=d_ hj0;have pb:=hO.pr _ (eQ hj);have pa:=hO.pr _ (eQ hj0);have lt:Aa O[j] O[1 + j]:=ko.mp hO.pw j (1 + j) hj0 hj (by lia);generalize O[1 + j]=b at hb pb lt;generalize O[j]=a at ha pa lt;have up:Up (mi b a):=by
  unfold Aa at lt;show 0 < c0 b - c0 a∨(0=c0 b - c0 a/\0 < c1 b - c1 a)
  lia
 obtain⟨n,en⟩:=amP h (mi b a);refine⟨iw kvs (mi b a) (.int (n + 1)),.fz (aj (mi b a)),?_,amO h (vL _ _) up,rT _ _ _⟩;unfold gR;have e1:(fA (ao (bW fH (aH 0) (aH 2)) (ao (bW fH (aH 0) (bW Vl.iT (aH 2) (fC (.int 1)))) aR)) (bC 2 eF)) [.fz (.tup (O.map aj)),.od kvs,.fz (.int (1 + (j:Int))),a3]=.ok (aj (mi b a)):=by refine fM (aq (bM (aG rfl) (aG rfl) (zF (j:=1 + j) hb)) (aq (bM (aG rfl) (bM (aG rfl) cu jd) ?_) aO)) (bV rfl (sV _ _ pb pa));rw[show(1 + (j:Int) - 1)=(j:Int) by lia];exact zF ha
 refine aZ (mQ e1) ?_;refine Ci (kvs:=kvs) (ks:=mi b a) (bM (agW (kvs:=kvs) rfl (aq (aG rfl) (aq cu aO))) cu ?_) rfl (aG rfl) hl;rw[en];exact gk
theorem Cu{O:KL}(hO:fJ O):∀(l:List Nat) (kvs:List (List Int×D)) (a2 a3:Sl),(∀j∈l,1 + j < O.length)->SM kvs->kvs.length + l.length<=1000 ->
  ∃kvs' b2 b3,cP (aU 2) gR (l.map fun(i:Nat)=>.int (1 + (i:Int))) [.fz (.tup (O.map aj)),.od kvs,a2,a3]=.nx [.fz (.tup (O.map aj)),.od kvs',b2,b3]/\SM kvs'/\kvs'.length<=kvs.length + l.length
 | [],kvs,a2,a3,_,h,_=>⟨kvs,a2,a3,rfl,h,bo _⟩
 |j::l,kvs,a2,a3,hj,h,hl=>by simp only[cy]at hl;obtain⟨k1,b3,e1,h1,l1⟩:=Xk hO (j:=j) (a3:=a3) (hj j (.head _)) h (by lia);obtain⟨k2,c2,c3,e2,h2,l2⟩:=Cu hO l k1 (.fz (.int (1 + (j:Int)))) b3 (fun i hi=>hj i (.tail _ hi)) h1 (by lia);refine⟨k2,c2,c3,?_,h2,by simp only[cy];lia⟩;simp only[cn,cP,aU,i8,iA,e1];exact e2
theorem abn{kvs all:List (List Int×D)}{ρ:au}(hr:ρ[1]?=some (.fz (dN all)))(h:SM all):∀{L:KL},(∀x∈L,x∈all.map (·.1))->∃ks,uL (bW Iz (aH 1) (aH 0)) [1] ρ (L.map aj)=.ok ks
 | [],_=>⟨[],rfl⟩
 |x::L,hx=>by
  obtain⟨ks,e⟩:=abn (kvs:=kvs) hr h (L:=L) fun y hy=>hx y (.tail _ hy);have:(cg all x).isSome=true:=by rw[rR];exact decide_eq_true (hx x (.head _))
  cases g:cg all x with
  |none=>rw[g]at this;cases this
  |some d =>
   obtain⟨n,rfl⟩:=(h x).1 d g;have st:mz (aj x) [1] ρ=[.fz (aj x),.fz (dN all)]:=by simp only[mz,cn,l8,hr]
   refine⟨n::ks,?_⟩;simp only[cn,uL,st];rw[show(bW Iz (aH 1) (aH 0)) [.fz (aj x),.fz (dN all)]=.ok (.int n) from bM (aG rfl) (aG rfl) (akn g)];simp only[e,Cg]
theorem ajA{h:Tg}{g:au->Ou}{ρ:au}{r:Ou}{m:Int}{N:Nat}{fs:au->Rs (List D)}(h1:fs ρ=.ok [.int m,.int (m + (N:Int))])(h0:0<=m)(hm:m < 1000000)(hN:N < 1000000)(h2:cP h g ((bE N).map fun(i:Nat)=>.int (m + i)) ρ=r):Ez h g fs ρ=r:=by
 have hc:-(2 ^ 62)<=m/\m < 2 ^ 62/\-(2 ^ 62)<=m + (N:Int)/\m + (N:Int) < 2 ^ 62:=by lia
 unfold Ez;rw[h1];simp only[oR];rw[if_pos hc,show(m + (N:Int) - m).toNat=N by lia];exact h2
theorem agX{O:KL}(hO:fJ O)(ho:O.length<=900)(hne:O≠[]):∃st,gC [.tup (O.map aj)]=.ok (aj st)/\Pair st/\Up st:=by
 obtain⟨kvs,b2,b3,e,h,l⟩:=Cu hO (bE (O.length - 1)) [] .no .no (fun j hj=>by have:=eJ.mp hj;lia) (fun x=>⟨fun d z=>(by cases z),fun z=>(by cases z)⟩) (by simp;lia);rw[ir,fw]at l;obtain⟨ks,ek⟩:=abn (kvs:=kvs) (ρ:=[.fz (.tup (O.map aj)),.fz (dN kvs),b2,b3]) rfl h (L:=kvs.map (·.1)) fun x hx=>hx;have Ry:∃st,Vh [1] (fB (aH 1) xu) (bW Iz (aH 1) (aH 0)) (fA (ao (fC (.int 0)) (ao (fC (.int 1)) aR)) dJ) [.fz (.tup (O.map aj)),.fz (dN kvs),b2,b3]=.ok (aj st)/\Pair st/\Up st:=by
  unfold Vh;rw[show(fB (aH 1) xu) [.fz (.tup (O.map aj)),.fz (dN kvs),b2,b3]=.ok (.lst ((kvs.map (·.1)).map aj)) from v_b (aG rfl) (by unfold xu;dsimp only;rw[if_pos (by rw[cf];lia)])];dsimp only;rw[show(fA (ao (fC (.int 0)) (ao (fC (.int 1)) aR)) dJ) [.fz (.tup (O.map aj)),.fz (dN kvs),b2,b3]=.ok (aj [0,1]) from fM (aq cu (aq cu aO)) (t2 _ _)];dsimp only;rw[ek];dsimp only;rw[cw];cases g:(kvs.map (·.1))[Vg ks]? with
  |none=>exact⟨[0,1],rfl,⟨_,_,rfl⟩,.inr ⟨rfl,by decide⟩⟩
  |some x =>
   have:=(h x).2 (kN g);exact⟨x,rfl,this.1,this.2⟩
 obtain⟨st,e2,p,u⟩:=Ry;refine⟨st,?_,p,u⟩;have run:ji (bG ["piece","met","place","stride"] [.tup (O.map aj)])=.rt (aj st):=by
  unfold ji;refine aZ (ρ1:=[.fz (.tup (O.map aj)),.od [],.no,.no]) rfl (aZ (nF (ρ1:=[.fz (.tup (O.map aj)),.od kvs,b2,b3]) ?_) ?_)
  ·refine ajA (m:=1) (N:=O.length - 1) (aq cu (aq (fM (aq (aG rfl) aO) (show vX [.tup (O.map aj)]=.ok (.int (1 + ((O.length - 1:Nat):Int))) from ?_)) aO)) (by decide) (by lia) (by lia) e;rw[Gs,cf];congr 2;have:=wb.mpr hne;lia
  ·show fX _ (acv 1 [.fz (.tup (O.map aj)),.od kvs,b2,b3])=_;rw[show acv 1 [.fz (.tup (O.map aj)),.od kvs,b2,b3]=[.fz (.tup (O.map aj)),.fz (dN kvs),b2,b3] from rfl];exact jH e2
 unfold gC;rw[run];rfl
theorem Mr{A:KL}{st:List Int}(hs:Pair st)(hu:Up st):∀(R S:KL) (kvs:List (List Int×D)) (a3:Sl),(∀x∈R,Pair x)->(∀x∈S,Pair x)->(∀x∈R,∀y∈S,Aa x y)->R.Pairwise (fun a b=>Aa b a)->xG S st kvs->kvs.length + R.length<=1000 ->
  ∃kvs' b3,cP (aU 3) jj (R.map aj) [.fz (.tup (A.map aj)),.fz (aj st),.od kvs,a3]=.nx [.fz (.tup (A.map aj)),.fz (aj st),.od kvs',b3]/\xG (R.reverse++S) st kvs'/\kvs'.length<=kvs.length + R.length
 | [],S,kvs,a3,_,_,_,_,h,_=>⟨kvs,a3,rfl,h,bo _⟩
 |c::R,S,kvs,a3,pr,ps,lt,pw,h,hl=>by
  simp only[cy]at hl;have hc:=pr c (.head _);obtain⟨n,e,h'⟩:=afW hu hc ps (lt c (.head _)) h;have st1:jj [.fz (.tup (A.map aj)),.fz (aj st),.od kvs,.fz (aj c)]=.nx [.fz (.tup (A.map aj)),.fz (aj st),.od (iw kvs c (.int (n + 1))),.fz (aj c)]:=by unfold jj;refine Ci (kvs:=kvs) (ks:=c) (bM (agW (kvs:=kvs) rfl (aq (fM (aq (aG rfl) (aq (aG rfl) aO)) (bV rfl (qm _ _ hc hs))) (aq cu aO))) cu ?_) rfl (aG rfl) (by lia);rw[e];exact gk
  have pc:=fI.mp pw;have lp:=rT kvs c (.int (n + 1));obtain⟨k2,b3,e2,h2,l2⟩:=Mr (A:=A) hs hu R (c::S) (iw kvs c (.int (n + 1))) (.fz (aj c)) (fun x hx=>pr x (.tail _ hx)) (fun x hx=>(bP.mp hx).elim (fun z=>z▸hc) (ps x)) (fun x hx y hy=>(bP.mp hy).elim (fun z=>z▸pc.1 x hx) (lt x (.tail _ hx) y)) pc.2 h' (by lia);refine⟨k2,b3,?_,?_,by simp only[cy];lia⟩
  ·simp only[cn,cP,aU,i8,iA,st1];exact e2
  ·rw[v7,h_];exact h2
theorem agY{A:KL}(hA:fJ A)(ha:A.length<=900){st:List Int}(hs:Pair st)(hu:Up st):∃kvs,fj [.tup (A.map aj),aj st]=.ok (dN kvs)/\xG A st kvs:=by
 obtain⟨kvs,b3,e,h,l⟩:=Mr (A:=A) hs hu A.reverse [] [] .no (fun x hx=>hA.pr x (o3.mp hx)) (fun x hx=>by cases hx) (fun x _ y hy=>by cases hy) (List.pairwise_reverse.mpr hA.pw) (fun x=>⟨fun z=>(by cases z),fun _=>rfl⟩) (by simp;lia);rw[List.reverse_reverse,hW]at h;refine⟨kvs,?_,h⟩;have run:mC (bG ["cells","stride","lengths","cell"] [.tup (A.map aj),aj st])=.rt (dN kvs):=by
  unfold mC;refine aZ (ρ1:=[.fz (.tup (A.map aj)),.fz (aj st),.od [],.no]) rfl (aZ (nF (ρ1:=[.fz (.tup (A.map aj)),.fz (aj st),.od kvs,b3]) ?_) ?_)
  ·unfold Gj;rw[show(fL (aH 0) asV) [.fz (.tup (A.map aj)),.fz (aj st),.od [],.no]=.ok (A.reverse.map aj) from v_l (aG rfl) (by unfold asV;dsimp only;rw[if_pos (by rw[cf];lia),List.map_reverse])];exact e
  ·exact jH (aG rfl)
 unfold fj;rw[run];rfl
theorem ajB{O:KL}(hO:fJ O)(ho:O.length<=900){st:List Int}(hs:Pair st)(hu:Up st):∃len:List Int->Nat,(∀x∈O,Mf O st x (len x))/\gD [.tup (O.map aj),aj st]=.ok (.lst ((O.filter fun x=>decide (mi x st∉O)).map fun h=>.tup [aj h,.int (len h)])):=by
 obtain⟨kvs,e,h⟩:=agY hO ho hs hu
 let len:List Int->Nat:=fun x=>match cg kvs x with|some (.int n)=>n.toNat|_=>0
 have hlen:∀x∈O,cg kvs x=some (.int (len x))/\Mf O st x (len x):=fun x hx=>by
  obtain⟨n,e,r⟩:=(h x).1 hx;have:len x=n:=by show(match cg kvs x with|some (.int n)=>n.toNat|_=>0)=n;rw[e];simp
  rw[this];exact⟨e,r⟩
 refine⟨len,fun x hx=>(hlen x hx).2,?_⟩;have cm:dw (aU 0) kZ pF 1 [2,1] (fL (aH 0) Xr) [.fz (.tup (O.map aj)),.fz (aj st),.fz (dN kvs),.no]=.ok (.lst ((O.filter fun x=>decide (mi x st∉O)).map aj)):=by
  refine Ly (cs:=[.fz (dN kvs),.fz (aj st)]) rfl (v_l (aG rfl) rfl) (fun ks hk=>?_) (fun ks hk=>aG rfl) (by lia);unfold kZ;refine vD (bM (fM (aq (aG rfl) (aq (aG rfl) aO)) (bV rfl (sV _ _ (hO.pr ks hk) hs))) (aG rfl) ?_);rw[amN];congr 2;by_cases c:mi ks st∈O
  ·obtain⟨n,e,_⟩:=(h _).1 c;rw[e];simp[c]
  ·rw[(h _).2 c];simp[c]
 have run:jk (bG ["piece","stride","lengths","heads"] [.tup (O.map aj),aj st])=.rt (.lst ((O.filter fun x=>decide (mi x st∉O)).map fun h=>.tup [aj h,.int (len h)])):=by unfold jk;refine aZ (mQ (fM (aq (aG rfl) (aq (aG rfl) aO)) (bV rfl e))) (aZ (mQ cm) ?_);refine jH ?_;refine uK (cs:=[.fz (dN kvs)]) rfl (v_l (aG rfl) rfl) (fun ks hk=>?_) (cz (sj _ _) (by lia));unfold pG;exact fM (aq (aG rfl) (aq (bM (aG rfl) (aG rfl) (akn (hlen ks (fN.mp hk).1).1)) aO)) (t2 _ _)
 unfold gD;rw[run];rfl
theorem Cv{A O:KL}{st:List Int}{kvs:List (List Int×D)}(hk:xG A st kvs){len:List Int->Nat}{a0 a1 a2:Sl}:∀(Hs P:KL) (a5 a6:Sl),(∀h∈Hs,Pair h/\0 < len h)->(∀p∈P,Pair p)->P.length<=1000 ->
  ∃(P':KL) (b5 b6:Sl),cP (ju 2 (bR (aU 5) (bR (aU 6) jY))) gU (Hs.map fun h=>.tup [aj h,.int (len h)]) [a0,a1,a2,.fz (dN kvs),.fz (.lst (P.map aj)),a5,a6]=.nx [a0,a1,a2,.fz (dN kvs),.fz (.lst (P'.map aj)),b5,b6] /\
   ∃t:List Int->Bool,P'=P.filter t/\∀p∈P,(t p=true↔∀h∈Hs,∀j,j < len h->go st (ad p h) j∈A)
 | [],P,a5,a6,_,_,_=>⟨P,a5,a6,rfl,fun _=>true,(List.filter_eq_self.mpr fun _ _=>rfl).symm,fun p _=>⟨fun _ h hh=>(by cases hh),fun _=>rfl⟩⟩
 |h::Hs,P,a5,a6,hh,hP,hl=>by
  obtain⟨ph,pos⟩:=hh h (.head _)
  let t1:List Int->Bool:=fun p=>match (cg kvs (ad p h)).getD (.int 0) with|.int m=>decide ((len h:Int)<=m)|_=>false
  have tt:∀p,(t1 p=true↔∀j,j < len h->go st (ad p h) j∈A)/\∃m:Nat,(cg kvs (ad p h)).getD (.int 0)=.int m/\t1 p=decide ((len h:Int)<=m):=fun p=>by
   obtain⟨m,e,iff⟩:=amw pos (DX p h) hk;have e1:t1 p=decide ((len h:Int)<=m):=by show(match (cg kvs (ad p h)).getD (.int 0) with|.int m=>decide ((len h:Int)<=m)|_=>false)=_;rw[e]
   refine⟨?_,m,e,e1⟩;rw[e1,decide_eq_true_eq,<- iff];lia
  have cm:dw (aU 0) lu pH 1 [6,3,5] (fL (aH 4) asL) [a0,a1,a2,.fz (dN kvs),.fz (.lst (P.map aj)),.fz (aj h),.fz (.int (len h))]=.ok (.lst ((P.filter t1).map aj)):=by refine Ly (cs:=[.fz (.int (len h)),.fz (dN kvs),.fz (aj h)]) rfl (v_l (aG rfl) rfl) (fun p hp=>?_) (fun ks hk=>aG rfl) hl;obtain⟨_,m,e,e1⟩:=tt p;unfold lu;refine vD (bM (amM (kvs:=kvs) rfl (aq (fM (aq (aG rfl) (aq (aG rfl) aO)) (bV rfl (qm _ _ (hP p hp) ph))) (aq cu aO))) (aG rfl) ?_);rw[e,e1];exact ahU
  have st1:gU [a0,a1,a2,.fz (dN kvs),.fz (.lst (P.map aj)),.fz (aj h),.fz (.int (len h))]=.nx [a0,a1,a2,.fz (dN kvs),.fz (.lst ((P.filter t1).map aj)),.fz (aj h),.fz (.int (len h))]:=by unfold gU;exact mQ cm
  obtain⟨P',b5,b6,e2,t,eP,ht⟩:=Cv (O:=O) hk (a0:=a0) (a1:=a1) (a2:=a2) Hs (P.filter t1) (.fz (aj h)) (.fz (.int (len h))) (fun x hx=>hh x (.tail _ hx)) (fun p hp=>hP p (fN.mp hp).1) (cz (sj _ _) hl);refine⟨P',b5,b6,?_,fun p=>t p && t1 p,?_,fun p hp=>?_⟩
  ·simp only[cn,cP];rw[show ju 2 (bR (aU 5) (bR (aU 6) jY)) (.tup [aj h,.int (len h)]) [a0,a1,a2,.fz (dN kvs),.fz (.lst (P.map aj)),a5,a6]=some [a0,a1,a2,.fz (dN kvs),.fz (.lst (P.map aj)),.fz (aj h),.fz (.int (len h))] from rfl];simp only[st1];exact e2
  ·rw[eP,List.filter_filter]
  ·rw[jv,(tt p).1];constructor
   ·rintro⟨z1,z2⟩ x hx;rcases bP.mp hx with rfl|hx
    ·exact z2
    ·exact(ht p (fN.mpr ⟨hp,(tt p).1.mpr z2⟩)).mp z1 x hx
   ·intro z;have z2:=z h (.head _);exact⟨(ht p (fN.mpr ⟨hp,(tt p).1.mpr z2⟩)).mpr fun x hx=>z x (.tail _ hx),z2⟩
def ZR(A O:KL):KL:=(A.map fun x=>mi x (O.headD [])).filter fun p=>O.all fun t=>decide (ad p t∈A)
theorem Xl{A O:KL}(hA:fJ A)(ha:A.length<=900)(hO:fJ O)(ho:O.length<=900)(ne:O≠[]):dF [.tup (A.map aj),.tup (O.map aj)]=.ok (.tup ((ZR A O).map aj)):=by
 obtain⟨st,es,ps,us⟩:=agX hO ho ne;obtain⟨kvs,ek,hk⟩:=agY hA ha ps us;obtain⟨len,hl,eh⟩:=ajB hO ho ps us;have hd:∃o O',O=o::O':=by cases O with|nil=>exact(ne rfl).elim|cons o O'=>exact⟨o,O',rfl⟩
 obtain⟨o,O',eO⟩:=hd;have po:Pair o:=hO.pr o (by rw[eO];exact dA);have h0:O.headD []=o:=by rw[eO];rfl
 have cm:dw (aU 0) (fun _=>.ok true) lg 1 [1] (fL (aH 0) Xr) [.fz (.tup (A.map aj)),.fz (.tup (O.map aj)),.fz (aj st),.fz (dN kvs),.no,.no,.no]=.ok (.lst ((A.map fun x=>mi x o).map aj)):=by rw[fg];refine uK (cs:=[.fz (.tup (O.map aj))]) rfl (v_l (aG rfl) rfl) (fun ks hk=>?_) (by lia);unfold lg;refine fM (aq (aG rfl) (aq (bM (aG rfl) cu (show fH (.tup (O.map aj)) (.int 0)=.ok (aj o) from ?_)) aO)) (bV rfl (sV _ _ (hA.pr ks hk) po));exact zF (j:=0) (by rw[eO];rfl)
 obtain⟨P',b5,b6,e2,t,eP,ht⟩:=Cv (O:=O) hk (len:=len) (a0:=.fz (.tup (A.map aj))) (a1:=.fz (.tup (O.map aj))) (a2:=.fz (aj st)) (O.filter fun x=>decide (mi x st∉O)) (A.map fun x=>mi x o) .no .no
  (fun h hh=>by
   have hm:=(fN.mp hh).1;exact⟨hO.pr h hm,tx fun z=>(hl h hm).2 (by rw[z,pD (hO.pr h hm)];exact hm)⟩)
  (fun p hp=>by obtain⟨x,_,rfl⟩:=c8.mp hp;exact vL _ _) (by rw[cf];lia)
 have eq:P'=ZR A O:=by
  rw[eP];unfold ZR;rw[h0];refine List.filter_congr fun p hp=>?_;rw[Bool.eq_iff_iff,ht p hp,iS];simp only[decide_eq_true_eq];rw[<- afX hO.pr us hl p];constructor
  ·intro z h hh hm;exact z h (fN.mpr ⟨hh,decide_eq_true hm⟩)
  ·intro z h hh;have:=fN.mp hh;exact z h this.1 (of_decide_eq_true this.2)
 have run:jl (bG ["cells","piece","stride","lengths","places","head","length"] [.tup (A.map aj),.tup (O.map aj)])=.rt (.tup ((ZR A O).map aj)):=by unfold jl;refine aZ (mQ (fM (aq (aG rfl) aO) (bV rfl es))) (aZ (mQ (fM (aq (aG rfl) (aq (aG rfl) aO)) (bV rfl ek))) (aZ (mQ cm) (aZ (nF (Yi (fM (aq (aG rfl) (aq (aG rfl) aO)) (bV rfl eh)) e2)) ?_)));rw[<- eq];exact jH (fM (aq (aG rfl) aO) Gu)
 unfold dF;rw[run];rfl
theorem Xm{bB:KL}(hl:bB.length < 1000)(hp:∀ks∈bB,Pair ks):oM [.lst (bB.map aj)]=.ok (.tup ((rise bB).map aj)):=by have e:bG ["cells"] [.lst (bB.map aj)]=[.fz (.lst (bB.map aj))]:=rfl;unfold oM Gx;rw[e];rw[jH (fM (aq (aiQ (aG rfl) hl fun ks hk=>(hp ks hk).ne) aO) rfl)];rfl
structure Good (L:KL):Prop where
 st:fJ L
 ne:L≠[]
 le:L.length<=48
theorem Good.pr{L:KL}(h:Good L):∀x∈L,Pair x:=h.st.pr
def ng(t:List Int):List Int:=[-(c0 t),-(c1 t)]
def RN(O:KL):KL:=rise (O.map ng)
theorem ajC{O:KL}{x:List Int}:x∈RN O↔∃t∈O,ng t=x:=by unfold RN;rw[yK,c8]
theorem Ib{O:KL}(hO:Good O):Good (RN O):=by
 refine⟨fJ.rise fun x hx=>by obtain⟨t,_,rfl⟩:=c8.mp hx;exact⟨_,_,rfl⟩,?_,cz (qK _) (by rw[cf];exact hO.le)⟩;intro z;cases O with
 |nil=>exact hO.ne rfl
 |cons o O=>exact gS (z▸ajC.mpr ⟨o,dA,rfl⟩:ng o∈[])
theorem Ie{O:KL}(hO:Good O):jD [.tup (O.map aj)]=.ok (.tup ((RN O).map aj)):=by
 have lo:=hO.le;have c1:dw (aU 0) (fun _=>.ok true) yQ 1 [] (fL (aH 0) Xr) [.fz (.tup (O.map aj))]=.ok (.lst ((O.map ng).map aj)):=by rw[fg];refine uK (cs:=[]) rfl rfl (fun ks hk=>?_) (cz hO.le (by decide));obtain⟨a,b,rfl⟩:=hO.pr ks hk;exact fM (aq (aes (bM (aG rfl) cu rfl)) (aq (aes (bM (aG rfl) cu rfl)) aO)) (t2 _ _)
 have rs:=Xm (bB:=O.map ng) (by rw[cf];lia) (fun x hx=>by obtain⟨t,_,rfl⟩:=c8.mp hx;exact⟨_,_,rfl⟩);have run:rZ (bG ["piece"] [.tup (O.map aj)])=.rt (.tup ((RN O).map aj)):=by unfold rZ;exact jH (fM (aq c1 aO) (bV rfl rs))
 unfold jD;rw[run];rfl
def oZ(A:KL):KL->KL
 | []=>[]
 |t::O=>A.map (fun a=>ad a t)++oZ A O
theorem vh{A:KL}{x:List Int}:∀{O:KL},x∈oZ A O↔∃a∈A,∃t∈O,ad a t=x
 | []=>by simp[oZ]
 |t::O=>by
  simp only[oZ,du,c8,vh (O:=O),bP];constructor
  ·rintro(⟨a,ha,e⟩|⟨a,ha,u,hu,e⟩)
   ·exact⟨a,ha,t,.inl rfl,e⟩
   ·exact⟨a,ha,u,.inr hu,e⟩
  ·rintro⟨a,ha,u,rfl|hu,e⟩
   ·exact .inl ⟨a,ha,e⟩
   ·exact .inr ⟨a,ha,u,hu,e⟩
theorem qX{A:KL}:∀{O:KL},(oZ A O).length=O.length * A.length
 | []=>by simp[oZ]
 |t::O=>by simp only[oZ,dy,cf,cy,qX (O:=O),i9,i_];lia
theorem amQ{ρ:au}{i:Nat}{acc es:KL}{f:au->Rs D}(hi:ρ[i]?=some (.ow (acc.map aj)))(hf:f ρ=.ok (.lst (es.map aj)))(hl:acc.length + es.length<=1000000):Ln i f ρ=.nx (ρ.set i (.ow ((acc++es).map aj))):=by unfold Ln;rw[hi];dsimp only;rw[hf];simp only[aoO];rw[if_pos (by simpa using hl),mN]
theorem Ms{A:KL}(hA:∀x∈A,Pair x)(ha:A.length<=1000){a1:Sl}:∀(O acc:KL) (a3:Sl),(∀x∈O,Pair x)->acc.length + O.length * A.length<=1000000 ->
  ∃b3,cP (aU 3) nM (O.map aj) [.fz (.tup (A.map aj)),a1,.ow (acc.map aj),a3]=.nx [.fz (.tup (A.map aj)),a1,.ow ((acc++oZ A O).map aj),b3]
 | [],acc,a3,_,_=>⟨a3,by simp[oZ,cP]⟩
 |t::O,acc,a3,hO,hl=>by
  have ht:=hO t (.head _);rw[cy,i9,i_]at hl;have c1:dw (aU 0) (fun _=>.ok true) yP 1 [3] (fL (aH 0) Xr) [.fz (.tup (A.map aj)),a1,.ow (acc.map aj),.fz (aj t)]=.ok (.lst ((A.map fun a=>ad a t).map aj)):=by rw[fg];exact uK (cs:=[.fz (aj t)]) rfl (v_l (aG rfl) rfl) (fun ks hk=>fM (aq (aG rfl) (aq (aG rfl) aO)) (bV rfl (qm _ _ (hA ks hk) ht))) ha
  have st:nM [.fz (.tup (A.map aj)),a1,.ow (acc.map aj),.fz (aj t)]=.nx [.fz (.tup (A.map aj)),a1,.ow ((acc++A.map fun a=>ad a t).map aj),.fz (aj t)]:=by unfold nM;exact amQ rfl c1 (by rw[cf];lia)
  obtain⟨b3,e⟩:=Ms hA ha (a1:=a1) O (acc++A.map fun a=>ad a t) (.fz (aj t)) (fun x hx=>hO x (.tail _ hx)) (by rw[dy,cf];lia);refine⟨b3,?_⟩;simp only[cn,cP,aU,i8,iA,st];rw[h_]at e;exact e
theorem Ig{A O:KL}(hA:∀x∈A,Pair x)(hO:∀x∈O,Pair x)(ha:A.length<=1000)(hl:O.length * A.length < 1000):jC [.tup (A.map aj),.tup (O.map aj)]=.ok (.tup ((rise (oZ A O)).map aj)):=by
 obtain⟨b3,e⟩:=Ms hA ha (a1:=.fz (.tup (O.map aj))) O [] .no hO (by simp only[fw];lia);rw[sk]at e;have rs:=Xm (bB:=oZ A O) (by rw[qX];exact hl) (fun x hx=>by obtain⟨a,_,t,_,rfl⟩:=vh.mp hx;exact DX _ _);have run:rY (bG ["one","other","sums","step"] [.tup (A.map aj),.tup (O.map aj)])=.rt (.tup ((rise (oZ A O)).map aj)):=by unfold rY;refine aZ (ρ1:=[.fz (.tup (A.map aj)),.fz (.tup (O.map aj)),.ow (([]:KL).map aj),.no]) rfl (aZ (nF (uh (aG rfl) e)) ?_);show fX _ (Ik 2 [.fz (.tup (A.map aj)),.fz (.tup (O.map aj)),.ow ((oZ A O).map aj),b3])=_;rw[show Ik 2 [.fz (.tup (A.map aj)),.fz (.tup (O.map aj)),.ow ((oZ A O).map aj),b3]=[.fz (.tup (A.map aj)),.fz (.tup (O.map aj)),.fz (.lst ((oZ A O).map aj)),b3] from rfl];exact jH (fM (aq (aG rfl) aO) (bV rfl rs))
 unfold jC;rw[run];rfl
theorem Ec{A O:KL}:(ZR A O).length<=A.length:=by unfold ZR;exact cz (sj _ _) (by rw[cf];exact bo _)
theorem ZS{A O:KL}(hA:fJ A):fJ (ZR A O):=(hA.apl _).filter _
theorem Ed{A O:KL}:∀x∈oZ A O,Pair x:=fun x hx=>by obtain⟨a,_,t,_,rfl⟩:=vh.mp hx;exact DX _ _
theorem Rz{A O:KL}(ne:O≠[]){p:List Int}:p∈ZR A O↔Pair p/\∀t∈O,ad p t∈A:=by
 cases O with
 |nil=>exact(ne rfl).elim
 |cons o O =>
  unfold ZR;rw[fN,c8,iS];constructor
  ·rintro⟨⟨x,hx,rfl⟩,h⟩;exact⟨vL _ _,fun t ht=>of_decide_eq_true (h t ht)⟩
  ·rintro⟨pp,h⟩;refine⟨⟨ad p o,h o dA,?_⟩,fun t ht=>decide_eq_true (h t ht)⟩;rw[oJ pp];show [c0 p + c0 o - c0 o,c1 p + c1 o - c1 o]=[c0 p,c1 p]
   rw[sx,sx]
def gr(A:KL)(b:Bool)(O:KL):KL:=if b then ZR A (RN O) else rise (oZ A O)
def ea(A:KL)(b:Bool)(O:KL):KL:=if b then rise (oZ A (RN O)) else ZR A O
theorem RB{O:KL}:(RN O).length<=O.length:=cz (qK _) (by rw[cf];exact bo _)
theorem abo{A O:KL}{b:Bool}(hA:fJ A)(ha:A.length<=900)(hO:Good O)(hl:b=false->O.length * A.length < 1000):pI [sh A b,.tup (O.map aj)]=.ok (sh (gr A b O) b):=by
 have lo:=hO.le;cases b with
 |false =>
  have e2:=Ig (A:=A) (O:=O) hA.pr hO.pr (by lia) (hl rfl);have run:vP (bG ["shape","piece"] [sh A false,.tup (O.map aj)])=.rt (sh (rise (oZ A O)) false):=by unfold vP;exact aZ (iV (vD (bM (aG rfl) cu rfl)) pX) (jH (fM (aq (fM (aq (bM (aG rfl) cu rfl) (aq (aG rfl) aO)) (bV rfl e2)) (aq cu aO)) (t2 _ _)))
  unfold pI;rw[run];rfl
 |true =>
  have gm:=Ib hO;have e2:=Xl (A:=A) (O:=RN O) hA ha gm.st (by have:=gm.le;lia) gm.ne;have run:vP (bG ["shape","piece"] [sh A true,.tup (O.map aj)])=.rt (sh (ZR A (RN O)) true):=by unfold vP;exact aer (rE (vD (bM (aG rfl) cu rfl)) (jH (fM (aq (fM (aq (bM (aG rfl) cu rfl) (aq (fM (aq (aG rfl) aO) (bV rfl (Ie hO))) aO)) (bV rfl e2)) (aq cu aO)) (t2 _ _))))
  unfold pI;rw[run];rfl
theorem abp{A O:KL}{b:Bool}(hA:fJ A)(ha:A.length<=900)(hO:Good O)(hl:b=true->O.length * A.length < 1000):pJ [sh A b,.tup (O.map aj)]=.ok (sh (ea A b O) b):=by
 have lo:=hO.le;cases b with
 |false =>
  have e1:=Xl hA ha hO.st (by lia) hO.ne;have run:vQ (bG ["shape","piece"] [sh A false,.tup (O.map aj)])=.rt (sh (ZR A O) false):=by unfold vQ;exact aZ (iV (vD (bM (aG rfl) cu rfl)) pX) (jH (fM (aq (fM (aq (bM (aG rfl) cu rfl) (aq (aG rfl) aO)) (bV rfl e1)) (aq cu aO)) (t2 _ _)))
  unfold pJ;rw[run];rfl
 |true =>
  have gm:=Ib hO;have e1:=Ig (A:=A) (O:=RN O) hA.pr gm.pr (by lia) (j0 (o7 _ RB) (hl rfl));have run:vQ (bG ["shape","piece"] [sh A true,.tup (O.map aj)])=.rt (sh (rise (oZ A (RN O))) true):=by unfold vQ;exact aer (rE (vD (bM (aG rfl) cu rfl)) (jH (fM (aq (fM (aq (bM (aG rfl) cu rfl) (aq (fM (aq (aG rfl) aO) (bV rfl (Ie hO))) aO)) (bV rfl e1)) (aq cu aO)) (t2 _ _))))
  unfold pJ;rw[run];rfl
theorem amR{A O:KL}{b:Bool}(hA:fJ A):fJ (gr A b O):=by
 cases b with
 |true=>exact ZS hA
 |false=>exact fJ.rise Ed
theorem amS{A O:KL}{b:Bool}(hA:fJ A):fJ (ea A b O):=by
 cases b with
 |false=>exact ZS hA
 |true=>exact fJ.rise Ed
def opO(A O:KL):KL:=rise (oZ (ZR A O) O)
def clO(A O:KL):KL:=ZR (rise (oZ A O)) O
def op(A:KL)(b:Bool)(O:KL):KL:=if b then clO A (RN O) else opO A O
def cl(A:KL)(b:Bool)(O:KL):KL:=if b then opO A (RN O) else clO A O
theorem aha{A O:KL}{b:Bool}:(ea A b O).length<=A.length∨b=true/\(ea A b O).length<=O.length * A.length:=by
 cases b with
 |false=>exact .inl Ec
 |true=>exact .inr ⟨rfl,cz (qK _) (by rw[qX];exact o7 _ RB)⟩
theorem ahb{A O:KL}{b:Bool}:(gr A b O).length<=A.length∨b=false/\(gr A b O).length<=O.length * A.length:=by
 cases b with
 |true=>exact .inl Ec
 |false=>exact .inr ⟨rfl,cz (qK _) (by rw[qX];exact bo _)⟩
theorem ahc{A O:KL}{b:Bool}(hA:fJ A)(ha:A.length<=900)(hO:Good O)(hl:O.length * A.length<=900):oU [sh A b,.tup (O.map aj)]=.ok (sh (op A b O) b):=by
 have e1:=abp (b:=b) hA ha hO fun _=>by lia
 have e2:=abo (A:=ea A b O) (b:=b) (amS hA) (by
  rcases aha (A:=A) (O:=O) (b:=b) with h|⟨_,h⟩ <;> lia) hO fun hb=>by
  rcases aha (A:=A) (O:=O) (b:=b) with h|⟨h,_⟩
  ·have:=Nat.mul_le_mul_left O.length h;lia
  ·rw[hb]at h;cases h
 have run:yR (bG ["shape","piece"] [sh A b,.tup (O.map aj)])=.rt (sh (gr (ea A b O) b O) b):=by unfold yR;exact jH (fM (aq (fM (aq (aG rfl) (aq (aG rfl) aO)) (bV rfl e1)) (aq (aG rfl) aO)) (bV rfl e2))
 unfold oU;rw[run];cases b <;> rfl
theorem ahd{A O:KL}{b:Bool}(hA:fJ A)(ha:A.length<=900)(hO:Good O)(hl:O.length * A.length<=900):oV [sh A b,.tup (O.map aj)]=.ok (sh (cl A b O) b):=by
 have e1:=abo (b:=b) hA ha hO fun _=>by lia
 have e2:=abp (A:=gr A b O) (b:=b) (amR hA) (by
  rcases ahb (A:=A) (O:=O) (b:=b) with h|⟨_,h⟩ <;> lia) hO fun hb=>by
  rcases ahb (A:=A) (O:=O) (b:=b) with h|⟨h,_⟩
  ·have:=Nat.mul_le_mul_left O.length h;lia
  ·rw[hb]at h;cases h
 have run:yS (bG ["shape","piece"] [sh A b,.tup (O.map aj)])=.rt (sh (ea (gr A b O) b O) b):=by unfold yS;exact jH (fM (aq (fM (aq (aG rfl) (aq (aG rfl) aO)) (bV rfl e1)) (aq (aG rfl) aO)) (bV rfl e2))
 unfold oV;rw[run];cases b <;> rfl
theorem RD{A O:KL}:fJ (opO A O):=fJ.rise Ed
theorem RG{A O:KL}:fJ (clO A O):=ZS (fJ.rise Ed)
theorem amT{A O:KL}{b:Bool}:fJ (op A b O):=by
 cases b with
 |true=>exact RG
 |false=>exact RD
theorem amU{A O:KL}{b:Bool}:fJ (cl A b O):=by
 cases b with
 |true=>exact RD
 |false=>exact RG
theorem ajD{A O:KL}(ne:O≠[]){x:List Int}:x∈opO A O↔∃p,(Pair p/\∀t∈O,ad p t∈A)/\∃t∈O,ad p t=x:=by
 unfold opO;rw[yK,vh];constructor
 ·rintro⟨p,hp,r⟩;exact⟨p,(Rz ne).mp hp,r⟩
 ·rintro⟨p,hp,r⟩;exact⟨p,(Rz ne).mpr hp,r⟩
end Vn
namespace Vn
open PySem PySem.Spec PySem.Calls PySem.W L2 Vl So
theorem Xn(i:Int):jf [.int i]=.ok (.bl true):=by kernel_rfl
theorem amV{L:KL}{j:Nat}{x:List Int}(h:L[j]?=some x):fH (.lst (L.map aj)) (.int j)=.ok (aj x):=aoq (aam (by rw[cw,h];rfl))
theorem Xo{L:KL}(hp:∀x∈L,Pair x)(hl:L.length<=100000):fW [.tup (L.map aj),.lst (L.map aj)]=.ok (.bl true):=by
 obtain⟨ρ',e1,a,rfl⟩:=yt (h:=aU 2) (g:=lE) (fun ρ=>∃a:Sl,ρ=[.fz (.tup (L.map aj)),.fz (.lst (L.map aj)),a])
  (ds:=(bE L.length).map fun(i:Nat)=>.int i) (ρ:=[.fz (.tup (L.map aj)),.fz (.lst (L.map aj)),.no]) ⟨_,rfl⟩ (by
   rintro d hd ρ ⟨a,rfl⟩;obtain⟨j,hj,rfl⟩:=c8.mp hd;have hj':=eJ.mp hj;have hx:L[j]?=some L[j]:=d_ hj';have px:=hp _ (eQ hj');generalize L[j]=x at hx px;obtain⟨r,c,rfl⟩:=px;refine⟨_,_,rfl,?_,.fz (.int j),rfl⟩;unfold lE;refine aZ (iV (zR (Ca (t:=true) (vD (v_b (bM (aG rfl) (aG rfl) (zF hx)) rfl))) (zR (vD (bM (fM (aq (bM (aG rfl) (aG rfl) (zF hx)) aO) (show vX [aj [r,c]]=.ok (.int 2) from rfl)) cu (by rw[aax];rfl))) (vD (bM (bM (aG rfl) (aG rfl) (zF hx)) (bM (aG rfl) (aG rfl) (amV hx)) (abN (by have:=Va [r,c];lia) rfl))))) pX) ?_;exact iV (zR (Ca (t:=true) (vD (fM (aq (bM (bM (aG rfl) (aG rfl) (zF hx)) cu rfl) aO) (bV rfl (Xn r))))) (Ca (t:=true) (vD (fM (aq (bM (bM (aG rfl) (aG rfl) (zF hx)) cu rfl) aO) (bV rfl (Xn c)))))) pX)
 have run:iM (bG ["found","due","k"] [.tup (L.map aj),.lst (L.map aj)])=.rt (.bl true):=by unfold iM;refine aZ (iV (zR (Ca (t:=true) (vD (v_b (aG rfl) rfl))) (vD (bM (fM (aq (aG rfl) aO) Gs) (fM (aq (aG rfl) aO) YL) (by rw[aax,decide_eq_true rfl];rfl)))) pX) ?_;refine aZ (nF (Yh (N:=L.length) (fM (aq (aG rfl) aO) YL) (by rw[cf];lia) (by rw[cf]) e1)) (jH cu)
 unfold fW;rw[run];rfl
theorem Ih{L:KL}{b:Bool}(hp:∀x∈L,Pair x)(hl:L.length<=100000):cC [sh L b,.tup [.lst (L.map aj),.bl b]]=.ok (.bl true):=by
 have bb:RM (.bl b) (.bl b)=.ok (.bl true):=by cases b <;> rfl
 have ib:gIs .bool (.bl b)=.ok (.bl true):=by cases b <;> rfl
 have run:jm (bG ["found","due"] [sh L b,.tup [.lst (L.map aj),.bl b]])=.rt (.bl true):=by unfold jm;refine aZ (iV (zR (Ca (t:=true) (vD (v_b (aG rfl) rfl))) (zR (vD (bM (fM (aq (aG rfl) aO) Gs) cu (by rw[aax];rfl))) (Ca (t:=true) (vD (v_b (bM (aG rfl) cu rfl) ib))))) pX) ?_;exact jH (amA (fM (aq (bM (aG rfl) cu rfl) (aq (bM (aG rfl) cu rfl) aO)) (bV rfl (Xo hp hl))) (bM (bM (aG rfl) cu rfl) (bM (aG rfl) cu rfl) bb))
 unfold cC;rw[run];rfl
theorem apD(x t:List Int)(px:Pair x):ad (mi x t) t=x:=by
 rw[oJ px];show [c0 x - c0 t + c0 t,c1 x - c1 t + c1 t]=[c0 x,c1 x]
 rw[Int.sub_add_cancel,Int.sub_add_cancel]
theorem ako(p t:List Int)(pp:Pair p):mi (ad p t) t=p:=by
 rw[oJ pp];show [c0 p + c0 t - c0 t,c1 p + c1 t - c1 t]=[c0 p,c1 p]
 rw[sx,sx]
theorem ahe{L:KL}{kvs:List (List Int×D)}{B:KL}{E:au->Rs D}{caps:List Nat}{fi:au->Rs (List D)}{ρ:au}(hE:E=bW (yN false) (aH 0) (aH 1))(hs:dZ 1 caps ρ=[.no,.fz (dN kvs)])(hi:fi ρ=.ok (L.map aj))(hB:∀k,k∈kvs.map (·.1)↔k∈B)(hl:L.length<=1000) :
  (fT (fA (ao (dw (aU 0) (fun _=>.ok true) E 1 caps fi) aR) Tq)) ρ=.ok (L.all fun k=>decide (k∈B)):=by
 subst hE;refine vD (fM (aq (uK (F:=fun k=>.bl (decide (k∈B))) hs hi (fun k _=>?_) hl) aO) (Ze L _));refine bM (aG rfl) (aG rfl) ?_;rw[ajk];simp only[hB]
theorem amW{A:KL}(hA:∀x∈A,Pair x)(ha:A.length<=1000){z1 z4 z5 z6 z7 z8 z9:Sl}:∃kvs a3,cP (aU 3) pO (A.map aj) [.fz (.tup (A.map aj)),z1,.od [],.no,z4,z5,z6,z7,z8,z9]=.nx [.fz (.tup (A.map aj)),z1,.od kvs,a3,z4,z5,z6,z7,z8,z9]/\Km kvs A.length fun k=>k∈A:=by
 obtain⟨ρ',e,kvs,a3,rfl,hk⟩:=qL (h:=aU 3) (g:=pO) aj
  (fun done ρ=>∃kvs a3,ρ=[.fz (.tup (A.map aj)),z1,.od kvs,a3,z4,z5,z6,z7,z8,z9]/\Km kvs done.length fun k=>k∈done)
  (L:=A) (ρ:=[.fz (.tup (A.map aj)),z1,.od [],.no,z4,z5,z6,z7,z8,z9]) ⟨_,_,rfl,Km.nil.mono (by simp) (by simp)⟩ (by
   rintro x done ρ hx hd ⟨kvs,a3,rfl,hk⟩;obtain⟨r,c,rfl⟩:=hA x hx;have:=hk.le;refine⟨_,_,rfl,?_,iw kvs [r,c] (.bl true),.fz (aj [r,c]),rfl,(hk.put r c (.bl true) fun k=>Iff.rfl).mono (by rw[dy,iO];exact bo _) fun k=>?_⟩
   ·unfold pO;exact Ci (ks:=[r,c]) cu rfl (aG rfl) (by lia)
   ·rw[du,dP,or_comm])
 exact⟨kvs,a3,e,hk⟩
theorem akp{A O:KL}(hA:fJ A)(hO:Good O)(hl:A.length * O.length < 1000)(ha:A.length<=900) :
  gA [.tup (A.map aj),.tup (O.map aj)]=.ok (.lst ((opO A O).map aj)):=by
 have lo:=hO.le;obtain⟨k1,a3,e1,h1⟩:=amW hA.pr (by lia) (z1:=.fz (.tup (O.map aj))) (z4:=.no) (z5:=.no) (z6:=.no) (z7:=.no) (z8:=.no) (z9:=.no)
 let cd:List Int->List Int->Bool:=fun x t=>(O.map (ad (mi x t))).all fun k=>decide (k∈A)
 obtain⟨ρ',e,kvs,a5,a6,a7,a8,a9,rfl,hk⟩:=qL (h:=ju 2 (bR (aU 5) (bR (aU 6) jY))) (g:=uO) aj
  (fun done ρ=>∃kvs a5 a6 a7 a8 a9,ρ=[.fz (.tup (A.map aj)),.fz (.tup (O.map aj)),.fz (dN k1),a3,.od kvs,a5,a6,a7,a8,a9]/\Km kvs (done.length * O.length) fun k=>k∈done/\∃t∈O,cd k t=true)
  (L:=A) (ρ:=[.fz (.tup (A.map aj)),.fz (.tup (O.map aj)),.fz (dN k1),a3,.od [],.no,.no,.no,.no,.no]) ⟨_,_,_,_,_,_,rfl,Km.nil.mono (by simp) (by simp)⟩ (by
   rintro x done ρ hx hd ⟨kvs,a5,a6,a7,a8,a9,rfl,hk⟩;obtain⟨r,c,rfl⟩:=hA.pr x hx;have hb:done.length * O.length + O.length<=1000:=by have:=o7 O.length (show done.length + 1<=A.length from hd);rw[i9,i_]at this;lia
   obtain⟨ρ2,e2,ZV,b7,b8,b9,rfl,hk2⟩:=qL (h:=ju 2 (bR (aU 7) (bR (aU 8) jY))) (g:=pP) aj
    (fun dn ρ=>∃ZV a7 a8 a9,ρ=[.fz (.tup (A.map aj)),.fz (.tup (O.map aj)),.fz (dN k1),a3,.od ZV,.fz (.int r),.fz (.int c),a7,a8,a9]/\Km ZV (done.length * O.length + dn.length) fun k=>(k=[r,c]/\∃t∈dn,cd k t=true)∨(k∈done/\∃t∈O,cd k t=true))
    (L:=O) (ρ:=[.fz (.tup (A.map aj)),.fz (.tup (O.map aj)),.fz (dN k1),a3,.od kvs,.fz (.int r),.fz (.int c),a7,a8,a9]) ⟨_,_,_,_,rfl,hk.mono (by simp) (by simp)⟩ (by
     rintro y dn ρ hy hdn ⟨ZV,a7,a8,a9,rfl,hk2⟩;obtain⟨u,v,rfl⟩:=hO.pr y hy;have l2:=hk2.le;have on:=agV hO.pr (by lia:O.length<=1000) (r - u) (c - v);have ct:=ahe (L:=O.map (ad [r - u,c - v])) (B:=A) (caps:=[2]) (E:=Cm) (fi:=fL (aH 9) asL) (ρ:=[.fz (.tup (A.map aj)),.fz (.tup (O.map aj)),.fz (dN k1),a3,.od ZV,.fz (.int r),.fz (.int c),.fz (.int u),.fz (.int v),.fz (.lst ((O.map (ad [r - u,c - v])).map aj))]) rfl rfl (v_l (aG rfl) rfl) h1.iff (by rw[cf];lia);have mm:∀k,((k=[r,c]/\∃t∈dn++[[u,v]],cd k t=true)∨(k∈done/\∃t∈O,cd k t=true))↔(k=[r,c]/\cd [r,c] [u,v]=true)∨((k=[r,c]/\∃t∈dn,cd k t=true)∨(k∈done/\∃t∈O,cd k t=true)):=fun k=>by
      constructor
      ·rintro(⟨rfl,t,ht,h⟩|h)
       ·rcases du.mp ht with ht|ht
        ·exact .inr (.inl ⟨rfl,t,ht,h⟩)
        ·rw[dP.mp ht]at h;exact .inl ⟨rfl,h⟩
       ·exact .inr (.inr h)
      ·rintro(⟨rfl,h⟩|⟨rfl,t,ht,h⟩|h)
       ·exact .inl ⟨rfl,_,eA _ (dP.mpr rfl),h⟩
       ·exact .inl ⟨rfl,t,j7 _ ht,h⟩
       ·exact .inr h
     cases h:cd [r,c] [u,v] with
     |true =>
      refine⟨_,[.fz (.tup (A.map aj)),.fz (.tup (O.map aj)),.fz (dN k1),a3,.od (iw ZV [r,c] (.bl true)),.fz (.int r),.fz (.int c),.fz (.int u),.fz (.int v),.fz (.lst ((O.map (ad [r - u,c - v])).map aj))],rfl,?_,_,_,_,_,rfl,(hk2.put r c (.bl true) fun k=>Iff.rfl).mono (by rw[dy,iO];lia) fun k=>?_⟩
      ·unfold pP;refine aZ (mQ (fM (aq (aG rfl) (aq (fM (aq (bM (aG rfl) (aG rfl) jd) (aq (bM (aG rfl) (aG rfl) jd) aO)) (t2 _ _)) aO)) (bV rfl on))) ?_;refine rE (ct.trans (congrArg Rs.ok h)) ?_;exact Ci (ks:=[r,c]) cu rfl (fM (aq (aG rfl) (aq (aG rfl) aO)) (t2 _ _)) (by lia)
      ·rw[mm,h];simp only[and_true]
     |false =>
      refine⟨_,[.fz (.tup (A.map aj)),.fz (.tup (O.map aj)),.fz (dN k1),a3,.od ZV,.fz (.int r),.fz (.int c),.fz (.int u),.fz (.int v),.fz (.lst ((O.map (ad [r - u,c - v])).map aj))],rfl,?_,_,_,_,_,rfl,hk2.mono (by rw[dy,iO];lia) fun k=>?_⟩
      ·unfold pP;refine aZ (mQ (fM (aq (aG rfl) (aq (fM (aq (bM (aG rfl) (aG rfl) jd) (aq (bM (aG rfl) (aG rfl) jd) aO)) (t2 _ _)) aO)) (bV rfl on))) ?_;exact iV (ct.trans (congrArg Rs.ok h)) pX
      ·rw[mm,h];simp only[br,and_false,false_or])
   refine⟨_,_,rfl,?_,ZV,.fz (.int r),.fz (.int c),b7,b8,b9,rfl,?_⟩
   ·unfold uO;exact uh (aG rfl) e2
   ·refine hk2.mono (by rw[dy,iO,i9,i_];exact bo _) fun k=>?_;rw[du,dP];constructor
    ·rintro⟨h|h,h2⟩
     ·exact .inr ⟨h,h2⟩
     ·exact .inl ⟨h,h2⟩
    ·rintro(⟨h,h2⟩|⟨h,h2⟩)
     ·exact⟨.inr h,h2⟩
     ·exact⟨.inl h,h2⟩)
 have lk:=hk.le;have eq:bZ (kvs.map (·.1))=opO A O:=by
  refine hk.asc.ext RD fun x=>?_;rw[jJ,hk.iff,ajD hO.ne];constructor
  ·rintro⟨hx,t,ht,h⟩;refine⟨mi x t,⟨vL _ _,fun u hu=>of_decide_eq_true (iS.mp h _ (k8 hu))⟩,t,ht,apD x t (hA.pr x hx)⟩
  ·rintro⟨p,⟨pp,h⟩,t,ht,rfl⟩;refine⟨h t ht,t,ht,iS.mpr fun k hk=>?_⟩;obtain⟨u,hu,rfl⟩:=c8.mp hk;rw[ako p t pp];exact decide_eq_true (h u hu)
 have run:sG (bG ["cells","piece","held","cell","told","row","column","further","beside","there"] [.tup (A.map aj),.tup (O.map aj)])=.rt (.lst ((opO A O).map aj)):=by unfold sG;refine aZ (ρ1:=[.fz (.tup (A.map aj)),.fz (.tup (O.map aj)),.od [],.no,.no,.no,.no,.no,.no,.no]) rfl (aZ (nF (uh (aG rfl) e1)) ?_);refine aZ (ρ1:=[.fz (.tup (A.map aj)),.fz (.tup (O.map aj)),.od k1,a3,.od [],.no,.no,.no,.no,.no]) rfl ?_;show bU _ _ [.fz (.tup (A.map aj)),.fz (.tup (O.map aj)),.fz (dN k1),a3,.od [],.no,.no,.no,.no,.no]=_;refine aZ (nF (uh (aG rfl) e)) ?_;rw[<- eq];exact jH (DW rfl (by lia) hk.gn.pr)
 unfold gA;rw[run];rfl
theorem apE{A O:KL}(hA:∀x∈A,Pair x)(hO:∀x∈O,Pair x)(hl:A.length * O.length<=1000){z7 z8:Sl} :
  ∃kvs a3 a4 a5 a6,cP (ju 2 (bR (aU 3) (bR (aU 4) jY))) lH (A.map aj) [.fz (.tup (A.map aj)),.fz (.tup (O.map aj)),.od [],.no,.no,.no,.no,z7,z8]=.nx [.fz (.tup (A.map aj)),.fz (.tup (O.map aj)),.od kvs,a3,a4,a5,a6,z7,z8]/\Km kvs (A.length * O.length) fun k=>∃a∈A,∃t∈O,ad a t=k:=by
 obtain⟨ρ',e,kvs,a3,a4,a5,a6,rfl,hk⟩:=qL (h:=ju 2 (bR (aU 3) (bR (aU 4) jY))) (g:=lH) aj
  (fun done ρ=>∃kvs a3 a4 a5 a6,ρ=[.fz (.tup (A.map aj)),.fz (.tup (O.map aj)),.od kvs,a3,a4,a5,a6,z7,z8]/\Km kvs (done.length * O.length) fun k=>∃a∈done,∃t∈O,ad a t=k)
  (L:=A) (ρ:=[.fz (.tup (A.map aj)),.fz (.tup (O.map aj)),.od [],.no,.no,.no,.no,z7,z8]) ⟨_,_,_,_,_,rfl,Km.nil.mono (by simp) (by simp)⟩ (by
   rintro x done ρ hx hd ⟨kvs,a3,a4,a5,a6,rfl,hk⟩;obtain⟨r,c,rfl⟩:=hA x hx;have hb:done.length * O.length + O.length<=1000:=by have:=o7 O.length (show done.length + 1<=A.length from hd);rw[i9,i_]at this;lia
   obtain⟨ρ2,e2,ZV,b5,b6,rfl,hk2⟩:=qL (h:=ju 2 (bR (aU 5) (bR (aU 6) jY))) (g:=oW) aj
    (fun dn ρ=>∃ZV a5 a6,ρ=[.fz (.tup (A.map aj)),.fz (.tup (O.map aj)),.od ZV,.fz (.int r),.fz (.int c),a5,a6,z7,z8]/\Km ZV (done.length * O.length + dn.length) fun k=>(∃t∈dn,ad [r,c] t=k)∨∃a∈done,∃t∈O,ad a t=k)
    (L:=O) (ρ:=[.fz (.tup (A.map aj)),.fz (.tup (O.map aj)),.od kvs,.fz (.int r),.fz (.int c),a5,a6,z7,z8]) ⟨_,_,_,rfl,hk.mono (by simp) (by simp)⟩ (by
     rintro y dn ρ hy hdn ⟨ZV,a5,a6,rfl,hk2⟩;obtain⟨u,v,rfl⟩:=hO y hy;have l2:=hk2.le;refine⟨_,[.fz (.tup (A.map aj)),.fz (.tup (O.map aj)),.od (iw ZV [r + u,c + v] (.bl true)),.fz (.int r),.fz (.int c),.fz (.int u),.fz (.int v),z7,z8],rfl,?_,_,_,_,rfl,(hk2.put (r + u) (c + v) (.bl true) fun k=>Iff.rfl).mono (by rw[dy,iO];lia) fun k=>?_⟩
     ·unfold oW;exact Ci (ks:=[r + u,c + v]) cu rfl (fM (aq (bM (aG rfl) (aG rfl) gk) (aq (bM (aG rfl) (aG rfl) gk) aO)) (t2 _ _)) (by lia)
     ·constructor
      ·rintro(⟨t,ht,h⟩|h)
       ·rcases du.mp ht with ht|ht
        ·exact .inr (.inl ⟨t,ht,h⟩)
        ·rw[dP.mp ht]at h;exact .inl h.symm
       ·exact .inr (.inr h)
      ·rintro(h|⟨t,ht,h⟩|h)
       ·exact .inl ⟨[u,v],eA _ (dP.mpr rfl),h.symm⟩
       ·exact .inl ⟨t,j7 _ ht,h⟩
       ·exact .inr h)
   refine⟨_,_,rfl,?_,ZV,.fz (.int r),.fz (.int c),b5,b6,rfl,?_⟩
   ·unfold lH;exact uh (aG rfl) e2
   ·refine hk2.mono (by rw[dy,iO,i9,i_];exact bo _) fun k=>?_;constructor
    ·rintro⟨a,ha,t,ht,h⟩;rcases du.mp ha with ha|ha
     ·exact .inr ⟨a,ha,t,ht,h⟩
     ·rw[dP.mp ha]at h;exact .inl ⟨t,ht,h⟩
    ·rintro(⟨t,ht,h⟩|⟨a,ha,t,ht,h⟩)
     ·exact⟨[r,c],eA _ (dP.mpr rfl),t,ht,h⟩
     ·exact⟨a,j7 _ ha,t,ht,h⟩)
 exact⟨kvs,a3,a4,a5,a6,e,hk⟩
theorem Xp{A O:KL}(hA:fJ A)(hO:Good O)(hl:A.length * O.length < 1000):dg [.tup (A.map aj),.tup (O.map aj)]=.ok (.lst ((clO A O).map aj)):=by
 have lo:=hO.le;obtain⟨o,O',eO⟩:∃o O',O=o::O':=by cases O with|nil=>exact(hO.ne rfl).elim|cons o O'=>exact⟨o,O',rfl⟩
 have ho:o∈O:=by rw[eO];exact .head _
 obtain⟨p,q,epq⟩:=hO.pr o ho;have ix0:fH (.tup (O.map aj)) (.int 0)=.ok (aj [p,q]):=by rw[<- epq];exact zF (j:=0) (by rw[eO];rfl)
 obtain⟨k1,a3,a4,a5,a6,e1,h1⟩:=apE hA.pr hO.pr (by lia) (z7:=.no) (z8:=.no);have l1:=h1.le
 let R:KL:=rise (oZ A O)
 have h1R:∀k,k∈k1.map (·.1)↔k∈R:=fun k=>by rw[h1.iff,yK,vh]
 let cd:List Int->Bool:=fun x=>(O.map (ad x)).all fun k=>decide (k∈R)
 obtain⟨ρ',e,kvs,b3,b4,b8,rfl,hk⟩:=qL (h:=ju 2 (bR (aU 3) (bR (aU 4) jY))) (g:=lJ) aj
  (fun done ρ=>∃kvs a3 a4 a8,ρ=[.fz (.tup (A.map aj)),.fz (.tup (O.map aj)),.fz (dN k1),a3,a4,a5,a6,.od kvs,a8]/\Km kvs done.length fun k=>∃y∈done,k=mi y o/\cd k=true)
  (L:=k1.map (·.1)) (ρ:=[.fz (.tup (A.map aj)),.fz (.tup (O.map aj)),.fz (dN k1),a3,a4,a5,a6,.od [],.no]) ⟨_,_,_,_,rfl,Km.nil.mono (by simp) (by simp)⟩ (by
   rintro x done ρ hx hd ⟨kvs,a3,a4,a8,rfl,hk⟩;obtain⟨r,c,rfl⟩:=h1.gn.pr x hx;have lk:=hk.le;have ld:(k1.map (·.1)).length=k1.length:=cf ..;have on:=agV hO.pr (by lia:O.length<=1000) (r - p) (c - q);have sp:mi [r,c] o=[r - p,c - q]:=by rw[epq];rfl
   have st:(kj 8 (fA (ao (bW Vl.iT (aH 3) (bW fH (bW fH (aH 1) (fC (.int 0))) (fC (.int 0)))) (ao (bW Vl.iT (aH 4) (bW fH (bW fH (aH 1) (fC (.int 0))) (fC (.int 1)))) aR)) dJ)) [.fz (.tup (A.map aj)),.fz (.tup (O.map aj)),.fz (dN k1),.fz (.int r),.fz (.int c),a5,a6,.od kvs,a8]=.nx [.fz (.tup (A.map aj)),.fz (.tup (O.map aj)),.fz (dN k1),.fz (.int r),.fz (.int c),a5,a6,.od kvs,.fz (aj [r - p,c - q])] :=
    mQ (fM (aq (bM (aG rfl) (bM (bM (aG rfl) cu ix0) cu rfl) jd) (aq (bM (aG rfl) (bM (bM (aG rfl) cu ix0) cu rfl) jd) aO)) (t2 _ _))
   have ct:=ahe (L:=O.map (ad [r - p,c - q])) (B:=R) (caps:=[2]) (E:=uP) (fi:=fL (fA (ao (aH 1) (ao (aH 8) aR)) (bC 2 gK)) asL) (ρ:=[.fz (.tup (A.map aj)),.fz (.tup (O.map aj)),.fz (dN k1),.fz (.int r),.fz (.int c),a5,a6,.od kvs,.fz (aj [r - p,c - q])]) rfl rfl (v_l (fM (aq (aG rfl) (aq (aG rfl) aO)) (bV rfl on)) rfl) h1R (by rw[cf];lia);have mm:∀k,(∃y∈done++[[r,c]],k=mi y o/\cd k=true)↔(k=[r - p,c - q]/\cd [r - p,c - q]=true)∨∃y∈done,k=mi y o/\cd k=true:=fun k=>by
    constructor
    ·rintro⟨y,hy,rfl,h⟩;rcases du.mp hy with hy|hy
     ·exact .inr ⟨y,hy,rfl,h⟩
     ·rw[dP.mp hy,sp]at h ⊢;exact .inl ⟨rfl,h⟩
    ·rintro(⟨rfl,h⟩|⟨y,hy,h⟩)
     ·exact⟨[r,c],eA _ (dP.mpr rfl),sp.symm,h⟩
     ·exact⟨y,j7 _ hy,h⟩
   cases h:cd [r - p,c - q] with
   |true =>
    refine⟨_,[.fz (.tup (A.map aj)),.fz (.tup (O.map aj)),.fz (dN k1),.fz (.int r),.fz (.int c),a5,a6,.od (iw kvs [r - p,c - q] (.bl true)),.fz (aj [r - p,c - q])],rfl,?_,_,_,_,_,rfl,(hk.put (r - p) (c - q) (.bl true) fun k=>Iff.rfl).mono (by rw[dy,iO];exact bo _) fun k=>?_⟩
    ·unfold lJ;exact aZ st (rE (ct.trans (congrArg Rs.ok h)) (Ci (ks:=[r - p,c - q]) cu rfl (aG rfl) (by lia)))
    ·rw[mm,h];simp only[and_true]
   |false =>
    refine⟨_,[.fz (.tup (A.map aj)),.fz (.tup (O.map aj)),.fz (dN k1),.fz (.int r),.fz (.int c),a5,a6,.od kvs,.fz (aj [r - p,c - q])],rfl,?_,_,_,_,_,rfl,hk.mono (by rw[dy,iO];lia) fun k=>?_⟩
    ·unfold lJ;exact aZ st (iV (ct.trans (congrArg Rs.ok h)) pX)
    ·rw[mm,h];simp only[br,and_false,false_or])
 have lk:=hk.le;have ld:(k1.map (·.1)).length=k1.length:=cf ..;have eq:bZ (kvs.map (·.1))=clO A O:=by
  refine hk.asc.ext RG fun x=>?_;rw[jJ,hk.iff,show x∈clO A O↔Pair x/\∀t∈O,ad x t∈R from Rz hO.ne];constructor
  ·rintro⟨y,hy,rfl,h⟩;exact⟨vL _ _,fun t ht=>of_decide_eq_true (iS.mp h _ (k8 ht))⟩
  ·rintro⟨px,h⟩;refine⟨ad x o,(h1R _).mpr (h o ho),(ako x o px).symm,iS.mpr fun k hk=>?_⟩;obtain⟨u,hu,rfl⟩:=c8.mp hk;exact decide_eq_true (h u hu)
 have run:mL (bG ["cells","piece","led","row","column","further","beside","told","spot"] [.tup (A.map aj),.tup (O.map aj)])=.rt (.lst ((clO A O).map aj)):=by unfold mL;refine aZ (ρ1:=[.fz (.tup (A.map aj)),.fz (.tup (O.map aj)),.od [],.no,.no,.no,.no,.no,.no]) rfl (aZ (nF (uh (aG rfl) e1)) ?_);refine aZ (ρ1:=[.fz (.tup (A.map aj)),.fz (.tup (O.map aj)),.od k1,a3,a4,a5,a6,.od [],.no]) rfl ?_;show bU _ _ [.fz (.tup (A.map aj)),.fz (.tup (O.map aj)),.fz (dN k1),a3,a4,a5,a6,.od [],.no]=_;refine aZ (nF (amB (v_l (aG rfl) ajl) e)) ?_;rw[<- eq];exact jH (DW rfl (by lia) hk.gn.pr)
 unfold dg;rw[run];rfl
theorem Ps.good{n:Nat}{L:KL}(h:Ps n L)(hn:n<=48):Good L:=by obtain⟨L0,e⟩:=h.ex;exact⟨.of h.pr h.nd (by rw[e];exact qD _),h.ne,cz h.le hn⟩
theorem arP(L:KL):zX none (some 4) (.tup (L.map aj))=.ok (.tup ((L.take 4).map aj)):=by
 have e:Cz (L.map aj) none (some 4)=(L.take 4).map aj:=by unfold Cz HT.nD;simp
 show Rs.ok (D.tup (Cz (L.map aj) none (some 4)))=_;rw[e]
theorem arQ(L:KL):zX none (some 5) (.tup (L.map aj))=.ok (.tup ((L.take 5).map aj)):=by
 have e:Cz (L.map aj) none (some 5)=(L.take 5).map aj:=by unfold Cz HT.nD;simp
 show Rs.ok (D.tup (Cz (L.map aj) none (some 5)))=_;rw[e]
theorem apF{fe:au->Rs D}{fl fh:au->Rs (Option Int)}{ρ:au}{x d:D}{l h:Option Int}(h1:fe ρ=.ok x)(h2:fl ρ=.ok l)(h3:fh ρ=.ok h)(h4:zX l h x=.ok d):afw fe fl fh ρ=.ok d:=by unfold afw;rw[h1];simp only[Cg];rw[h2];simp only[Cg];rw[h3];exact h4
theorem abq{L:KL}{n:Nat}(h:L≠[]):L.take (n + 1)≠[]:=by cases L with|nil=>exact absurd rfl h|cons a L=>simp
theorem amX{A O:KL}{b:Bool}(hA:fJ A)(ha:A.length<=45)(hO:Good O)(ho:O.length<=20){z0 z1 z2 a7 a8:Sl}:∃b7 b8,
  (bU (kj 7 (fA (ao (fA (ao (aH 5) (ao (aH 3) aR)) (bC 2 gA)) (ao (fA (ao (aH 5) (ao (aH 3) aR)) (bC 2 dg)) aR)) yc))
  (bU (zG (fT (aH 6)) (bU (kj 8 (fA (ao (fA (ao (dw (ju 2 (bR (aU 0) (bR (aU 1) jY))) (fun _=>.ok true) yX 2 [] (fL (aH 3) Xr)) aR) ux) aR) jt))
  (kj 7 (fA (ao (fA (ao (aH 5) (ao (aH 8) aR)) (bC 2 dg)) (ao (fA (ao (aH 5) (ao (aH 8) aR)) (bC 2 gA)) aR)) yc))) yr)
  (bU (zG (tW (fT (fA (ao (fA (ao (aH 4) (ao (aH 3) aR)) (bC 2 oU)) (ao (fA (ao (bW fH (aH 7) (fC (.int 0))) (ao (aH 6) aR)) dJ) aR)) (bC 2 cC)))) (fX (fC (.bl false))) yr)
  (zG (tW (fT (fA (ao (fA (ao (aH 4) (ao (aH 3) aR)) (bC 2 oV)) (ao (fA (ao (bW fH (aH 7) (fC (.int 1))) (ao (aH 6) aR)) dJ) aR)) (bC 2 cC)))) (fX (fC (.bl false))) yr))))
  [z0,z1,z2,.fz (.tup (O.map aj)),.fz (sh A b),.fz (.tup (A.map aj)),.fz (.bl b),a7,a8]=.nx [z0,z1,z2,.fz (.tup (O.map aj)),.fz (sh A b),.fz (.tup (A.map aj)),.fz (.bl b),b7,b8]:=by
 have hm:A.length * O.length<=45 * 20:=nE ha ho;have hm':O.length * A.length<=20 * 45:=nE ho ha;have eo:=ahc (b:=b) hA (by lia) hO (by lia);have ec:=ahd (b:=b) hA (by lia) hO (by lia);have gm:=Ib hO;have lm:=RB (O:=O);have h1:=akp hA hO (by lia) (by lia);have f1:=Xp hA hO (by lia);have lO:∀{P:KL},P.length<=20->(opO A P).length<=100000:=fun {P} hP=>cz (qK _) (by rw[qX];have:=nE hP (cz (Ec (A:=A) (O:=P)) ha);lia);have lC:∀{P:KL},P.length<=20->(clO A P).length<=100000:=fun {P} hP=>cz Ec (cz (qK _) (by rw[qX];have:=nE hP ha;lia));have l1:(op A b O).length<=100000:=by
  cases b with
  |true=>exact lC (by lia)
  |false=>exact lO ho
 have l2:(cl A b O).length<=100000:=by
  cases b with
  |true=>exact lO (by lia)
  |false=>exact lC ho
 have i1:=Ih (b:=b) (amT (A:=A) (b:=b) (O:=O)).pr l1;have i2:=Ih (b:=b) (amU (A:=A) (b:=b) (O:=O)).pr l2;have first:(kj 7 (fA (ao (fA (ao (aH 5) (ao (aH 3) aR)) (bC 2 gA)) (ao (fA (ao (aH 5) (ao (aH 3) aR)) (bC 2 dg)) aR)) yc)) [z0,z1,z2,.fz (.tup (O.map aj)),.fz (sh A b),.fz (.tup (A.map aj)),.fz (.bl b),a7,a8]=.nx [z0,z1,z2,.fz (.tup (O.map aj)),.fz (sh A b),.fz (.tup (A.map aj)),.fz (.bl b),.fz (.lst [.lst ((opO A O).map aj),.lst ((clO A O).map aj)]),a8] :=
  mQ (fM (aq (fM (aq (aG rfl) (aq (aG rfl) aO)) (bV rfl h1)) (aq (fM (aq (aG rfl) (aq (aG rfl) aO)) (bV rfl f1)) aO)) (BZ (by simp)))
 have last:∀{X Y:KL}{a8:Sl},op A b O=X->cl A b O=Y->(bU (zG (tW (fT (fA (ao (fA (ao (aH 4) (ao (aH 3) aR)) (bC 2 oU)) (ao (fA (ao (bW fH (aH 7) (fC (.int 0))) (ao (aH 6) aR)) dJ) aR)) (bC 2 cC)))) (fX (fC (.bl false))) yr)
  (zG (tW (fT (fA (ao (fA (ao (aH 4) (ao (aH 3) aR)) (bC 2 oV)) (ao (fA (ao (bW fH (aH 7) (fC (.int 1))) (ao (aH 6) aR)) dJ) aR)) (bC 2 cC)))) (fX (fC (.bl false))) yr)) [z0,z1,z2,.fz (.tup (O.map aj)),.fz (sh A b),.fz (.tup (A.map aj)),.fz (.bl b),.fz (.lst [.lst (X.map aj),.lst (Y.map aj)]),a8]=.nx [z0,z1,z2,.fz (.tup (O.map aj)),.fz (sh A b),.fz (.tup (A.map aj)),.fz (.bl b),.fz (.lst [.lst (X.map aj),.lst (Y.map aj)]),a8]:=fun {X Y a8} hX hY=>by
  subst hX;subst hY;exact aZ (iV (Ca (t:=true) (vD (fM (aq (fM (aq (aG rfl) (aq (aG rfl) aO)) (bV rfl eo)) (aq (fM (aq (bM (aG rfl) cu rfl) (aq (aG rfl) aO)) (t2 _ _)) aO)) (bV rfl i1)))) pX) (iV (Ca (t:=true) (vD (fM (aq (fM (aq (aG rfl) (aq (aG rfl) aO)) (bV rfl ec)) (aq (fM (aq (bM (aG rfl) cu rfl) (aq (aG rfl) aO)) (t2 _ _)) aO)) (bV rfl i2)))) pX)
 cases b with
 |false=>exact⟨_,_,aZ first (aZ (iV (vD (aG rfl)) pX) (last rfl rfl))⟩
 |true =>
  have hm2:A.length * (RN O).length<=45 * 20:=nE ha (by lia);have h2:=akp hA gm (by lia) (by lia);have f2:=Xp hA gm (by lia);have bk:(fA (ao (fA (ao (dw (ju 2 (bR (aU 0) (bR (aU 1) jY))) (fun _=>.ok true) yX 2 [] (fL (aH 3) Xr)) aR) ux) aR) jt) [z0,z1,z2,.fz (.tup (O.map aj)),.fz (sh A true),.fz (.tup (A.map aj)),.fz (.bl true),.fz (.lst [.lst ((opO A O).map aj),.lst ((clO A O).map aj)]),a8]=.ok (.tup ((RN O).map aj)):=by
   have cm:dw (ju 2 (bR (aU 0) (bR (aU 1) jY))) (fun _=>.ok true) yX 2 [] (fL (aH 3) Xr) [z0,z1,z2,.fz (.tup (O.map aj)),.fz (sh A true),.fz (.tup (A.map aj)),.fz (.bl true),.fz (.lst [.lst ((opO A O).map aj),.lst ((clO A O).map aj)]),a8]=.ok (.lst ((O.map ng).map aj)):=by rw[fg];refine acB (cs:=[]) rfl (v_l (aG rfl) rfl) hO.pr (fun x y _=>?_) (by lia);unfold yX;refine fM (aq (bM cu (aG rfl) jd) (aq (bM cu (aG rfl) jd) aO)) ?_;rw[Int.zero_sub,Int.zero_sub];exact t2 _ _
   have pn:∀ks∈O.map ng,Pair ks:=fun ks hk=>by obtain⟨t,_,rfl⟩:=c8.mp hk;exact⟨_,_,rfl⟩
   have nd:(O.map ng).Nodup:=by
    refine mf.map _ (fun a b h=>?_) (mf.and_mem.mp hO.st.nd);obtain⟨h1,h2,h3⟩:=h;intro e;refine h3 (Vk (hO.pr a h1) (hO.pr b h2) ?_ ?_)
    ·have:=congrArg c0 e;exact Int.neg_inj.mp this
    ·have:=congrArg c1 e;exact Int.neg_inj.mp this
   have eq:bZ (O.map ng)=RN O:=(fJ.sort pn nd).ext (fJ.rise pn) fun x=>by unfold RN;rw[jJ,yK]
   rw[<- eq];exact fM (aq (fM (aq cm aO) (aga (by rw[cf];lia) pn)) aO) Gu
  exact⟨_,_,aZ first (aZ (rE (vD (aG rfl)) (aZ (mQ bk) (mQ (fM (aq (fM (aq (aG rfl) (aq (aG rfl) aO)) (bV rfl f2)) (aq (fM (aq (aG rfl) (aq (aG rfl) aO)) (bV rfl h2)) aO)) (BZ (by simp)))))) (last rfl rfl))⟩
theorem ajE(c:Int)(S:Sl)(a2 a3 a4 a5 a6 a7 a8:Sl):∃b2 b3 b4 b5 b6 b7 b8:Sl,Eb [S,.fz (.int c),a2,a3,a4,a5,a6,a7,a8]=.nx [S,.fz (.int c),b2,b3,b4,b5,b6,b7,b8]:=by
 obtain⟨m0,e0⟩:=amI c;obtain⟨m1,O1,e1,p1⟩:=abl m0;have hs:∃(O:KL) (mm:Int),xIf (xT (pq RM (xM 2 1 aP (rO (ao (fC (.int 8)) aR))) (xP (fC (.int 0))))) (xq 3 (xA (dM (xA (dM (xP (afw (aH 3) abG (fP (fC (.int 5))))) (dM (afG (xM 2 0 gw (rO aR)) abG (fP (fC (.int 4)))) tQ)) (bC 2 jV)) tQ) jt)) yr
   [S,.fz (.int c),.ow [.int m1],.fz (.tup (O1.map aj)),a4,a5,a6,a7,a8]=.nx [S,.fz (.int c),.ow [.int mm],.fz (.tup (O.map aj)),a4,a5,a6,a7,a8]/\Good O/\O.length<=20:=by
  cases h:decide (m1 % 8=0) with
  |false=>exact⟨O1,m1 / 8,yL (ρ1:=[S,.fz (.int c),.ow [.int (m1 / 8)],.fz (.tup (O1.map aj)),a4,a5,a6,a7,a8]) (acs (fG (xn rfl rfl (aq cu aO) (by decide) (by decide)) (iy cu) (by rw[oF,h]))) pX,p1.good (by decide),cz p1.le (by decide)⟩
  |true =>
   obtain⟨m3,O2,e2,p2⟩:=abl (m1 / 8);have la:(O1.take 5).length<=5:=by rw[hZ];lia
   have lb:(O2.take 4).length<=4:=by rw[hZ];lia
   have hm:(O1.take 5).length * (O2.take 4).length<=5 * 4:=nE la lb;obtain⟨kvs,e4,g4,l4,m4⟩:=amL (L:=O1.take 5) (T:=O2.take 4) (fun k hk=>p1.pr k (mM hk)) (fun k hk=>p2.pr k (mM hk)) (by lia);have as4:fJ (So.bZ (kvs.map (·.1))):=fJ.sort g4.pr g4.nd;refine⟨So.bZ (kvs.map (·.1)),m3,?_,⟨as4,fun z=>?_,by rw[nZ,cf];lia⟩,by rw[nZ,cf];lia⟩
   ·refine Oq (ρ1:=[S,.fz (.int c),.ow [.int (m1 / 8)],.fz (.tup (O1.map aj)),a4,a5,a6,a7,a8]) (acs (fG (xn rfl rfl (aq cu aO) (by decide) (by decide)) (iy cu) (by rw[oF,h]))) ?_;exact nH (Oo (dD (Oo (dD (iy (apF (aG rfl) rfl rfl (arQ O1))) (dD (aml (YQ rfl rfl (Vb aO) rfl rfl rfl e2) rfl rfl (arP O2)) oH)) (bV rfl e4)) oH) Gu) rfl
   ·obtain⟨s,hs⟩:=List.exists_mem_of_ne_nil _ (abq (n:=4) p1.ne);obtain⟨t,ht⟩:=List.exists_mem_of_ne_nil _ (abq (n:=3) p2.ne);have:ad s t∈So.bZ (kvs.map (·.1)):=jJ.mpr ((m4 _).mpr ⟨s,hs,t,ht,rfl⟩);rw[z]at this;cases this
 obtain⟨O,mm,es,gO,lO⟩:=hs;obtain⟨lx,ly,m2,e2⟩:=amK mm;obtain⟨A,b,m3,e3,cA⟩:=ajz (O:=O) (N:=40) gO.pr gO.le (by decide) (by lia) (by decide) m2 lx ly;obtain⟨b7,b8,e4⟩:=amX (b:=b) (.of cA.pr cA.nd cA.pw) cA.le gO lO (z0:=S) (z1:=.fz (.int c)) (z2:=.ow [.int m3]) (a7:=a7) (a8:=a8);refine⟨.ow [.int m3],.fz (.tup (O.map aj)),.fz (sh A b),.fz (.tup (A.map aj)),.fz (.bl b),b7,b8,?_⟩;unfold Eb;refine aZ (ρ1:=[S,.fz (.int c),.ow [.int m0],a3,a4,a5,a6,a7,a8]) (afJ (aq (aG rfl) aO) rfl e0) ?_;refine aZ (ρ1:=[S,.fz (.int c),.ow [.int m1],.fz (.tup (O1.map aj)),a4,a5,a6,a7,a8]) (nH (YQ rfl rfl (Vb aO) rfl rfl rfl e1) rfl) ?_;refine aZ es ?_;refine aZ (ρ1:=[S,.fz (.int c),.ow [.int m3],.fz (.tup (O.map aj)),.fz (sh A b),a5,a6,a7,a8]) (nH (YQ (i:=2) (z0:=.ow [.int mm]) (z1:=.ow [.int m2]) rfl rfl (dD (iy (aG rfl)) (dD (YQ rfl rfl (Vb aO) rfl rfl rfl e2) oH)) rfl rfl rfl e3) rfl) ?_;refine aZ (ρ1:=[S,.fz (.int c),.ow [.int m3],.fz (.tup (O.map aj)),.fz (sh A b),.fz (.tup (A.map aj)),.fz (.bl b),a7,a8]) (aom (aG rfl) rfl) ?_;exact e4
theorem ahf(ns:List Int)(hn:ns.length<=63):abj [.lst (ns.map D.int)]=.ok (.bl true):=by
 have e:bG ["script","cell","left","piece","shape","cells","rest","due","back"] [.lst (ns.map D.int)]=[.fz (.lst (ns.map D.int)),.no,.no,.no,.no,.no,.no,.no,.no]:=rfl;obtain⟨ρ',e1,_⟩:=yt (h:=aU 1) (g:=Eb) (fun ρ=>∃a1 a2 a3 a4 a5 a6 a7 a8:Sl,ρ=[.fz (.lst (ns.map D.int)),a1,a2,a3,a4,a5,a6,a7,a8]) (ds:=[.int 0]++ns.map D.int) (ρ:=[.fz (.lst (ns.map D.int)),.no,.no,.no,.no,.no,.no,.no,.no]) ⟨_,_,_,_,_,_,_,_,rfl⟩ (by
  rintro d hd ρ ⟨a1,a2,a3,a4,a5,a6,a7,a8,rfl⟩;have:∃x,d=.int x:=by
   rcases du.mp hd with h|h
   ·exact⟨0,dP.mp h⟩
   ·obtain⟨x,_,rfl⟩:=c8.mp h;exact⟨x,rfl⟩
  obtain⟨x,rfl⟩:=this;obtain⟨b2,b3,b4,b5,b6,b7,b8,e⟩:=ajE x (.fz (.lst (ns.map D.int))) a2 a3 a4 a5 a6 a7 a8;exact⟨_,_,rfl,e,_,_,_,_,_,_,_,_,rfl⟩)
 have run:abh [.fz (.lst (ns.map D.int)),.no,.no,.no,.no,.no,.no,.no,.no]=.rt (.bl true):=by unfold abh;exact aZ (nF (Yi (bM (fM (aq cu aO) (BZ (by simp))) (aG rfl) (abM (by rw[cf];simp only[cy,fw];lia))) e1)) (jH cu)
 unfold abj;rw[e,run];rfl
end Vn
open PySem PySem.W PyProof.Rows
namespace PySem.W.Fast
def tw12613449816511949367:=0
def tw12632598490330477760:=0
def tw12783583565440573288:=0
def tw1619340670185759474:=0
def tw6477561855732152150:=0
def tw3639371061040559739:=0
def tw7957779340902165617:=0
def tw17268067134102978038:=0
def tw10086339157817659621:=0
def tw12897033540261348317:=0
def tw7240849337519952281:=0
def tw3851098402331851195:=0
def tw2996735070671880407:=0
def tw15347268039787010028:=0
def tw4378186152575795233:=0
def tw14717533463342086454:=0
def tw573793877074628571:=0
def tw14622415755134349291:=0
def tw5674755144295001127:=0
def tw12619022455874744036:=0
def tw10500484416953388008:=0
def tw16204588403655300698:=0
def tw3726947625085016501:=0
def tw16705686115119160574:=0
def tw9736981010572258392:=0
def tw14227999983573679035:=0
def tw9415945088409820482:=0
def tw2134741308652182938:=0
def tw12039297549755471530:=0
def tw4090049716914429575:=0
def tw6282429152242396113:=0
def tw2793003695012348345:=0
def tw10169785150913029798:=0
def tw3691380116883642330:=0
def tw922021261598398028:=0
def tw4545001154105103754:=0
def tw16865079629570086307:=0
def tw4557930594681710980:=0
def tw6847639634449053988:=0
def tw7652752601877758277:=0
end PySem.W.Fast
theorem PySem.Challenge.cw_edgemoss_k16_opened_and_closed_holds : PySem.Challenge.rw_edgemoss_k16_opened_and_closed.Holds := by
 w_on;o_law;k_head;(case hw=>w_witness2)
 k_fill
 refine Vl.aje (l:=PySem.Challenge.rw_edgemoss_k16_opened_and_closed) (k:=7) (v:=Vn.abj) (ts:=[(80,"common_stride.<locals>.<lambda>")]) rfl rfl ⟨rfl,by decide,by decide⟩ (fun w h Y=>PySem.W.km_in_of Y) ?aT (by decide) ?aL ?aN ?aC ?aV ?aF
 case aT=>exact fun w h Y y hy=>by rw[dP.mp hy];exact PySem.W.km_tabs_of Y _ (dP.mpr rfl)
 case aL=>exact fun w=>by kernel_rfl
 case aN=>exact fun w y hy=>by rw[dP.mp hy];kernel_rfl
 case aV=>exact Vn.ahf
 case aF =>
  intro w mg fa h KX G hmg;refine' Vn.all_mk (qR:=80) KX G hmg ?_ ?_ ?_ ?_ ?_ ?_ ?_ ?_ ?_ ?_ ?_ ?_ ?_ ?_ ?_ ?_ ?_ ?_ ?_ ?_ ?_ ?_ ?_ ?_ ?_ ?_ ?_ ?_ ?_ ?_ ?_ ?_ ?_ ?_ ?_ ?_ ?_ ?_ ?_ ?_ ?_ ?_ ?_ ?_ ?_ ?_ ?_ ?_ ?_ ?_ ?_ ?_ ?_ ?_ ?_ ?_ ?_ ?_ ?_ ?_ ?_ ?_ ?_ ?_ ?_ ?_ ?_ ?_ ?_ ?_ ?_ ?_ ?_ ?_ ?_ ?_ ?_ ?_ ?_ ?_ ?_ ?_ ?_ ?_ ?_ ?_ ?_ ?_ ?_ ?_ ?_ ?_ ?_ ?_ ?_ ?_ ?_ ?_ ?_ ?_ ?_ ?_ ?_ ?_ ?_ ?_ ?_ ?_ ?_ ?_ ?_ ?_ ?_ ?_ ?_ ?_ ?_ ?_ ?_ ?_ ?_ ?_ ?_ ?_ ?_ ?_
  all_goals try first|k_is|kernel_rfl
 case aC =>
  intro w y hy;rw[dP.mp hy];refine' Vl.apn (x:="common_stride") (st:=Vn.cQ) ?a ?b ?e
  (case a=>k_is)
  (case b=>k_is)
  (case e=>kernel_rfl)
