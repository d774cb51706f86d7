import PyProof.Rows.All
import Wide.All
import OpenK.AllK
import PySem.Challenge.RW_edgemoss_k41_words_and_counts
open PySem renaming Value->aa,Addr->ae,Shared->af,Expr->ag,wpAny_bind->ah,model->ar,Heap->aw,World->ay,wpAny->az,Program->aE,Stmt->aS,Around->aT,eval->a7,starEach->a8,wpAny_pure->a9,Spec->ba,mainGlobals->bb,SetTable->bP,cLine->b9,intKind->cw,rawInt->cy,FuncData->cz,backTo->cE,Builtin->cS,IsTupleKey->de,swapsWith->dC,IsPair->d_,NameKind->et,numAt->eC,wpAny_mono->eK,holding->eL,wpAny_field->eM,sizeLine_eq->e_,codeAny->fg,IsZip->fq,assignEach->fx,pyNext->fy,binaryOp->fE,bootBuiltins->gi,wpAny_holding->gm,backToKw->gy,keywordEach->gz,wpAny_seqItems->gS,argBest->g_,Keyword->hV,wpAny_rule->ij,foldedSetIterable->ir,compareOp->iA,attributeBase->iX,BindsTo->i0,codeAny_mono->i4,mem_of_lookup->i5,wpAny_newObj_type->i8,SetTable->i9,codeAny_builtin->ja,wpAny_call_entry->jb,standAt->jS,bindL->j0,bindC->j3,callerA->j6,wpAny_setField->j_,wpAny_setState_of->ki,plainId_quiet->ko,GenState->kB,Walks->kD,CmpOp->kF,behindInMarks->kG,wpAny_call->kH,wpAny_Call_Name_kw->kK,JoinOk->k8,wpAny_truthy_bool->ll,pyIter->lr,PassesOwn->ls,noteFrame->l6,isSubtype_type->mw,argsOk->mx,wpAny_callSpecial?_slot->my,wpAny_updateSeq->mB,Draws->mN,wpAny_letGo->mP,swapsWithSole->m8,swappedStores->m9,wpAny_passesOwn->m_,DictEntry->nc,getMethod->ng,wpAny_askSetting->nV,wpAny_attempt->n6,seqItems?->oj,wpAny_setField_rec->om,wpAny_pyIter_zip->oo,intItems->oq,wpAny_tryCatch->oz,Str->oC,Within->oI,letOwnedTupleGo->oS,wpAny_pyIter_list->o3,wpAny_pyIter_tuple->o6,concat_meets->ph,carriedByValue->qo,ofAClassStatement->qq,setSearchFrom->qr,hashByValue->qv,wpAny_of_eq->qA,firstArgMember->qB,Fin->qS,updateSeq->qV,numAt_eq->se,wpAny_execs_nil->sF,noFill_tuple_add->tm,seq_tuple_add->tq,seqIndex_of->tN,wpAny_throw->uv,wpAny_typeOf->vc,wpAny_forIn_list->ve,wpAny_runValue->vk,pickOrder->vn,typeLookup_type->vu,builtinLookup_eq_fast->vv,wpAny_setEntries_of->vx,wpAny_isInstance->vy,Builtin->vz,wpAny_onRaise->v_,nums_intItems->wa,intItems_at->wb
open PySem.W renaming Frag->ai,kitOne->bg,nsIn->bz,findIn->b6,Frag->c9,keepIn->du,isFn->eQ,mg_none_of->fv,findIn->gp,fnOf->gx,mg_of->ip,emptyDict->iE,keepIn->iF,instObj->iP,nsIn->j8,fnOf->kv,hideAll->kA,OpenLaw->lT,kia_one->l8,kia_tup->l9,instObj->mS,codeIn->nz,methodObj->oP,lookIn->o8,plainGet->o9,emptyDict->sg,hideAll_get->si,of_hideAll->sq,hideAll_none->sC,hasDictIn->sM,plainGet_of->sN,isFn->sP,takerIn->sQ,makesIn->sR,callWith_K->tf,callWith_K0->wc
open PyProof.Rows renaming Keyed->ax,arrOf->aI,wpS_bind->a6,SortSt->a_,wpS_pure->bo,pendingOf->bS,elem'->c_,wpS_mono->eA,seqObj->eB,wpS_forRange->eP,SortKind->eS,failedOf->eT,wpS_get->gT,mirror->ik,wpS_modify->iO,AllBare->iS,envOfC->j4,IsTup->kz,IntsAre->kM,envOfC->kP,wpS_lift->kX,setPending->mE,reverseSlice'->n9,minRun'->oi,callWith_type1->o7,boot_isinstance->uA,listUpdate_at->vT,get?_update_seq->v5,seqEpoch_at->v7
open Nat renaming le_refl->bj,le_trans->ck,ne_of_lt->cq,lt_of_lt_of_le->dn,pow_succ->dS,zero_le->eD,lt_irrefl->eJ,le_of_lt->hG,two_pow_pos->iq,mod_eq_of_lt->iL,zero_add->jn,lt_of_le_of_lt->j7,ne_of_gt->kC,le_add_right->kS,mod_lt->l_,add_zero->md,lt_succ_of_lt->nI,lt_trans->nK,add_assoc->og,le_of_eq->o_,lt_succ_self->pd,mul_assoc->pV,add_mul_mod_self_left->p7,mod_eq_sub_mod->p8,lt_or_ge->q_,le_succ->td,le_max_right->t9,min_self->t_,add_mod->u0,mul_mod->u1,succ_ne_self->vt,reducePow->wo,reduceAdd->wq
open List renaming mem_cons->bq,length_cons->bu,lookup->bX,range->b7,length_map->b_,size_toArray->cv,length_append->cx,map_cons->c6,length_nil->c7,getElem?_set_ne->c8,getElem?_map->df,getElem?_eq_getElem->di,not_mem_nil->dm,getElem?_eq_some_iff->dq,getElem?_set_self->dt,mem_append->dA,mem_singleton->dE,mem_map->dQ,mem_cons_of_mem->el,mem_cons_self->eR,mem_range->eW,append_nil->fh,getElem_mem->fF,lookup_cons->fI,mem_append_right->f7,getElem?_append_left->f9,getElem?_append_right->gu,getD_eq_getElem?_getD->gE,pairwise_append->gN,replicate->hW,append_assoc->h_,Perm->iN,drop_eq_getElem_cons->i6,map_map->i_,Nodup->jv,mem_filterMap->jI,getElem?_replicate->j5,foldl_cons->j9,pairwise_cons->ke,perm_append_comm->kg,toArray->ku,length_take->kL,pairwise_iff_getElem->kR,ext_getElem->kT,mem_iff_getElem?->k7,nodup_cons->lI,getElem?_take_of_lt->lL,range_succ_eq_map->l4,drop_eq_nil_of_le->l5,mem_iff_getElem->me,take_append_drop->mh,set_cons_succ->mI,length_range->mM,filterMap_cons->m6,length->nh,take_sublist->nv,length_replicate->ny,filterMap_cons_some->nL,getD->nX,length_eq_zero_iff->n4,getElem?_drop->oa,zip_cons_cons->oy,set_cons_zero->oB,mem_append_left->oQ,mem_of_getElem?->pf,map_nil->pj,all_cons->pk,drop_length->pT,take_of_length_le->qc,mem_of_mem_take->qf,map_append->qh,getElem?_take_eq_none->rf,mem_reverse->rj,length_drop->rn,filter_cons->rL,mem_filter->sj,of_mem_zip->tj,length_singleton->tP,forIn_cons->ue,forIn_nil->uk,any_cons->uB,all_eq_true->uC,map_take->u4,map_drop->u5,drop_sublist->u6,map_filterMap->u7,filterMap_cons_none->u_,map_congr_left->vi,isEmpty_nil->vw,zipIdx_cons->vF,length_pos_iff->wm,Pairwise->wt
open Ne renaming symm->br
open PySem.Heap renaming lt_size->bE,get?_push_of_some->cm,get?_push_size->cK,SameBut->dP,get?_update_other->f_,size_push->gr,get?_update_self->hZ,NotedW->ui,get?_update_ne->v8
open Bool renaming false_eq_true->b8,and_eq_true->fN,not_true->fS,and_false->lS,and_true->pS,not_false->qs,false_ne_true->sL,or_eq_true->uS
open Option.some renaming inj->dk
open False renaming elim->dy
open Int renaming le_trans->eI,le_refl->gd,le_of_lt->gf,emod_nonneg->gL,emod_lt_of_pos->ic,toNat_natCast->kQ,toNat->mT,not_lt->n_
open PySem.Obj renaming mapSeq->fm,mapFields->i7,data_mapFields->kN,isFreed_of_fields->nE
open Array renaming length_toList->fw,getElem?_eq_some_iff->fR,size_push->g9,getD->ie,toList_append->ka,getD_eq_getD_getElem?->kf,getElem?_toList->kU,size_append->k6,toList_inj->p9,toList_push->p_,replicate->qk,getElem?_eq_getElem->qE,perm_iff_toList_perm->q8,size_extract->q9,getElem?_setIfInBounds_ne->uj
open PySem.Str renaming ofString->f6
open List.Pairwise renaming sublist->kc
open PySem.Around renaming under_plainId->km,under->sT
open PySem.F renaming called_set->kq,plain_max_loop->k_,plainAttrs_list->rS,slot_tuple_iterator_next->rX,slot_zip_next->r_,slot_tuple_add->tx,entry_tuple_add->tz,args_tuple_add_2->tJ,entry_max_loop->we
open PySem.PassesOwn renaming never->ky
open PySem.Builtin.SmallTypes renaming nextOf->k9,ownedTupleIsFree->r8
open PySem.Value renaming isInt_shape->lh
open PySem.SeqAt renaming EqAt->lj
open PySem.Heap.SameBut renaming update->ml
open PySem.Builtin.Frozenset renaming updateFrom->mv
open PySem.Builtin.List renaming listTooLong->nB
open Option renaming map_some->nN,getD_some->nS,map_eq_some_iff->qi
open List.Perm renaming append_left->n5,of_eq->n8,append_right->vE
open Function renaming comp_def->pM
open PyProof.Rows.SortSt renaming mk'->rh
open PySem.Txt renaming join->rV
open PySem.Draws renaming list->sf
open PySem.Code renaming isFrame->s_
open Prod.mk renaming injEq->u2
open PyProof.Rows.F renaming plain_set_update_loop->vj
open PySem.pickOrder renaming go->vl
open Classical renaming choose->vS
set_option Elab.async false
set_option linter.all false
set_option maxRecDepth 100000
set_option maxHeartbeats 0
noncomputable abbrev LL:=List (List Int)
noncomputable abbrev wk(x:oC):Prop:=(x == (oC.ofString "__debug__"))=false
noncomputable abbrev Qc(x:oC):Prop:=(x == (oC.ofString "__classdict__"))=false
namespace L2
open PySem PySem.Spec PyProof.Rows
noncomputable abbrev PL:=Sum Int Str
noncomputable def agP:PL->aa->Bool
 | .inl k,v=>aa.isInt k v
 | .inr x,v=>aa.isStrOf x v
noncomputable def amW(w:ay):PL->Int
 | .inl k=>hashInt k
 | .inr x=>hashStr w x
theorem iQ:∀{k:PL}{v:aa},agP k v=true->(∃i t,k=Sum.inl i/\v=aa.int i t)∨(∃x t,k=Sum.inr x/\v=aa.str x t)
 | .inl i,v,h=>by obtain⟨t,e⟩:=lh (k:=i) (v:=v) h;exact .inl ⟨i,t,rfl,e⟩
 | .inr x,v,h=>by obtain⟨t,e⟩:=aa.isStrOf_shape (x:=x) (v:=v) h;exact .inr ⟨x,t,rfl,e⟩
theorem ahJ(a b:Int):decide ((Sum.inl a:PL)=Sum.inl b)=(a == b):=by
 by_cases e:a=b
 ·subst e;simp
 ·have h:¬(Sum.inl a:PL)=Sum.inl b:=fun q=>e (Sum.inl.inj q);rw[decide_eq_false h];exact(beq_eq_false_iff_ne.mpr e).symm
theorem ahK(a b:Str):decide ((Sum.inr a:PL)=Sum.inr b)=decide (a=b):=by
 by_cases e:a=b
 ·subst e;simp
 ·have h:¬(Sum.inr a:PL)=Sum.inr b:=fun q=>e (Sum.inr.inj q);rw[decide_eq_false h,decide_eq_false e]
theorem ahL(a:Int)(b:Str):decide ((Sum.inl a:PL)=Sum.inr b)=false:=decide_eq_false (fun q=>nomatch q)
theorem ahM(a:Str)(b:Int):decide ((Sum.inr a:PL)=Sum.inl b)=false:=decide_eq_false (fun q=>nomatch q)
noncomputable def Wa(prog:aE)(w:ay):PySem.KeyKind prog w PL where
  is:=agP
  hash:=amW w
  inj:=fun v a b ha hb=>by
    rcases iQ ha with ⟨i,t,rfl,rfl⟩|⟨x,t,rfl,rfl⟩
    . rcases iQ hb with ⟨j,u,rfl,e⟩|⟨y,u,rfl,e⟩
      . injection e with e1 _;rw[e1]
      . exact nomatch e
    . rcases iQ hb with ⟨j,u,rfl,e⟩|⟨y,u,rfl,e⟩
      . exact nomatch e
      . injection e with e1 _;rw[e1]
  byValue := fun k v h => by rcases iQ h with ⟨i,t,rfl,rfl⟩|⟨x,t,rfl,rfl⟩ <;> rfl
  pyHash:=fun hv h=>by
    rcases iQ hv with ⟨i,t,rfl,rfl⟩|⟨x,t,rfl,rfl⟩
    . exact wpAny_pyHash_int h
    . exact wpAny_pyHash_str h
  eqBool:=fun hu hv h=>by
    rcases iQ hu with ⟨i,t,rfl,rfl⟩|⟨x,t,rfl,rfl⟩
    . rcases iQ hv with ⟨j,u,rfl,rfl⟩|⟨y,u,rfl,rfl⟩
      . rw[ahJ]at h;exact wpAny_eqBool_int h
      . rw[ahL]at h;exact lj.int_str i t y u _ _ _ _ h
    . rcases iQ hv with ⟨j,u,rfl,rfl⟩|⟨y,u,rfl,rfl⟩
      . rw[ahM]at h;exact lj.str_int x t j u _ _ _ _ h
      . rw[ahK]at h;exact wpAny_eqBool_str h
  «strs»:=fun k x t v h=>by
    rcases iQ h with ⟨i,u,rfl,e⟩|⟨y,u,rfl,e⟩
    . exact nomatch e
    . injection e with e1 _
      subst e1;cases v <;> rfl
inductive V where
 |non|bl (b:Bool)|int (i:Int)|str (x:Str)|byt (b:Array UInt8)|flt (b:UInt64)|ref (a:ae)|ty (n:String)
 deriving DecidableEq
noncomputable def RelV:V->aa->Prop
 | .non,u=>u=aa.none
 | .bl b,u=>u=aa.bool b
 | .int i,u=>∃t,u=aa.int i t
 | .str x,u=>∃t,u=aa.str x t
 | .byt b,u=>∃t,u=aa.bytes b t
 | .flt b,u=>∃t,u=aa.float b t
 | .ref a,u=>u=aa.ref a
 | .ty n,u=>u=aa.type n
noncomputable abbrev Vals:List V->List aa->Prop:=Paired RelV
theorem Vals.length{xs:List V}{us:List aa}(r:Vals xs us):xs.length=us.length:=Paired.length r
theorem Vals.get:∀{xs:List V}{us:List aa}{i:Nat}{x:V},Vals xs us->xs[i]?=some x->∃u,us[i]?=some u/\RelV x u
 |_,_,_,_,.nil,e=>by simp at e
 |_,_,0,_,.cons r _,e=>by simp at e;subst e;exact⟨_,rfl,r⟩
 |_,_,i + 1,x,.cons _ t,e=>by obtain⟨u,h1,h2⟩:=Vals.get (i:=i) (x:=x) t (by simpa using e);exact⟨u,by simpa using h1,h2⟩
theorem Vals.set{x:V}{u:aa}(r:RelV x u):∀{xs:List V}{us:List aa}(i:Nat),Vals xs us->Vals (xs.set i x) (us.set i u)
 |_,_,_,.nil=>.nil
 |_,_,0,.cons _ t=>.cons r t
 |_,_,i + 1,.cons q t=>.cons q (Vals.set r i t)
theorem Vals.append:∀{xs ys:List V}{us ws:List aa},Vals xs us->Vals ys ws->Vals (xs++ys) (us++ws)
 |_,_,_,_,.nil,s=>s
 |_,_,_,_,.cons r t,s=>.cons r (Vals.append t s)
theorem Vals.none_of:∀{xs:List V}{us:List aa}{i:Nat},Vals xs us->xs[i]?=none->us[i]?=none:=fun {xs us i} r e=>by have h1:=r.length;have h2:xs.length<=i:=List.getElem?_eq_none_iff.mp e;exact List.getElem?_eq_none_iff.mpr (by lia)
noncomputable def Ii:Option V->Option aa->Prop
 |some v,some u=>RelV v u
 |none,none=>True
 |_,_=>False
noncomputable def KV{κ:Type}:List (κ×V)->List (κ×aa)->Prop:=Paired fun(p:κ×V) (q:κ×aa)=>p.1=q.1/\RelV p.2 q.2
noncomputable def kV:PL->V
 | .inl i=>.int i
 | .inr x=>.str x
inductive HO where
 /-- a list -/
 |lst (xs:List V)
 /-- a tuple (never changes) -/
 |tup (xs:List V)
 /-- a dict whose keys are ints and texts;one whose keys are tuples of ints and texts (the empty one is both) -/
 |dK (kvs:List (PL×V))|dT (kvs:List (List PL×V))
 /-- a set of ints: its members,its size -/
 |set (S:Int->Bool) (n:Nat)
 /-- an instance of the class at C,its dict at dx,its attributes -/
 |ins (C dx:ae) (fs:List (Str×V))
 /-- the dict of the instance at x -/
 |own (x:ae)
 /-- the dict of an exception -/
 |xd (fs:List (Str×V))
 /-- a bound method,f of x -/
 |met (f x:ae)
 /-- a range object lo,lo + 1,.. below hi -/
 |rng (lo hi:Int)
 /-- a thing that is known to the object (the script;a dict while a loop walks it): read,never written while it is so -/
 |Jw (o:Obj) (u:HO)
 /-- a code object's table -/
 |tbl (ps:Array aa)
 |tab (q:Str)|cod (q:Str)
 /-- any other thing,by what is true of its one object (a def of one's own: Yn a S n:=HO.ext fun h=>..) -/
 |ext (φ:aw->Prop)
noncomputable abbrev Hp:=ae->Option HO
noncomputable def upd(H:Hp)(a:ae)(o:HO):Hp:=fun b=>if b=a then some o else H b
theorem aV{H:Hp}{a:ae}{o:HO}:upd H a o a=some o:=by unfold upd;rw[if_pos rfl]
theorem aQ{H:Hp}{a b:ae}{o:HO}(h:b≠a):upd H a o b=H b:=by unfold upd;rw[if_neg h]
theorem Wb{H:Hp}{a:ae}{o u:HO}:upd (upd H a o) a u=upd H a u:=by funext b;unfold upd;split <;> rfl
theorem aR{H:Hp}{a b:ae}{o:HO}(h:H a=some o)(h':H b=none):a≠b:=by intro e;subst e;rw[h]at h';cases h'
section
variable(P:aE)(w:ay)
noncomputable def mV(H:Hp)(h:aw)(a:ae):HO->Prop
 | .lst xs=>xs.length<=sizeLine/\∃(its:List aa) (n:Nat),Vals xs its/\h.get? a=some { cls:=.type "list",data:=.seq its.toArray n }
 | .tup xs=>xs.length<=sizeLine/\∃its:List aa,Vals xs its/\kz h a its.toArray
 | .dK kvs=>kvs.length<=sizeLine/\(a == sysModules)=false/\∃vs,KV kvs vs/\h.DictOf (Wa P w) a vs
 | .dT kvs=>kvs.length<=sizeLine/\(a == sysModules)=false/\∃xs:List (List PL×ae×aa),
   Paired (fun(p:List PL×V) (q:List PL×ae×aa)=>p.1=q.1/\H q.2.1=some (.tup (p.1.map kV))/\RelV p.2 q.2.2) kvs xs /\
   ∃o es ep,h.get? a=some o/\o.ExactDict/\o.data=.dict es ep/\es.toList=xs.map (entryOfKey (tupleKind (Wa P w)))/\(xs.map (·.1)).Nodup
 | .set S n=>h.SetOf (cw P w) a S n
 | .ins C dx fs=>H dx=some (.own a)/\fs.length<=1000/\dx≠a/\h.get? a=some (iP C dx) /\
   ∃mA,h.Ns1 dx mA/\(∀f,Ii (fs.lookup f) (mA f))/\oI mA (fs.map (·.1))
 | .own _=>∃o,h.get? a=some o
 | .xd fs=>∃mA,h.Ns1 a mA/\∀f,Ii (fs.lookup f) (mA f)
 | .rng lo hi=>∃t u v,h.get? a=some { cls:=.type "range",data:=.fields #[.int lo t,.int hi u,.int 1 v] }
 | .Jw o u=>h.get? a=some o/\mV H h a u
 | .tbl ps=>h.get? a=some { cls:=.none,data:=.fields ps }
 | .tab q=>∃ps:Array aa,h.get? a=some { cls:=.none,data:=.fields ps }/\TriplesOk ps.toList/\∀pos v,codeAmong pos ps.toList=some v->∃c,v=.ref c/\H c=some (.cod q)
 | .cod q=>∃o vs t,h.get? a=some o/\o.data=.fields vs/\vs[1]?=some (.str q t)
 | .met f x=>h.get? a=some (oP (.ref f) (.ref x))
 | .ext φ=>φ h/\(∃o,h.get? a=some o)/\∀h1 h2:aw,φ h1->(∀o,h1.get? a=some o->h2.get? a=some o)->φ h2
noncomputable def Cj(H:Hp)(h:aw):Prop:=∀a o,H a=some o->mV P w H h a o
end
section
variable{P:aE}{w:ay}{H H':Hp}{h h':aw}{a:ae}{o:HO}
theorem mV.lt(x:mV P w H h a o):a < h.objs.size:=by
 cases o with
 |lst xs=>obtain⟨_,_,_,_,e⟩:=x;exact bE e
 |tup xs=>obtain⟨_,_,_,p⟩:=x;exact p.lt
 |dK kvs=>obtain⟨_,_,_,_,o,_,_,e,_⟩:=x;exact bE e
 |dT kvs=>obtain⟨_,_,_,_,o,_,_,e,_⟩:=x;exact bE e
 |set S n=>obtain⟨o,_,_,_,e,_⟩:=x;exact bE e
 |ins C dx fs=>obtain⟨_,_,_,e,_⟩:=x;exact bE e
 |own y=>obtain⟨_,e⟩:=x;exact bE e
 |xd fs=>obtain⟨_,⟨_,_,_,e,_⟩,_⟩:=x;exact bE e
 |rng lo hi=>obtain⟨_,_,_,e⟩:=x;exact bE e
 |Jw ob u=>obtain⟨e,_⟩:=x;exact bE e
 |tbl ps=>exact bE (show h.get? a=some _ from x)
 |tab q=>obtain⟨_,e,_⟩:=x;exact bE e
 |cod q=>obtain⟨_,_,_,e,_⟩:=x;exact bE e
 |met f y=>exact bE (show h.get? a=some _ from x)
 |ext φ=>obtain⟨_,⟨_,e⟩,_⟩:=x;exact bE e
theorem Paired.akC{α β:Type}{F G:α->β->Prop}:∀{l₁:List α}{l₂:List β},Paired F l₁ l₂->(∀a b,F a b->G a b)->Paired G l₁ l₂
 |_,_,.nil,_=>.nil
 |_,_,.cons r t,f=>.cons (f _ _ r) (Paired.akC t f)
theorem mV.stay(x:mV P w H h a o)(k:∀b u,(b=a∨H b=some (.own a))->h.get? b=some u->h'.get? b=some u)
  (ho:∀b,H b=some (.own a)->H' b=some (.own a)) (ht:∀b xs,H b=some (.tup xs)->H' b=some (.tup xs)) (amX:∀b q,H b=some (.cod q)->H' b=some (.cod q)):mV P w H' h' a o:=by
 induction o with
 |lst xs=>obtain⟨z,its,n,r,e⟩:=x;exact⟨z,its,n,r,k _ _ (.inl rfl) e⟩
 |tup xs=>obtain⟨z,its,r,ob,e,c⟩:=x;exact⟨z,its,r,ob,k _ _ (.inl rfl) e,c⟩
 |dK kvs=>obtain⟨z,y,vs,r,ob,es,ep,e,c⟩:=x;exact⟨z,y,vs,r,ob,es,ep,k _ _ (.inl rfl) e,c⟩
 |dT kvs =>
  obtain⟨z,y,xs,r,ob,es,ep,e,c⟩:=x;exact⟨z,y,xs,Paired.akC r fun p q z=>⟨z.1,ht _ _ z.2.1,z.2.2⟩,ob,es,ep,k _ _ (.inl rfl) e,c⟩
 |set S n=>obtain⟨ob,es,ep,t,e,c⟩:=x;exact⟨ob,es,ep,t,k _ _ (.inl rfl) e,c⟩
 |ins C dx fs =>
  obtain⟨d,z,ne,e,mA,⟨od,es,ep,e2,c⟩,r⟩:=x;exact⟨ho _ d,z,ne,k _ _ (.inl rfl) e,mA,⟨od,es,ep,k _ _ (.inr d) e2,c⟩,r⟩
 |own y=>obtain⟨ob,e⟩:=x;exact⟨ob,k _ _ (.inl rfl) e⟩
 |xd fs=>obtain⟨mA,⟨od,es,ep,e,c⟩,r⟩:=x;exact⟨mA,⟨od,es,ep,k _ _ (.inl rfl) e,c⟩,r⟩
 |rng lo hi=>obtain⟨t,u,v,e⟩:=x;exact⟨t,u,v,k _ _ (.inl rfl) e⟩
 |Jw ob u ih=>obtain⟨e,q⟩:=x;exact⟨k _ _ (.inl rfl) e,ih q⟩
 |tbl ps =>
  have e:h.get? a=some { cls:=.none,data:=.fields ps }:=x;show h'.get? a=some { cls:=.none,data:=.fields ps };exact k a _ (.inl rfl) e
 |tab q =>
  obtain⟨ps,e,t,c⟩:=x;exact⟨ps,k _ _ (.inl rfl) e,t,fun pos v z=>let ⟨c',e1,e2⟩:=c pos v z;⟨c',e1,amX _ _ e2⟩⟩
 |cod q=>obtain⟨o,vs,t,e,r⟩:=x;exact⟨o,vs,t,k _ _ (.inl rfl) e,r⟩
 |met f y =>
  have e:h.get? a=some (oP (.ref f) (.ref y)):=x;show h'.get? a=some (oP (.ref f) (.ref y));exact k a _ (.inl rfl) e
 |ext φ=>obtain⟨p,⟨o,e⟩,st⟩:=x;exact⟨st _ _ p fun o q=>k _ _ (.inl rfl) q,⟨o,k _ _ (.inl rfl) e⟩,st⟩
theorem Cj.lt(x:Cj P w H h)(e:H a=some o):a < h.objs.size:=(x a o e).lt
theorem Cj.fresh(x:Cj P w H h)(e:h.objs.size<=a):H a=none:=by
 cases q:H a with
 |none=>rfl
 |some u=>exact absurd (dn (x.lt q) e) (eJ _)
theorem Cj.kept(x:Cj P w H h)(k:∀b u,h.get? b=some u->h'.get? b=some u):Cj P w H h':=fun a o e =>
 (x a o e).stay (fun b u _ q=>k b u q) (fun _ q=>q) (fun _ _ q=>q) fun _ _ q=>q
theorem Cj.laid(x:Cj P w H h)(k:∀b u,h.get? b=some u->h'.get? b=some u)(hp:h.objs.size<=a)(new:mV P w (upd H a o) h' a o):Cj P w (upd H a o) h':=fun b u e=>by
 have hn:=x.fresh hp;by_cases hb:b=a
 ·subst hb;rw[aV]at e;cases e;exact new
 ·rw[aQ hb]at e;exact(x b u e).stay (fun c v _ q=>k c v q) (fun c q=>by rw[aQ (aR q hn)];exact q) (fun c xs q=>by rw[aQ (aR q hn)];exact q) fun c xs q=>by rw[aQ (aR q hn)];exact q
end
noncomputable def Rd(H:Hp)(a:ae)(u:HO):Prop:=H a=some u∨∃o,H a=some (.Jw o u)
theorem Rd.of{H:Hp}{a:ae}{u:HO}(h:H a=some u):Rd H a u:=.inl h
theorem Rd.ok{P:aE}{w:ay}{H:Hp}{h:aw}{a:ae}{u:HO}(r:Rd H a u)(x:Cj P w H h):mV P w H h a u:=by
 rcases r with r|⟨o,r⟩
 ·exact x a u r
 ·obtain⟨_,q⟩:=x a _ r;exact q
noncomputable def Mut:Option HO->Prop
 |some (.lst _)=>True
 |some (.dK _)=>True
 |some (.dT _)=>True
 |some (.set _ _)=>True
 |some (.ins _ _ _)=>True
 |some (.ext _)=>True
 |some (.tab _)=>True
 |_=>False
section
variable{P:aE}{w:ay}{H:Hp}{h h':aw}{x e:ae}{o':HO}
theorem Cj.write(ok:Cj P w H h)(mu:Mut (H x))(he:e=x∨H e=some (.own x))(k:∀b u,b≠e->h.get? b=some u->h'.get? b=some u)(heo:∃u,h'.get? e=some u)
  (new:mV P w (upd H x o') h' x o'):Cj P w (upd H x o') h':=fun b u q=>by
 have akD:∀c y,H c=some (.own y)->c≠x:=fun c y r z=>by subst z;rw[r]at mu;exact mu
 have amY:∀c xs,H c=some (.tup xs)->c≠x:=fun c xs r z=>by subst z;rw[r]at mu;exact mu
 have amZ:∀c q,H c=some (.cod q)->c≠x:=fun c q r z=>by subst z;rw[r]at mu;exact mu
 by_cases hb:b=x
 ·subst hb;rw[aV]at q;cases q;exact new
 ·rw[aQ hb]at q;by_cases hbe:b=e
  ·have q':H b=some (.own x):=by
    rcases he with z|z
    ·exact absurd (hbe.trans z) hb
    ·rw[hbe];exact z
   rw[q]at q';cases q';obtain⟨v,hv⟩:=heo;exact⟨v,by rw[hbe];exact hv⟩
  ·refine(ok b u q).stay (fun c v hc r=>k c v ?_ r) (fun c r=>by rw[aQ (akD c b r)];exact r) (fun c xs r=>by rw[aQ (amY c xs r)];exact r) fun c q r=>by rw[aQ (amZ c q r)];exact r
   rcases hc with rfl|hc
   ·exact hbe
   ·rintro rfl;rcases he with z|z
    ·exact akD c b hc z
    ·rw[hc]at z;cases z;exact hb rfl
end
structure Un (fs ex:List ae)(H H':Hp)(h h':aw):Prop where
 keep:∀b o,h.get? b=some o->H b=none->b∉fs->b∉ex->h'.get? b=some o
 slot:∀b o,h.get? b=some o->H b=none->b∈fs->b∉ex->∃sl,h'.get? b=some { o with slots:=sl }
 free:∀b o,h.get? b=some o->H b=none->b∉ex->H' b=none
 there:∀b o,h.get? b=some o->b∉ex->∃o',h'.get? b=some o'
 tups:∀b xs,H b=some (.tup xs)->H' b=some (.tup xs)
 Fq:∀b o u,H b=some (.Jw o u)->H' b=some (.Jw o u)
 Ij:∀b ps,H b=some (.tbl ps)->∃more,H' b=some (.tbl (ps++more))
section
variable{fs fs' ex ex':List ae}{H H1 H2:Hp}{h h1 h2 h':aw}{a x e:ae}{o:HO}
theorem Un.any(u:Un fs ex H H1 h h1){b:ae}{ob:Obj}(q:h.get? b=some ob)(n:H b=none)(hx:b∉ex):∃sl,h1.get? b=some { ob with slots:=sl }:=by
 by_cases hb:b∈fs
 ·exact u.slot b ob q n hb hx
 ·exact⟨ob.slots,u.keep b ob q n hb hx⟩
theorem Un.kept(k:∀b u,h.get? b=some u->h'.get? b=some u):Un fs ex H H h h' :=
 ⟨fun b ob q _ _ _=>k b ob q,fun b ob q _ _ _=>⟨ob.slots,k b ob q⟩,fun _ _ _ n _=>n,fun b ob q _=>⟨ob,k b ob q⟩,fun _ _ q=>q,fun _ _ _ q=>q,fun _ ps q=>⟨#[],by rw[q];simp⟩⟩
theorem Un.refl:Un fs ex H H h h:=Un.kept fun _ _ q=>q
theorem Un.laid(k:∀b u,h.get? b=some u->h'.get? b=some u)(hp:h.objs.size<=a)(hn:H a=none):Un fs ex H (upd H a o) h h' where
 keep:=fun b u q _ _ _=>k b u q
 slot:=fun b u q _ _ _=>⟨u.slots,k b u q⟩
 free:=fun b u q n _=>by rw[aQ (cq (dn (bE q) hp))];exact n
 there:=fun b u q _=>⟨u,k b u q⟩
 tups:=fun b xs q=>by rw[aQ (aR q hn)];exact q
 Fq:=fun b u xs q=>by rw[aQ (aR q hn)];exact q
 Ij:=fun b ps q=>⟨#[],by rw[aQ (aR q hn),q];simp⟩
theorem Un.write(mu:Mut (H x))(he:e=x∨H e=some (.own x))(k:∀b u,b≠e->h.get? b=some u->h'.get? b=some u)(heo:∃u,h'.get? e=some u):Un fs ex H (upd H x o) h h':=by
 have hx:∀b,H b=none->b≠x:=fun b n z=>by subst z;rw[n]at mu;exact mu
 have hb:∀b,H b=none->b≠e:=fun b n z=>by
  subst z;rcases he with r|r
  ·exact hx b n r
  ·rw[n]at r;cases r
 have hm:∀b u,H b=some u->¬Mut (some u)->b≠x:=fun b u q nm z=>by subst z;rw[q]at mu;exact nm mu
 refine⟨fun b u q n _ _=>k b u (hb b n) q,fun b u q n _ _=>⟨u.slots,k b u (hb b n) q⟩,fun b u q n _=>by rw[aQ (hx b n)];exact n,fun b u q _=>?_,
  fun b xs q=>by rw[aQ (hm b _ q fun z=>z)];exact q,fun b u xs q=>by rw[aQ (hm b _ q fun z=>z)];exact q,fun b ps q=>⟨#[],by rw[aQ (hm b _ q fun z=>z),q];simp⟩⟩
 by_cases hbe:b=e
 ·subst hbe;exact heo
 ·exact⟨u,k b u hbe q⟩
end
noncomputable def trk(h:aw)(H:Hp):List ae:=(b7 h.objs.size).filter fun a=>(H a).isSome
noncomputable def KN(h:aw)(H:Hp):aw:=kA h (trk h H)
theorem Yo(h:aw)(H:Hp):(KN h H).objs.size=h.objs.size:=PySem.W.hideAll_size _ _
theorem aaW{h:aw}{H:Hp}{b:ae}{o:Obj}(e:h.get? b=some o)(n:H b=none):(KN h H).get? b=some o :=
 si _ e fun hm=>by have q:(H b).isSome=true:=(sj.mp hm).2;rw[n]at q;simp at q
theorem aev{h:aw}{H:Hp}{b:ae}{o:Obj}(e:(KN h H).get? b=some o):h.get? b=some o/\H b=none:=by
 have e':h.get? b=some o:=sq (trk h H) e;refine⟨e',?_⟩;cases q:H b with
 |none=>rfl
 |some x =>
  have hm:b∈trk h H:=sj.mpr ⟨eW.mpr (bE e'),by simp[q]⟩;have z:(KN h H).get? b=none:=sC (trk h H) hm;rw[z]at e;cases e
noncomputable def Wc(g h:aw)(L:ae):List (ae×Obj):=(b7 h.objs.size).filterMap fun a=>if a=L∨(g.get? a).isSome=true then none else (h.get? a).map fun o=>(a,o)
theorem Qd{g h:aw}{L a:ae}{o:Obj}(h1:a≠L)(h2:g.get? a=none)(h3:h.get? a=some o):(a,o)∈Wc g h L :=
 jI.mpr ⟨a,eW.mpr (bE h3),by simp[h1,h2,h3]⟩
noncomputable def rest(g h:aw)(L d:ae):List (ae×Obj):=(Wc g h L).filter fun p=>decide (p.1≠d)
theorem Ft{g h:aw}{L d a:ae}{o:Obj}(h1:a≠L)(h2:g.get? a=none)(h3:h.get? a=some o)(h4:a≠d):(a,o)∈rest g h L d :=
 sj.mpr ⟨Qd h1 h2 h3,decide_eq_true h4⟩
structure Mod (K:ai)(mg:Str->Option aa)(base:aw):Prop where
 Yp:K.In base
 glob:base.Ns bb mg
 blt:∃mb,base.Ns builtinsNs mb/\∀x:Str,x≠"__name__"->mb x=gi x
 nolimit:base.NoLimit
 bm:∃bm ob,mg "__builtins__"=some (.ref bm)/\bm≠builtinsNs/\base.get? bm=some ob/\ob.cls=.type "module"/\ob.dict=some builtinsNs/\ob.data=.plain
structure Cx where
 prog:aE
 w:ay
 K:ai
 mg:Str->Option aa
 base:aw
 A:aT
 N:List Str
 s₀:af
 H₀:Hp
 env:Env
 outer:List Env
 stack:List Env
 ex:List ae
 fn:Str->Bool
 calm:Bool
 pn:List (ae×Obj)
 xe:aa->af->Prop
noncomputable def Al(l:List Env):List ae:=l.filterMap (·.frame)
noncomputable abbrev Cx.fs(X:Cx):List ae:=Al X.outer
noncomputable def Ik(sc:Scope)(x:Str):Prop:=sc.names.lookup x=some .local∨sc.names.lookup x=some .cell∨sc.names.lookup x=some .free
noncomputable def Loc(sc:Scope)(x:Str):Prop:=sc.names.lookup x=some .local∨sc.names.lookup x=some .cell
noncomputable def ana(env:Env)(h:aw)(m:Str->Option aa)(x:Str)(u:aa):Prop :=
 (env.kindOf x=some .local/\m x=some u)∨((env.kindOf x=some .cell∨env.kindOf x=some .free)/\∃c,env.cells.lookup x=some c/\h.IsCell c (some u))
structure Cx.Ok (X:Cx):Prop where
 mod:Mod X.K X.mg X.base
 kind:X.env.scope.kind=.function
 glob:X.env.globals=bb
 blt:X.env.builtins=builtinsNs
 above:X.s₀.heap.objs.size<=X.env.locals
 inj:∀x y c,X.env.cells.lookup x=some c->X.env.cells.lookup y=some c->x=y
 has:∀x,(X.env.kindOf x=some .cell∨X.env.kindOf x=some .free)->∃c,X.env.cells.lookup x=some c
 cab:∀x c,X.fn x=true->X.env.cells.lookup x=some c->X.s₀.heap.objs.size<=c
 hd:X.calm=true->X.A.handled=none
 frames:X.A.frames=some X.stack
 stk:X.stack=X.outer∨(X.stack=X.env::X.outer/\X.env.frame=some X.env.locals)
 exf:∀b∈X.ex,b≠X.env.locals/\∀x c,X.env.cells.lookup x=some c->c≠b
 bs:∀b o,X.base.get? b=some o->X.s₀.heap.get? b=some o/\X.H₀ b=none
 bsz:X.base.objs.size<=X.s₀.heap.objs.size
 Qe:∀b o,X.base.get? b=some o->b∉X.ex
 aex:∀b∈X.ex,b∉X.fs
 DR:X.s₀.heap.FunFrames X.base X.outer
 frf:∀b∈X.fs,X.H₀ b=none
structure Inv (X:Cx)(pins:List (ae×Obj))(σ:List (Option V))(H:Hp)(s:af):Prop where
 ok:X.Ok
 os:s.os=X.s₀.os
 bare:iS s.gens
 base:Un X.fs X.ex X.H₀ H X.s₀.heap s.heap
 loc:∃m,s.heap.Ns X.env.locals m/\∀(i:Nat) (x:Str) (v:V),X.N[i]?=some x->σ[i]?=some (some v)->Ik X.env.scope x->∃u,RelV v u/\ana X.env s.heap m x u
 cell:∀x c,X.env.cells.lookup x=some c->∃v,s.heap.IsCell c v
 free:H X.env.locals=none
 xr:∀x c,X.env.cells.lookup x=some c->H c=none
 pin:∀p∈X.pn++pins,s.heap.get? p.1=some p.2/\H p.1=none/\p.1≠X.env.locals/\p.1∉X.fs/\∀v,p.2.data≠.cell v
 hok:Cj X.prog X.w H s.heap
 len:σ.length=X.N.length
section
variable{X:Cx}{pins:List (ae×Obj)}{σ:List (Option V)}{H H':Hp}{s:af}{h':aw}
theorem Cx.Ok.ahO(ok:X.Ok){b:ae}{o:Obj}(e:X.base.get? b=some o):b∉X.fs:=fun hb=>by have:=(ok.DR.mem hb).1;rw[e]at this;cases this
theorem Inv.bs(I:Inv X pins σ H s):∀b o,X.base.get? b=some o->s.heap.get? b=some o/\H b=none:=fun b o e =>
 ⟨I.base.keep b o (I.ok.bs b o e).1 (I.ok.bs b o e).2 (I.ok.ahO e) (I.ok.Qe b o e),I.base.free b o (I.ok.bs b o e).1 (I.ok.bs b o e).2 (I.ok.Qe b o e)⟩
theorem Inv.bk(I:Inv X pins σ H s):∀b o,X.base.get? b=some o->s.heap.get? b=some o:=fun b o e=>(I.bs b o e).1
theorem Inv.mod(I:Inv X pins σ H s):Mod X.K X.mg X.base:=I.ok.mod
theorem Inv.xu(I:Inv X pins σ H s):X.K.In s.heap:=I.ok.mod.Yp.keeps I.bk
theorem Inv.lt(I:Inv X pins σ H s):X.env.locals < s.heap.objs.size:=let ⟨_,hn,_⟩:=I.loc;hn.lt
theorem Inv.sz(I:Inv X pins σ H s):X.s₀.heap.objs.size<=s.heap.objs.size:=ck I.ok.above (hG I.lt)
theorem Inv.anb(I:Inv X pins σ H s){a:ae}(h:s.heap.objs.size<=a):a∉X.fs:=fun hb=>by obtain⟨_,o,ho,_⟩:=I.ok.DR.mem hb;exact absurd (dn (bE ho) (ck I.sz h)) (eJ _)
theorem Inv.cne(I:Inv X pins σ H s):∀x c,X.env.cells.lookup x=some c->c≠X.env.locals:=fun x c e z=>by obtain⟨v,o,ho,hd⟩:=I.cell x c e;obtain⟨m,⟨o',es,ep,ho',hd',_⟩,_⟩:=I.loc;rw[z,ho']at ho;cases ho;rw[hd']at hd;cases hd
theorem Inv.DR(I:Inv X pins σ H s):s.heap.FunFrames X.base X.outer:=by
 have all:∀(l:List Env),(∀b∈Al l,b∈X.fs)->X.s₀.heap.FunFrames X.base l->s.heap.FunFrames X.base l:=by
  intro l
  induction l with
  |nil=>intro _ _;trivial
  |cons env r ih =>
   intro hs hl;obtain⟨hk,⟨L,o,hf,hn,ho,hd⟩,hr⟩:=hl;have hL:L∈X.fs:=hs L (by unfold Al;rw[m6,hf];exact eR);obtain⟨sl,e⟩:=I.base.slot L o ho (I.ok.frf L hL) hL fun z=>I.ok.aex L z hL;exact⟨hk,⟨L,_,hf,hn,e,hd⟩,ih (fun b hb=>hs b (by unfold Al;rw[m6,hf];exact el _ hb)) hr⟩
 exact all X.outer (fun _ hb=>hb) I.ok.DR
theorem Inv.stack(I:Inv X pins σ H s):s.heap.FunFrames X.base X.stack:=by
 rcases I.ok.stk with e|⟨e,hf⟩
 ·rw[e];exact I.DR
 ·rw[e];obtain⟨m,hn,_⟩:=I.loc;refine .cons (by rw[I.ok.kind];decide) hf hn ?_ I.DR;exact aw.get?_none_of_le (ck I.ok.bsz I.ok.above)
theorem Inv.Fv(I:Inv X pins σ H s):∀b∈Al X.stack,b∈X.env.locals::X.fs:=fun b hb=>by
 rcases I.ok.stk with e|⟨e,hf⟩
 ·rw[e]at hb;exact el _ hb
 ·rw[e]at hb;unfold Al at hb;rw[m6,hf]at hb;exact hb
theorem Inv.KQ(I:Inv X pins σ H s):∀b∈Al X.stack,H b=none:=fun b hb=>by
 rcases bq.mp (I.Fv b hb) with e|hb
 ·rw[e];exact I.free
 ·obtain⟨_,o,ho,_⟩:=I.ok.DR.mem hb;exact I.base.free b o ho (I.ok.frf b hb) fun z=>I.ok.aex b z hb
theorem Inv.step{g':Array kB}{t':Nat}{d':Drawn}{ch:List ae}(I:Inv X pins σ H s)
  (hch:∀b∈ch,(b∈X.ex∨X.s₀.heap.objs.size<=b)/\b≠X.env.locals/\(∀x c,X.env.cells.lookup x=some c->c≠b)/\∀p∈X.pn++pins,p.1≠b)
  (keep:∀b o,b≠X.env.locals->b∉X.fs->b∉ch->s.heap.get? b=some o->H b=none->h'.get? b=some o)
  (slot:∀b o,b≠X.env.locals->b∈X.fs->b∉ch->s.heap.get? b=some o->H b=none->∃sl,h'.get? b=some { o with slots:=sl }) (free:∀b o,b∉ch->s.heap.get? b=some o->H b=none->H' b=none)
  (there:∀b o,b∉ch->s.heap.get? b=some o->∃o',h'.get? b=some o')
  (tups:∀b xs,H b=some (.tup xs)->H' b=some (.tup xs)) (Fq:∀b o u,H b=some (.Jw o u)->H' b=some (.Jw o u)) (Ij:∀b ps,H b=some (.tbl ps)->∃more,H' b=some (.tbl (ps++more)))
  (ns:∀m,s.heap.Ns X.env.locals m->h'.Ns X.env.locals m) (hok:Cj X.prog X.w H' h') (hg:iS g') :
  Inv X pins σ H' { s with heap:=h',gens:=g',drawn:=d',toks:=t' }:=by
 have neL:∀b o,X.s₀.heap.get? b=some o->b≠X.env.locals:=fun b o e=>cq (dn (bE e) I.ok.above);have neC:∀b o,X.s₀.heap.get? b=some o->b∉X.ex->b∉ch:=fun b o e hx hb=>by
  rcases(hch b hb).1 with z|z
  ·exact hx z
  ·exact absurd (dn (bE e) z) (eJ _)
 have cellK:∀x c,X.env.cells.lookup x=some c->∀v,s.heap.IsCell c v->h'.IsCell c v:=fun x c e v ⟨o,ho,hd⟩=>by
  have Wf:c∉ch:=fun z=>(hch c z).2.2.1 x c e rfl;by_cases hc:c∈X.fs
  ·obtain⟨sl,q⟩:=slot c o (I.cne x c e) hc Wf ho (I.xr x c e);exact⟨_,q,hd⟩
  ·exact⟨o,keep c o (I.cne x c e) hc Wf ho (I.xr x c e),hd⟩
 refine⟨I.ok,I.os,hg,⟨fun b o e n hb hx=>?_,fun b o e n hb hx=>?_,fun b o e n hx=>?_,fun b o e hx=>?_,fun b xs e=>tups b xs (I.base.tups b xs e),fun b o xs e=>Fq b o xs (I.base.Fq b o xs e),fun b ps e=>?_⟩,?_,fun x c e=>?_,?_,fun x c e=>?_,fun p hp=>?_,hok,I.len⟩
 ·exact keep b o (neL b o e) hb (neC b o e hx) (I.base.keep b o e n hb hx) (I.base.free b o e n hx)
 ·obtain⟨sl,e1⟩:=I.base.slot b o e n hb hx;obtain⟨sl',e2⟩:=slot b _ (neL b o e) hb (neC b o e hx) e1 (I.base.free b o e n hx);exact⟨sl',e2⟩
 ·obtain⟨o',e1⟩:=I.base.there b o e hx;exact free b o' (neC b o e hx) e1 (I.base.free b o e n hx)
 ·obtain⟨o',e1⟩:=I.base.there b o e hx;exact there b o' (neC b o e hx) e1
 ·obtain⟨m1,e1⟩:=I.base.Ij b ps e;obtain⟨m2,e2⟩:=Ij b _ e1;exact⟨m1++m2,by rw[e2,Array.append_assoc]⟩
 ·obtain⟨m,hn,hl⟩:=I.loc;refine⟨m,ns m hn,fun i x v e1 e2 e3=>?_⟩;obtain⟨u,r,l⟩:=hl i x v e1 e2 e3;refine⟨u,r,?_⟩;rcases l with l|⟨k,c,e,z⟩
  ·exact .inl l
  ·exact .inr ⟨k,c,e,cellK x c e _ z⟩
 ·obtain⟨v,z⟩:=I.cell x c e;exact⟨v,cellK x c e v z⟩
 ·obtain⟨m,⟨o,_,_,ho,_⟩,_⟩:=I.loc;exact free _ o (fun z=>(hch _ z).2.1 rfl) ho I.free
 ·obtain⟨v,o,ho,hd⟩:=I.cell x c e;exact free c o (fun z=>(hch c z).2.2.1 x c e rfl) ho (I.xr x c e)
 ·obtain⟨e,n,ne,nf,d⟩:=I.pin p hp;have Wf:p.1∉ch:=fun z=>(hch p.1 z).2.2.2 p hp rfl;exact⟨keep p.1 p.2 ne nf Wf e n,free p.1 p.2 Wf e n,ne,nf,d⟩
theorem Inv.un{t':Nat}(I:Inv X pins σ H s)(u:Un X.fs [] H H' s.heap h')(hok:Cj X.prog X.w H' h'):Inv X pins σ H' { s with heap:=h',toks:=t' }:=by
 obtain⟨m,⟨o,es,ep,ho,r⟩,_⟩:=id I.loc;obtain⟨sl,hL⟩:=u.any ho I.free (by simp);exact I.step (g':=s.gens) (d':=s.drawn) (ch:=[]) (fun _ z=>nomatch z) (fun b o _ hb _ e n=>u.keep b o e n hb (by simp)) (fun b o _ hb _ e n=>u.slot b o e n hb (by simp)) (fun b o _ e n=>u.free b o e n (by simp)) (fun b o _ e=>u.there b o e (by simp)) u.tups u.Fq u.Ij (fun m' hm=>by
  obtain⟨o',es',ep',ho',r'⟩:=hm;rw[ho]at ho';cases ho';exact⟨_,es',ep',hL,r'⟩) hok I.bare
theorem Inv.call{g':Array kB}{t':Nat}{d':Drawn}{ch:List ae}(I:Inv X pins σ H s)(u:Un (Al X.stack) ch H H' s.heap h')(hok:Cj X.prog X.w H' h')(hg:iS g')
  (hch:∀b∈ch,(b∈X.ex∨X.s₀.heap.objs.size<=b)/\b≠X.env.locals/\(∀x c,X.env.cells.lookup x=some c->c≠b)/\∀p∈X.pn++pins,p.1≠b) :
  Inv X pins σ H' { s with heap:=h',gens:=g',drawn:=d',toks:=t' }:=by
 obtain⟨m,⟨o,es,ep,ho,r⟩,_⟩:=id I.loc;obtain⟨sl,hL⟩:=u.any ho I.free fun z=>(hch _ z).2.1 rfl;exact I.step (ch:=ch) hch (fun b o hL hb hc e n=>u.keep b o e n (fun z=>(bq.mp (I.Fv b z)).elim hL hb) hc) (fun b o _ _ hc e n=>u.any e n hc) (fun b o hc e n=>u.free b o e n hc) (fun b o hc e=>u.there b o e hc) u.tups u.Fq u.Ij (fun m' hm=>by
  obtain⟨o',es',ep',ho',r'⟩:=hm;rw[ho]at ho';cases ho';exact⟨_,es',ep',hL,r'⟩) hok hg
theorem Inv.turned{t':Nat}{it:ae}(I:Inv X pins σ H s)(k:∀b o,b≠it->s.heap.get? b=some o->h'.get? b=some o)(hn:H it=none)(hL:it≠X.env.locals)
  (h1:it∈X.ex∨X.s₀.heap.objs.size<=it) (h2:∀x c,X.env.cells.lookup x=some c->c≠it) (h3:∀p∈X.pn++pins,p.1≠it):Inv X pins σ H { s with heap:=h',toks:=t' }:=by
 have nit:∀b u,H b=some u->b≠it:=fun b u e z=>by rw[z,hn]at e;cases e
 refine I.step (g':=s.gens) (d':=s.drawn) (ch:=[it]) (fun b hb=>?_) (fun b o _ _ hc e _=>k b o (fun z=>hc (by simp[z])) e) (fun b o _ _ hc e _=>⟨o.slots,k b o (fun z=>hc (by simp[z])) e⟩) (fun _ _ _ _ n=>n)
  (fun b o hc e=>⟨o,k b o (fun z=>hc (by simp[z])) e⟩) (fun _ _ e=>e) (fun _ _ _ e=>e) (fun b ps e=>⟨#[],by rw[e];simp⟩) (fun m hm=>?_) (fun b u e=>?_) I.bare
 ·have e:b=it:=by simpa using hb
  subst e;exact⟨h1,hL,h2,h3⟩
 ·obtain⟨o,es,ep,ho,r⟩:=hm;exact⟨o,es,ep,k _ o (br hL) ho,r⟩
 ·refine(I.hok b u e).stay (fun c v hc q=>k c v ?_ q) (fun _ q=>q) (fun _ _ q=>q) fun _ _ q=>q;rcases hc with z|z
  ·rw[z];exact nit b u e
  ·exact nit c _ z
theorem Inv.tok(I:Inv X pins σ H s)(t:Nat):Inv X pins σ H { s with toks:=t }:=I.un (h':=s.heap) (t':=t) Un.refl I.hok
theorem Inv.kept{t':Nat}(I:Inv X pins σ H s)(k:∀b u,s.heap.get? b=some u->h'.get? b=some u):Inv X pins σ H { s with heap:=h',toks:=t' }:=I.un (Un.kept k) (I.hok.kept k)
theorem Inv.laid{a:ae}{o:HO}{t':Nat}(I:Inv X pins σ H s)(k:∀b u,s.heap.get? b=some u->h'.get? b=some u)(hp:s.heap.objs.size<=a)(new:mV X.prog X.w (upd H a o) h' a o) :
  Inv X pins σ (upd H a o) { s with heap:=h',toks:=t' }:=I.un (Un.laid k hp (I.hok.fresh hp)) (I.hok.laid k hp new)
theorem Inv.write{x e:ae}{o:HO}{t':Nat}(I:Inv X pins σ H s)(mu:Mut (H x))(he:e=x∨H e=some (.own x))(k:∀b u,b≠e->s.heap.get? b=some u->h'.get? b=some u)(heo:∃u,h'.get? e=some u)
  (new:mV X.prog X.w (upd H x o) h' x o):Inv X pins σ (upd H x o) { s with heap:=h',toks:=t' }:=I.un (Un.write mu he k heo) (I.hok.write mu he k heo new)
theorem Inv.KR{Fw:List (ae×Obj)}(I:Inv X pins σ H s)(h:∀p∈Fw,s.heap.get? p.1=some p.2/\H p.1=none/\p.1≠X.env.locals/\p.1∉X.fs/\∀v,p.2.data≠.cell v):Inv X Fw σ H s :=
 ⟨I.ok,I.os,I.bare,I.base,I.loc,I.cell,I.free,I.xr,fun p hp=>(dA.mp hp).elim (fun z=>I.pin p (oQ _ z)) (h p),I.hok,I.len⟩
theorem Qf{N:List Str}(hN:N.Nodup){i j:Nat}{x:Str}(a:N[i]?=some x)(b:N[j]?=some x):i=j:=by obtain⟨h1,e1⟩:=dq.mp a;obtain⟨h2,e2⟩:=dq.mp b;exact(List.getElem_inj hN).mp (e1.trans e2.symm)
theorem Yq{M:Model}{A:aT}{E:aa->af->Prop}{i:Nat}{x:Str}{v:V}{u:aa}{Q:Unit->af->Prop}(I:Inv X pins σ H s)(hN:X.N.Nodup)(hi:X.N[i]?=some x)(hx:Loc X.env.scope x)(r:RelV v u)
  (h:∀s',Inv X pins (σ.set i (some v)) H s'->(∃a,dP a s.heap s'.heap/\(a=X.env.locals∨X.env.cells.lookup x=some a))->Q () s') (hf:X.fn x=true∨X.env.scope.names.lookup x=some .local:=by first|exact .inl rfl|exact .inr rfl|assumption):az M A (storeName X.env x u) Q E s:=by
 obtain⟨m,hn,hl⟩:=id I.loc;have hcls:(X.env.scope.kind == .class || (X.env.scope.kind == .module && X.env.locals != X.env.globals))=false:=by rw[I.ok.kind];rfl
 have hiσ:i < σ.length:=by rw[I.len];exact(dq.mp hi).1
 have cne:=I.cne;have tracked:∀{a:ae}{h':aw},(∃o,s.heap.get? a=some o/\H a=none)->dP a s.heap h'->Cj X.prog X.w H h':=fun {a h'} ha hs b ob e=>by
  obtain⟨_,_,hfree⟩:=ha;refine(I.hok b ob e).stay (fun c w' hc q=>(hs.2 c ?_).trans q) (fun _ q=>q) (fun _ _ q=>q) fun _ _ q=>q;rintro rfl;rcases hc with rfl|hc
  ·rw[hfree]at e;cases e
  ·rw[hfree]at hc;cases hc
 rcases hx with hk|hk
 ·refine wpAny_storeName_local hk hn (fun h' hn' hs=>?_) hcls;obtain⟨oL,_,_,hoL,_⟩:=id hn;refine h _ ⟨I.ok,I.os,I.bare,⟨fun b o e n hb hx=>?_,fun b o e n hb hx=>?_,I.base.free,fun b o e hx=>?_,I.base.tups,I.base.Fq,I.base.Ij⟩,⟨_,hn',fun j y v' e1 e2 e3=>?_⟩,fun y c e=>?_,I.free,I.xr,fun p hp=>?_,tracked ⟨oL,hoL,I.free⟩ hs,by simpa using I.len⟩ ⟨_,hs,.inl rfl⟩
  ·exact(hs.2 b (cq (dn (bE e) I.ok.above))).trans (I.base.keep b o e n hb hx)
  ·obtain⟨sl,e1⟩:=I.base.slot b o e n hb hx;exact⟨sl,(hs.2 b (cq (dn (bE e) I.ok.above))).trans e1⟩
  ·obtain⟨o',e1⟩:=I.base.there b o e hx;exact⟨o',(hs.2 b (cq (dn (bE e) I.ok.above))).trans e1⟩
  ·by_cases hj:j=i
   ·subst hj;rw[hi]at e1;cases e1;rw[dt hiσ]at e2;cases e2;exact⟨u,r,.inl ⟨hk,by simp⟩⟩
   ·rw[c8 (br hj)]at e2;obtain⟨u',r',q⟩:=hl j y v' e1 e2 e3;refine⟨u',r',?_⟩;rcases q with ⟨k,e⟩|⟨k,c,e,z⟩
    ·refine .inl ⟨k,?_⟩;have:y≠x:=fun e=>hj (Qf hN e1 (e▸hi));simp[this,e]
    ·exact .inr ⟨k,c,e,z.sameBut hs (cne y c e)⟩
  ·obtain⟨w',z⟩:=I.cell y c e;exact⟨w',z.sameBut hs (cne y c e)⟩
  ·obtain⟨e,n,ne,nf,d⟩:=I.pin p hp;exact⟨(hs.2 p.1 ne).trans e,n,ne,nf,d⟩
 ·have hfn:X.fn x=true:=by
   rcases hf with z|z
   ·exact z
   ·rw[z]at hk;cases hk
  obtain⟨c,hc⟩:=I.ok.has x (.inl hk);obtain⟨w',z⟩:=I.cell x c hc;refine wpAny_storeName_cell I.ok.kind hk hc z (fun h' hc' hs=>?_);obtain⟨oc,hoc,anc⟩:=id z;refine h { s with heap:=h' } ⟨I.ok,I.os,I.bare,⟨fun b o e n hb hx=>?_,fun b o e n hb hx=>?_,I.base.free,fun b o e hx=>?_,I.base.tups,I.base.Fq,I.base.Ij⟩,⟨m,hn.sameBut hs (br (cne x c hc)),fun j y v' e1 e2 e3=>?_⟩,fun y c' e=>?_,I.free,I.xr,fun p hp=>?_,tracked ⟨oc,hoc,I.xr x c hc⟩ hs,by simpa using I.len⟩ ⟨c,hs,.inr hc⟩
  ·exact(hs.2 b (cq (dn (bE e) (I.ok.cab x c hfn hc)))).trans (I.base.keep b o e n hb hx)
  ·obtain⟨sl,e1⟩:=I.base.slot b o e n hb hx;exact⟨sl,(hs.2 b (cq (dn (bE e) (I.ok.cab x c hfn hc)))).trans e1⟩
  ·obtain⟨o',e1⟩:=I.base.there b o e hx;exact⟨o',(hs.2 b (cq (dn (bE e) (I.ok.cab x c hfn hc)))).trans e1⟩
  ·by_cases hj:j=i
   ·subst hj;rw[hi]at e1;cases e1;rw[dt hiσ]at e2;cases e2;exact⟨u,r,.inr ⟨.inl hk,c,hc,hc'⟩⟩
   ·rw[c8 (br hj)]at e2;obtain⟨u',r',q⟩:=hl j y v' e1 e2 e3;refine⟨u',r',?_⟩;rcases q with q|⟨k,c',e,z'⟩
    ·exact .inl q
    ·refine .inr ⟨k,c',e,z'.sameBut hs ?_⟩;rintro rfl;exact hj (Qf hN e1 (I.ok.inj _ _ _ e hc▸hi))
  ·by_cases hcc:c'=c
   ·subst hcc;exact⟨_,hc'⟩
   ·obtain⟨w2,z2⟩:=I.cell y c' e;exact⟨w2,z2.sameBut hs hcc⟩
  ·obtain⟨e,n,ne,nf,d⟩:=I.pin p hp;refine⟨(hs.2 p.1 ?_).trans e,n,ne,nf,d⟩;intro q;rw[q,hoc]at e;have q':oc=p.2:=dk e;exact d w' (by rw[<- q'];exact anc)
theorem Qg{M:Model}{A:aT}{E:aa->af->Prop}{i:Nat}{x:Str}{v:V}{u:aa}{Q:Unit->af->Prop}(I:Inv X pins σ H s)(hN:X.N.Nodup)(hi:X.N[i]?=some x)(hx:Loc X.env.scope x)(r:RelV v u)
  (h:∀s',Inv X pins (σ.set i (some v)) H s'->Q () s') (hf:X.fn x=true∨X.env.scope.names.lookup x=some .local:=by first|exact .inl rfl|exact .inr rfl|assumption):az M A (storeName X.env x u) Q E s :=
 Yq I hN hi hx r (fun s' I' _=>h s' I') hf
theorem Inv.call'{s':af}{ch:List ae}(I:Inv X pins σ H s)(ho:s'.os=s.os)(u:Un (Al X.stack) ch H H' s.heap s'.heap)(hok:Cj X.prog X.w H' s'.heap)(hg:iS s'.gens)
  (hch:∀b∈ch,(b∈X.ex∨X.s₀.heap.objs.size<=b)/\b≠X.env.locals/\(∀x c,X.env.cells.lookup x=some c->c≠b)/\∀p∈X.pn++pins,p.1≠b):Inv X pins σ H' s':=by
 obtain⟨h',g',d',t',o'⟩:=s';have e:o'=s.os:=ho;subst e;exact I.call (g':=g') (t':=t') (d':=d') u hok hg hch
end
noncomputable abbrev XK:=aa->Option ae->Hp->Prop
noncomputable abbrev St:=List (Option V)
noncomputable abbrev VK:=V->Hp->Prop
noncomputable abbrev TE:=St->Hp->VK->Prop
noncomputable abbrev TT:=St->Hp->(Bool->Hp->Prop)->Prop
noncomputable abbrev TA:=St->Hp->(List V->Hp->Prop)->Prop
structure Ends where
 nx:St->Hp->Prop
 rt:VK
 bk:St->Hp->Prop:=fun _ _=>False
 ct:St->Hp->Prop:=fun _ _=>False
noncomputable abbrev TS:=Ends->St->Hp->Prop
noncomputable def EP(X:Cx)(pins:List (ae×Obj))(σ:St)(Q:VK)(u:aa)(s':af):Prop:=∃v H',Inv X pins σ H' s'/\RelV v u/\Q v H'
noncomputable def TP(X:Cx)(pins:List (ae×Obj))(σ:St)(Q:Bool->Hp->Prop)(b:Bool)(s':af):Prop:=∃H',Inv X pins σ H' s'/\Q b H'
noncomputable def AP(X:Cx)(pins:List (ae×Obj))(σ:St)(Q:List V->Hp->Prop)(us:List aa)(s':af):Prop:=∃vs H',Inv X pins σ H' s'/\Vals vs us/\Q vs H'
noncomputable def SP(X:Cx)(pins:List (ae×Obj))(D:Ends)(f:Flow)(s':af):Prop :=
 match f with
 | .next=>∃σ' H',Inv X pins σ' H' s'/\D.nx σ' H'
 | .brk=>∃σ' H',Inv X pins σ' H' s'/\D.bk σ' H'
 | .cont=>∃σ' H',Inv X pins σ' H' s'/\D.ct σ' H'
 | .ret u=>∃v σ' H',Inv X pins σ' H' s'/\RelV v u/\D.rt v H'
noncomputable def PE(X:Cx)(e:ag)(t:TE):Prop :=
 ∀(pins:List (ae×Obj)) (s:af) (σ:St) (H:Hp) (Q:VK),Inv X pins σ H s->t σ H Q->az (ar X.prog X.w) X.A (a7 e X.env) (EP X pins σ Q) X.xe s
noncomputable def PT(X:Cx)(e:ag)(t:TT):Prop :=
 ∀(pins:List (ae×Obj)) (s:af) (σ:St) (H:Hp) (Q:Bool->Hp->Prop),Inv X pins σ H s->t σ H Q->az (ar X.prog X.w) X.A (isTrue e X.env (a7 e X.env)) (TP X pins σ Q) X.xe s
noncomputable def PW(X:Cx)(e:ag)(t:TT):Prop :=
 ∀(whole:Sem aa) (pins:List (ae×Obj)) (s:af) (σ:St) (H:Hp) (Q:Bool->Hp->Prop),Inv X pins σ H s->t σ H Q->az (ar X.prog X.w) X.A (isTrue e X.env whole) (TP X pins σ Q) X.xe s
theorem PW.pt{X:Cx}{e:ag}{t:TT}(h:PW X e t):PT X e t:=h _
noncomputable def PA(X:Cx)(es:List ag)(t:TA):Prop :=
 ∀(pos:Pos) (pins:List (ae×Obj)) (s:af) (σ:St) (H:Hp) (Q:List V->Hp->Prop),Inv X pins σ H s->t σ H Q->az (ar X.prog X.w) X.A (spliced (cE pos (a8 es X.env))) (AP X pins σ Q) X.xe s
noncomputable def PS(X:Cx)(st:aS)(t:TS):Prop :=
 ∀(pins:List (ae×Obj)) (s:af) (σ:St) (H:Hp) (D:Ends),Inv X pins σ H s->t D σ H->az (ar X.prog X.w) X.A (exec st X.env) (SP X pins D) X.xe s
noncomputable def Qh(X:Cx)(st:List aS)(t:TS):Prop :=
 ∀(pins:List (ae×Obj)) (s:af) (σ:St) (H:Hp) (D:Ends),Inv X pins σ H s->t D σ H->az (ar X.prog X.w) X.A (execs st X.env) (SP X pins D) X.xe s
theorem nq{α:Type}{t:Sem α}{Q Q':α->af->Prop}{M:Model}{A:aT}{E:aa->af->Prop}{s:af}(h:az M A t Q E s)(hQ:∀a s,Q a s->Q' a s):az M A t Q' E s:=eK h hQ fun _ _ x=>x
section
variable{X:Cx}
noncomputable def Yr(i:Nat):TE:=fun σ H Q=>∃v,σ[i]?=some (some v)/\Q v H
noncomputable def tC(v:V):TE:=fun _ H Q=>Q v H
theorem nC{i:Nat}{x:Str}{pos:Pos}(hN:X.N[i]?=some x)(hv:Ik X.env.scope x)(hd:wk x:=by decide)(hcd:Qc x:=by decide):PE X (.Name x pos) (Yr i):=by
 intro pins s σ H Q I h;obtain⟨v,e,h⟩:=h;obtain⟨m,hn,hl⟩:=I.loc;obtain⟨u,r,l⟩:=hl i x v hN e hv;have jk:EP X pins σ Q u s:=⟨v,H,I,r,h⟩
 rcases l with ⟨hk,hm⟩|⟨hk,c,hc,hcell⟩
 ·exact wpAny_Name (wpAny_loadName_local I.ok.kind hk hn hm jk) hd
 ·rcases hk with hk|hk
  ·exact wpAny_Name (wpAny_loadName_cell I.ok.kind hk hc hcell jk) hd
  ·exact wpAny_Name (wpAny_loadName_free I.ok.kind hk hc hcell jk hcd) hd
theorem ahQ{i j pos}:PE X (.Constant (.int i) j pos) (tC (.int i)):=fun _ _ _ H _ I h=>wpAny_Constant_int ⟨.int i,H,I.tok _,⟨_,rfl⟩,h⟩
theorem akE{b j pos}:PE X (.Constant (.bool b) j pos) (tC (.bl b)):=fun _ _ _ H _ I h=>Constant_bool ⟨.bl b,H,I,rfl,h⟩
theorem aaX{x j pos}:PE X (.Constant (.str x) j pos) (tC (.str x)):=fun _ _ _ H _ I h=>Calls.Constant_str ⟨.str x,H,I.tok _,⟨_,rfl⟩,h⟩
noncomputable def Gl(X:Cx)(x:Str):Prop:=X.env.kindOf x=some .globalImplicit
theorem Am{E:aa->af->Prop}{pins:List (ae×Obj)}{s:af}{σ:St}{H:Hp}{x:Str}{u:aa}{pos:Pos}{Q:aa->af->Prop}(I:Inv X pins σ H s)(hg:Gl X x)(hm:X.mg x=some u)(h:Q u s)
  (hd:wk x:=by decide):az (ar X.prog X.w) X.A (a7 (.Name x pos) X.env) Q E s :=
 Calls.Name_function_global I.ok.kind hg (Calls.loadGlobal_global (by rw[I.ok.glob];exact I.mod.glob.keeps I.bk) hm h) hd
theorem zO{E:aa->af->Prop}{pins:List (ae×Obj)}{s:af}{σ:St}{H:Hp}{x:Str}{u:aa}{pos:Pos}{Q:aa->af->Prop}(I:Inv X pins σ H s)(hg:Gl X x)(hm:X.mg x=none)(hv:gi x=some u)(h:Q u s)
  (hn:x≠"__name__":=by decide) (hd:wk x:=by decide):az (ar X.prog X.w) X.A (a7 (.Name x pos) X.env) Q E s:=by
 obtain⟨mb,h1,h2⟩:=I.mod.blt;exact Calls.Name_function_global I.ok.kind hg (Calls.loadGlobal_builtin (by rw[I.ok.glob];exact I.mod.glob.keeps I.bk) hm (by rw[I.ok.blt];exact h1.keeps I.bk) ((h2 x hn).trans hv) h) hd
theorem aey{x:Str}{v:V}{u:aa}{pos:Pos}(hg:Gl X x)(hm:X.mg x=some u)(r:RelV v u)(hd:wk x:=by decide):PE X (.Name x pos) (tC v) :=
 fun _ _ _ H _ I h=>Am I hg hm ⟨v,H,I,r,h⟩ hd
theorem Wg{x:Str}{v:V}{u:aa}{pos:Pos}(hg:Gl X x) (hm:X.mg x=none) (hv:gi x=some u) (r:RelV v u) (hn:x≠"__name__":=by decide) (hd:wk x:=by decide):PE X (.Name x pos) (tC v) :=
 fun _ _ _ H _ I h=>zO I hg hm hv ⟨v,H,I,r,h⟩ hn hd
variable{a b:ag}{ta tb:TE}{pos:Pos}
noncomputable def tB(t:TE):TT:=fun σ H Q=>t σ H fun x H1=>∃c,x=.bl c/\Q c H1
theorem ahR{e:ag}{t:TE}(h:PE X e t)(he:∀whole,isTrue e X.env whole=(do let v <- whole;jS e.pos;eL [v] (truthy v)):=by intro _;rfl):PT X e (tB t):=by intro pins s σ H Q I hw;refine isTrue_plain (nq (h pins s σ H _ I hw) fun v s1 ⟨x,H1,I1,r1,q1⟩=>?_) (he _);obtain⟨d,rfl,q⟩:=q1;cases r1;exact ll ⟨H1,I1,q⟩
variable{tA tB':TT}{rest:List ag}
noncomputable def ane(t u:TT):TT:=fun σ H Q=>t σ H fun c H1=>if c=true then u σ H1 Q else Q false H1
noncomputable def tOr(t u:TT):TT:=fun σ H Q=>t σ H fun c H1=>if c=true then Q true H1 else u σ H1 Q
noncomputable def anf(t:TT):TT:=fun σ H Q=>t σ H fun c H1=>Q (!c) H1
theorem aez(ha:PT X a tA):PW X (.BoolOp .And [a] pos) tA:=by
 intro wh pins s σ H Q I h;refine isTrue_and (nq (ha pins s σ H Q I h) fun c s1 e=>?_);cases c with
 |true=>exact isTrue_and_nil e
 |false=>exact e
theorem ahS(ha:PT X a tA):PW X (.BoolOp .Or [a] pos) tA:=by
 intro wh pins s σ H Q I h;refine isTrue_or (nq (ha pins s σ H Q I h) fun c s1 e=>?_);cases c with
 |false=>exact isTrue_or_nil e
 |true=>exact e
theorem ahT(ha:PT X a tA)(hb:PW X (.BoolOp .And (b::rest) pos) tB'):PW X (.BoolOp .And (a::b::rest) pos) (ane tA tB'):=by
 intro wh pins s σ H Q I h;refine isTrue_and (nq (ha pins s σ H _ I h) fun c s1 mF=>?_);obtain⟨H1,I1,q1⟩:=mF;cases c with
 |true=>exact hb wh pins s1 σ H1 Q I1 q1
 |false=>exact⟨H1,I1,q1⟩
theorem akF(ha:PT X a tA)(hb:PW X (.BoolOp .Or (b::rest) pos) tB'):PW X (.BoolOp .Or (a::b::rest) pos) (tOr tA tB'):=by
 intro wh pins s σ H Q I h;refine isTrue_or (nq (ha pins s σ H _ I h) fun c s1 mF=>?_);obtain⟨H1,I1,q1⟩:=mF;cases c with
 |true=>exact⟨H1,I1,q1⟩
 |false=>exact hb wh pins s1 σ H1 Q I1 q1
theorem ahU(ha:PT X a tA):PT X (.UnaryOp .Not a pos) (anf tA):=by intro pins s σ H Q I h;exact isTrue_not (ha pins s σ H (fun c H1=>Q (!c) H1) I h)
noncomputable def akG(ta tb:TE):TE:=fun σ H Q=>ta σ H fun x H1=>∃c,x=.bl c/\if c=true then tb σ H1 Q else Q (.bl false) H1
noncomputable def ang(ta tb:TE):TE:=fun σ H Q=>ta σ H fun x H1=>∃c,x=.bl c/\if c=true then Q (.bl true) H1 else tb σ H1 Q
theorem ahV{op}{t:TE}(h:PE X a t):PE X (.BoolOp op [a] pos) t:=fun pins s σ H Q I hw=>BoolOp_one (h pins s σ H Q I hw)
theorem ahW(ha:PE X a ta)(hb:PE X (.BoolOp .And (b::rest) pos) tb):PE X (.BoolOp .And (a::b::rest) pos) (akG ta tb):=by
 intro pins s σ H Q I h;refine BoolOp_and (nq (ha pins s σ H _ I h) fun v s1 mF=>?_);obtain⟨x,H1,I1,r1,q1⟩:=mF;obtain⟨c,rfl,q1⟩:=q1;cases r1;refine ll ?_;cases c with
 |true=>exact hb pins s1 σ H1 Q I1 q1
 |false=>exact⟨.bl false,H1,I1,rfl,q1⟩
theorem akH(ha:PE X a ta)(hb:PE X (.BoolOp .Or (b::rest) pos) tb):PE X (.BoolOp .Or (a::b::rest) pos) (ang ta tb):=by
 intro pins s σ H Q I h;refine BoolOp_or (nq (ha pins s σ H _ I h) fun v s1 mF=>?_);obtain⟨x,H1,I1,r1,q1⟩:=mF;obtain⟨c,rfl,q1⟩:=q1;cases r1;refine ll ?_;cases c with
 |false=>exact hb pins s1 σ H1 Q I1 q1
 |true=>exact⟨.bl true,H1,I1,rfl,q1⟩
end
noncomputable def nu(K:ai)(H:Hp)(a:ae)(xs:List V):Prop :=
 Rd H a (.lst xs) ∨
  ∃(o:Obj) (its:Array aa) (n:Nat),K.lookup a=some o/\o.cls=.type "list"/\o.dict=none/\o.data=.seq its n/\its.size<=sizeLine/\Vals xs its.toList
noncomputable def qF(K:ai)(H:Hp)(a:ae)(xs:List V):Prop :=
 Rd H a (.tup xs) ∨
  ∃(o:Obj) (its:Array aa) (n:Nat),K.lookup a=some o/\o.cls=.type "tuple"/\o.data=.seq its n/\its.size<=sizeLine/\Vals xs its.toList
noncomputable def anh:aa->Option V
 | .none=>some .non
 | .bool b=>some (.bl b)
 | .int i _=>some (.int i)
 | .str x _=>some (.str x)
 | .bytes b _=>some (.byt b)
 | .float b _=>some (.flt b)
 | .ref a=>some (.ref a)
 | .type n=>some (.ty n)
 |_=>none
theorem RelV.abs{x:V}{u:aa}(r:RelV x u):anh u=some x:=by
 cases x with
 |non=>cases r;rfl
 |bl _=>cases r;rfl
 |int _=>obtain⟨t,rfl⟩:=r;rfl
 |str _=>obtain⟨t,rfl⟩:=r;rfl
 |byt _=>obtain⟨t,rfl⟩:=r;rfl
 |flt _=>obtain⟨t,rfl⟩:=r;rfl
 |ref _=>cases r;rfl
 |ty _=>cases r;rfl
theorem RelV.inj{x y:V}{u:aa}(r:RelV x u)(q:RelV y u):x=y:=dk (r.abs.symm.trans q.abs)
theorem Vals.inj:∀{xs ys:List V}{us:List aa},Vals xs us->Vals ys us->xs=ys
 |_,_,_,.nil,.nil=>rfl
 |_,_,_,.cons r t,.cons r' t'=>by rw[r.inj r',Vals.inj t t']
section
variable{X:Cx}{pins:List (ae×Obj)}{σ:St}{H:Hp}{s:af}{a:ae}{xs ys:List V}
theorem nu.of{K:ai}(h:H a=some (.lst xs)):nu K H a xs:=.inl (.inl h)
theorem qF.of{K:ai}(h:H a=some (.tup xs)):qF K H a xs:=.inl (.inl h)
theorem Inv.list(I:Inv X pins σ H s)(h:nu X.K H a xs):∃its:List aa,Vals xs its/\PlainL s.heap a its.toArray/\xs.length<=sizeLine:=by
 rcases h with h|⟨o,its,n,hk,hc,hd,hs,hz,r⟩
 ·obtain⟨z,its,n,r,e⟩:=h.ok I.hok;exact⟨its,r,⟨_,n,e,rfl,rfl,rfl⟩,z⟩
 ·refine⟨its.toList,r,⟨o,n,I.xu a o hk,hc,hd,by simpa using hs⟩,?_⟩;have e:=r.length;simp only[fw]at e;lia
theorem Inv.tuple(I:Inv X pins σ H s)(h:qF X.K H a xs):∃its:List aa,Vals xs its/\kz s.heap a its.toArray/\xs.length<=sizeLine:=by
 rcases h with h|⟨o,its,n,hk,hc,hs,hz,r⟩
 ·obtain⟨z,its,r,p⟩:=h.ok I.hok;exact⟨its,r,p,z⟩
 ·refine⟨its.toList,r,⟨o,I.xu a o hk,hc,n,by simpa using hs⟩,?_⟩;have e:=r.length;simp only[fw]at e;lia
theorem Inv.xG(I:Inv X pins σ H s)(h:nu X.K H a xs)(h':nu X.K H a ys):xs=ys:=by
 obtain⟨its,r,⟨o,n,e,_,_,d⟩,_⟩:=I.list h;obtain⟨its',r',⟨o',n',e',_,_,d'⟩,_⟩:=I.list h';rw[e]at e';cases e';rw[d]at d';injection d' with d1 _;have:its=its':=by simpa using congrArg Array.toList d1
 subst this;exact r.inj r'
theorem Inv.yK(I:Inv X pins σ H s)(h:qF X.K H a xs)(h':qF X.K H a ys):xs=ys:=by
 obtain⟨its,r,⟨o,e,_,n,d⟩,_⟩:=I.tuple h;obtain⟨its',r',⟨o',e',_,n',d'⟩,_⟩:=I.tuple h';rw[e]at e';cases e';rw[d]at d';injection d' with d1 _;have:its=its':=by simpa using congrArg Array.toList d1
 subst this;exact r.inj r'
end
noncomputable abbrev Cx.wish(X:Cx)(E:aa->af->Prop):Cx:={ X with xe:=E }
noncomputable abbrev Cx.nox(X:Cx):Cx:=X.wish fun _ _=>False
theorem Cx.Ok.wish{X:Cx}(ok:X.Ok)(E:aa->af->Prop):(X.wish E).Ok :=
 ⟨ok.mod,ok.kind,ok.glob,ok.blt,ok.above,ok.inj,ok.has,ok.cab,ok.hd,ok.frames,ok.stk,ok.exf,ok.bs,ok.bsz,ok.Qe,ok.aex,ok.DR,ok.frf⟩
theorem Cx.Ok.rA{X:Cx}{E:aa->af->Prop}(ok:(X.wish E).Ok):X.Ok :=
 ⟨ok.mod,ok.kind,ok.glob,ok.blt,ok.above,ok.inj,ok.has,ok.cab,ok.hd,ok.frames,ok.stk,ok.exf,ok.bs,ok.bsz,ok.Qe,ok.aex,ok.DR,ok.frf⟩
section
variable{X:Cx}{pins:List (ae×Obj)}{σ:St}{H:Hp}{s:af}{E:aa->af->Prop}
theorem Inv.wish(I:Inv X pins σ H s)(E:aa->af->Prop):Inv (X.wish E) pins σ H s:=⟨I.ok.wish E,I.os,I.bare,I.base,I.loc,I.cell,I.free,I.xr,I.pin,I.hok,I.len⟩
theorem Inv.rA(I:Inv (X.wish E) pins σ H s):Inv X pins σ H s:=⟨I.ok.rA,I.os,I.bare,I.base,I.loc,I.cell,I.free,I.xr,I.pin,I.hok,I.len⟩
theorem SP.rA{D:Ends}{f:Flow}{s':af}(h:SP (X.wish E) pins D f s'):SP X pins D f s':=by
 cases f with
 |next=>obtain⟨σ',H',I,q⟩:=h;exact⟨σ',H',I.rA,q⟩
 |brk=>obtain⟨σ',H',I,q⟩:=h;exact⟨σ',H',I.rA,q⟩
 |cont=>obtain⟨σ',H',I,q⟩:=h;exact⟨σ',H',I.rA,q⟩
 |ret u=>obtain⟨v,σ',H',I,r,q⟩:=h;exact⟨v,σ',H',I.rA,r,q⟩
theorem PE.nox{e:ag}{t:TE}(h:PE X.nox e t):PE X e t:=fun pins s σ H Q I hw =>
 eK (h pins s σ H Q (I.wish _) hw) (fun _ _ ⟨v,H',I',r,q⟩=>⟨v,H',I'.rA,r,q⟩) fun _ _ z=>dy z
end
section
variable{X:Cx}{st:aS}{rest:List aS}{t u:TS}{e:ag}{te:TE}{pos:Pos}
noncomputable def akI:TS:=fun D σ H=>D.nx σ H
noncomputable def ani(t u:TS):TS:=fun D σ H=>t { D with nx:=u D } σ H
theorem aeB:Qh X [] akI:=fun _ _ σ H _ I h=>sF ⟨σ,H,I,h⟩
theorem Qi(h1:PS X st t)(h2:Qh X rest u):Qh X (st::rest) (ani t u):=by
 intro pins s σ H D I h;refine wpAny_execs_cons (nq (h1 pins s σ H { D with nx:=u D } I h) fun f s1 q=>?_);cases f with
 |next =>
  obtain⟨σ',H',I',q⟩:=q;exact h2 pins s1 σ' H' D I' q
 |ret v=>exact q
 |brk=>exact q
 |cont=>exact q
theorem Wh(h1:PS X st t):Qh X [st] t:=by
 intro pins s σ H D I h;refine wpAny_execs_cons (nq (h1 pins s σ H D I h) fun f s1 q=>?_);cases f with
 |next=>exact sF q
 |ret v=>exact q
 |brk=>exact q
 |cont=>exact q
theorem Inv.quiet{pins:List (ae×Obj)}{σ:St}{H:Hp}{s:af}(I:Inv X pins σ H s):interactive X.env=false:=by simp[interactive,I.ok.kind]
noncomputable def akJ(te:TE):TS:=fun D σ H=>te σ H fun _ H1=>D.nx σ H1
theorem Eu(he:PE X e te)(hs:dC e none pos.line X.env=pure false:=by rfl):PS X (.Expr e pos) (akJ te):=by intro pins s σ H D I h;exact wpAny_Expr_any (nq (he pins s σ H _ I h) fun v s1 ⟨x,H1,I1,r1,q1⟩=>⟨σ,H1,I1,q1⟩) I.quiet hs
noncomputable def anj(te:TE):TS:=fun D σ H=>te σ H D.rt
theorem KY(he:PE X e te):PS X (.Return (some e) pos) (anj te):=by intro pins s σ H D I h;exact wpAny_Return_some (nq (he pins s σ H _ I h) fun v s1 ⟨x,H1,I1,r1,q1⟩=>⟨x,σ,H1,I1,r1,q1⟩)
noncomputable def ank(c:TT)(t u:TS):TS:=fun D σ H=>c σ H fun b H1=>if b=true then t D σ H1 else u D σ H1
theorem akK{c:ag}{a b:List aS}{tc:TT}(hc:PT X c tc)(ha:Qh X a t)(hb:Qh X b u):PS X (.If c a b pos) (ank tc t u):=by
 intro pins s σ H D I h;refine wpAny_If (nq (hc pins s σ H _ I h) fun d s1 mF=>?_);obtain⟨H1,I1,q1⟩:=mF;cases d with
 |true=>exact ha pins s1 σ H1 D I1 q1
 |false=>exact hb pins s1 σ H1 D I1 q1
noncomputable def ahX:TS:=fun _ _ _=>False
theorem Ys{sts:List aS}:Qh X sts ahX:=fun _ _ _ _ _ _ h=>h.elim
end
noncomputable abbrev TG:=V->St->Hp->(St->Hp->Prop)->Prop
noncomputable abbrev TGs:=List V->St->Hp->(St->Hp->Prop)->Prop
noncomputable def PG(X:Cx)(target:ag)(t:TG):Prop :=
 ∀(pins:List (ae×Obj)) (s:af) (σ:St) (H:Hp) (v:V) (u:aa) (Q:St->Hp->Prop),Inv X pins σ H s->RelV v u->t v σ H Q ->
  az (ar X.prog X.w) X.A (assign target X.env u) (fun _ s'=>∃σ' H',Inv X pins σ' H' s'/\Q σ' H') X.xe s
noncomputable def PGs(X:Cx)(ts:List ag)(t:TGs):Prop :=
 ∀(pins:List (ae×Obj)) (s:af) (σ:St) (H:Hp) (vs:List V) (us:List aa) (Q:St->Hp->Prop),Inv X pins σ H s->Vals vs us->t vs σ H Q ->
  az (ar X.prog X.w) X.A (assignInOrder ((fx ts X.env).map (·.2)) us) (fun _ s'=>∃σ' H',Inv X pins σ' H' s'/\Q σ' H') X.xe s
noncomputable abbrev ahY:=V->V->V->Hp->(Hp->Prop)->Prop
noncomputable def akL(X:Cx)(t:ahY):Prop :=
 ∀(pins:List (ae×Obj)) (s:af) (σ:St) (H:Hp) (o i v:V) (ov iv u:aa) (Q:Hp->Prop),Inv X pins σ H s->RelV o ov->RelV i iv->RelV v u->t o i v H Q ->
  az (ar X.prog X.w) X.A (setItem ov iv u) (fun _ s'=>∃H',Inv X pins σ H' s'/\Q H') X.xe s
section
variable{X:Cx}{pos:Pos}
noncomputable def agR(i:Nat):TG:=fun v σ H Q=>Q (σ.set i (some v)) H
theorem aeD{i:Nat}{x:Str}(hN:X.N.Nodup)(hi:X.N[i]?=some x)(hx:Loc X.env.scope x)(hf:X.fn x=true∨X.env.scope.names.lookup x=some .local:=by first|exact .inl rfl|exact .inr rfl|assumption):PG X (.Name x pos) (agR i):=by intro pins s σ H v u Q I r h;exact wpAny_assign_Name (Qg I hN hi hx r (fun s' I'=>⟨_,H,I',h⟩) hf)
noncomputable def anl:TGs:=fun vs σ H Q=>vs=[]/\Q σ H
noncomputable def akM(t:TG)(u:TGs):TGs:=fun vs σ H Q=>∃v r,vs=v::r/\t v σ H fun σ' H'=>u r σ' H' Q
theorem aeE:PGs X [] anl:=by intro pins s σ H vs us Q I r h;obtain⟨e,h⟩:=h;subst e;cases r;exact assignInOrder_nil ⟨σ,H,I,h⟩
theorem aaY{e:ag}{es:List ag}{t:TG}{u:TGs}(h1:PG X e t)(h2:PGs X es u)
  (hs:(fx (e::es) X.env).map (·.2)=assign e X.env::(fx es X.env).map (·.2):=by rfl):PGs X (e::es) (akM t u):=by
 intro pins s σ H vs us Q I r h;obtain⟨v,vr,e1,h⟩:=h;subst e1;cases r with
 |cons r rr =>
  rw[hs];refine assignInOrder_cons (nq (h1 pins s σ H _ _ _ I r h) fun _ s1 mF=>?_);obtain⟨σ1,H1,I1,q1⟩:=mF;exact h2 pins s1 σ1 H1 _ _ Q I1 rr q1
noncomputable def iR(K:ai)(n:Nat)(t:TGs):TG:=fun v σ H Q=>∃a xs,v=.ref a/\qF K H a xs/\xs.length=n/\t xs σ H Q
theorem ahZ{es:List ag}{k:Nat}{t:TGs}{n:Nat}(hc:X.calm=true)(h:PGs X es t)
  (hn:(fx es X.env).length=n:=by rfl) (hst:(fx es X.env).findIdx? (·.1)=none:=by rfl):PG X (.Tuple es k pos) (iR X.K n t):=by
 intro pins s σ H v u Q I r hw;obtain⟨a,xs,e1,hq,hl,hw⟩:=hw;subst e1;cases r;obtain⟨its,rv,ht,hz⟩:=I.tuple hq;refine assign_Tuple_tuple (I.ok.hd hc) ht (by simp[hn,<- hl,rv.length]) hst fun h' hx=>?_;have I1:Inv X pins σ H { s with heap:=h' }:=I.kept (t':=s.toks) fun b o e=>hx b o (cq (bE e)) e;exact h pins _ σ H xs _ Q I1 (by simpa using rv) hw
noncomputable def rZ(to ti:TE)(t:ahY):TG:=fun v σ H Q=>to σ H fun o H1=>ti σ H1 fun i H2=>t o i v H2 fun H3=>Q σ H3
theorem aaZ{o i:ag}{to ti:TE}{t:ahY}(ho:PE X o to)(hi:PE X i ti)(hs:akL X t)
  (ha:∀v,assign (.Subscript o i pos) X.env v=(do
   let ov <- eL [v] (a7 o X.env)
   let iv <- eL [v,ov] (a7 i X.env)
   jS pos
   eL [v,ov,iv] (setItem ov iv v)
   release [v,ov,iv] []):=by intro _;rfl):PG X (.Subscript o i pos) (rZ to ti t):=by
 intro pins s σ H v u Q I r h;rw[ha];refine ah (gm (nq (ho pins s σ H _ I h) fun ov s1 mF=>?_));obtain⟨x,H1,I1,r1,q1⟩:=mF;refine ah (gm (nq (hi pins s1 σ H1 _ I1 q1) fun iv s2 mF=>?_));obtain⟨y,H2,I2,r2,q2⟩:=mF;refine ah (wpAny_standAt (ah (gm (nq (hs pins s2 σ H2 x y v ov iv u _ I2 r1 r2 r q2) fun _ s3 mF=>?_))));obtain⟨H3,I3,q3⟩:=mF;exact wpAny_release ⟨σ,H3,I3,q3⟩
noncomputable def akN(te:TE)(g:TG):TS:=fun D σ H=>te σ H fun x H1=>g x σ H1 D.nx
theorem Ub{tg e:ag}{te:TE}{g:TG}(he:PE X e te)(hg:PG X tg g)(hs:m8 [tg] e pos.line X.env=pure false:=by rfl)(hw:m9 [tg] e X.env=pure none:=by rfl)
  (h1:(fx [tg] X.env).map (·.2)=[assign tg X.env]:=by rfl):PS X (.Assign [tg] e pos) (akN te g):=by
 intro pins s σ H D I h;refine wpAny_Assign_stores (nq (he pins s σ H _ I h) fun v s1 ⟨x,H1,I1,r1,q1⟩=>?_) hs hw;rw[h1];exact nq (hg pins s1 σ H1 x v _ I1 r1 q1) fun _ s2 q=>q
theorem KZ{i:Nat}{x:Str}{e:ag}{te:TE}{pos':Pos}(hN:X.N.Nodup)(hi:X.N[i]?=some x)(hx:Loc X.env.scope x)(he:PE X e te)(hs:dC e (some (.Name x pos')) pos.line X.env=pure false:=by rfl)(hf:X.fn x=true∨X.env.scope.names.lookup x=some .local:=by first|exact .inl rfl|exact .inr rfl|assumption) :
  PS X (.Assign [.Name x pos'] e pos) (akN te (agR i)):=by
 intro pins s σ H D I h;refine wpAny_Assign_Name (nq (he pins s σ H _ I h) fun v s1 ⟨y,H1,I1,r1,q1⟩=>?_) hs;exact Qg I1 hN hi hx r1 (fun s2 I2=>⟨_,H1,I2,q1⟩) hf
end
section
variable{X:Cx}{pos:Pos}
end
structure It where
 go:Nat->Hp->Prop
 yld:Nat->Hp->V->Hp->Prop
 stop:Nat->Hp->Prop
noncomputable def tQ(X:Cx)(pins:List (ae×Obj))(H:Hp)(b:ae):Prop :=
 H b=none/\b≠X.env.locals/\b∉X.fs/\(b∈X.ex∨X.s₀.heap.objs.size<=b)/\(∀x c,X.env.cells.lookup x=some c->c≠b)/\∀p∈X.pn++pins,p.1≠b
theorem Inv.Uc{X:Cx}{pins:List (ae×Obj)}{σ:St}{H H':Hp}{s:af}{b:ae}(I:Inv X pins σ H s)(hb:s.heap.objs.size<=b)(hn:H' b=none):tQ X pins H' b:=by
 refine⟨hn,kC (dn I.lt hb),I.anb hb,.inr (ck I.sz hb),fun x c e z=>?_,fun p hp z=>?_⟩
 ·obtain⟨v,q⟩:=I.cell x c e;exact absurd (dn q.lt (by rw[z];exact hb)) (eJ _)
 ·exact absurd (dn (bE (I.pin p hp).1) (by rw[z];exact hb)) (eJ _)
structure Turn (P:aE)(w:ay)(K:ai)(tg:ag)(J:It)(fp:List ae)(it:ae)(tn:Nat->aw->Prop):Prop where
  mem:it∈fp
  obj:∀i h,tn i h->∀b∈fp,∃o,h.get? b=some o/\∀v,o.data≠.cell v
  keep:∀i h h',tn i h->(∀b∈fp,∀o,h.get? b=some o->h'.get? b=some o)->tn i h'
  item:∀(X:Cx),X.prog=P->X.w=w->X.K=K->X.calm=true->∀(i:Nat) (pins:List (ae×Obj)) (s:af) (σ:St) (H:Hp) (E:aa->af->Prop),Inv X pins σ H s->(∀b∈fp,tQ X pins H b)->tn i s.heap->J.go i H ->
    az (ar P w) X.A (fy (.ref it)) (fun r s1=>∃u,r=some u /\
      az (ar P w) X.A (oS tg (.ref it) u) (fun _ s2=>∃x H',Inv X pins σ H' s2/\RelV x u/\J.yld i H x H'/\tn (i + 1) s2.heap/\∀b∈fp,H' b=none) E s1) E s
  done : ∀(X : Cx), X.prog = P -> X.w = w -> X.K = K -> X.calm = true -> ∀(i : Nat) (pins : List (ae × Obj)) (s : af) (σ : St) (H : Hp) (E : aa -> af -> Prop), Inv X pins σ H s -> (∀b ∈ fp, tQ X pins H b) -> tn i s.heap -> J.stop i H ->
    az (ar P w) X.A (fy (.ref it)) (fun r s1=>r=none/\Inv X pins σ H s1) E s
  self:∀(A:aT) (i:Nat) (s:af) (Q:aa->af->Prop) (E:aa->af->Prop),tn i s.heap->Q (.ref it) s->az (ar P w) A (lr (.ref it)) Q E s
noncomputable abbrev TI:=St->Hp->(It->Hp->Prop)->Prop
noncomputable def PIE(X:Cx)(pins:List (ae×Obj))(σ:St)(tg:ag)(R:It->Hp->Prop)(itv:aa)(s2:af):Prop :=
 ∃(it:ae) (fp:List ae) (tn:Nat->aw->Prop) (J:It) (H':Hp),itv=.ref it/\Inv X pins σ H' s2/\Turn X.prog X.w X.K tg J fp it tn/\tn 0 s2.heap/\(∀b∈fp,tQ X pins H' b)/\R J H'
noncomputable def PI(X:Cx)(tg iter:ag)(wi:TI):Prop :=
 ∀(pins:List (ae×Obj)) (s:af) (σ:St) (H:Hp) (R:It->Hp->Prop),Inv X pins σ H s->wi σ H R ->
  az (ar X.prog X.w) X.A (a7 iter X.env) (fun v s1=>az (ar X.prog X.w) X.A (lr v) (PIE X pins σ tg R) X.xe s1) X.xe s
theorem abb{M:Model}{A:aT}{E:aa->af->Prop}{s:af}{tg:ag}{it:ae}{u:aa}{o:Obj}{n:String}{vs:Array aa}{Q:Unit->af->Prop}(ho:s.heap.get? it=some o)(hc:o.cls=.type n)(hd:o.data=.fields vs)
    (hn:["enumerate","zip","dict_itemiterator","dict_reverseitemiterator","odict_iterator","itertools.zip_longest","itertools.pairwise"].contains n=false) (hQ:Q () s):az M A (oS tg (.ref it) u) Q E s:=by
  unfold oS;cases tg <;> first
    |exact a9 hQ
    | (cases u <;> first
        |exact a9 hQ
        | (refine ah (wpAny_load ho ?_)
           rw[hc,hd];show az M A (if (["enumerate","zip","dict_itemiterator","dict_reverseitemiterator","odict_iterator","itertools.zip_longest","itertools.pairwise"].contains n && vs[0]? == some (cy _))=true then _ else _) Q E s;rw[if_neg (by intro h;rw[hn,Bool.false_and]at h;cases h)];exact a9 hQ))
noncomputable def Itl(K:ai)(a:ae):It :=
 ⟨fun i H=>∃xs x,nu K H a xs/\xs[i]?=some x,fun i H x H'=>H'=H/\∀xs,nu K H a xs->xs[i]?=some x,fun i H=>∃xs,nu K H a xs/\xs.length<=i⟩
noncomputable def Itt(K:ai)(a:ae):It :=
 ⟨fun i H=>∃xs x,qF K H a xs/\xs[i]?=some x,fun i H x H'=>H'=H/\∀xs,qF K H a xs->xs[i]?=some x,fun i H=>∃xs,qF K H a xs/\xs.length<=i⟩
noncomputable def Itr(lo:Int)(n:Nat):It:=⟨fun i _=>i < n,fun i H x H'=>H'=H/\x=.int (lo + i),fun i _=>n<=i⟩
theorem Yt{P:aE}{w:ay}{K:ai}{tg:ag}(a it:ae):Turn P w K tg (Itl K a) [it] it (fun i h=>h.IsListIter it a i) where
  mem:=by simp
  obj:=fun i h st b hb=>by
    have e:b=it:=by simpa using hb
    subst e;obtain⟨o,e,c,d⟩:=st;exact⟨o,e,fun v z=>by rw[d]at z;cases z⟩
  keep:=fun i h h' st k=>st.at fun o e=>k it (by simp) o e
  item:=by intro X hP hw hK hc i pins s σ H E I hf st hg;subst hP hw hK;obtain⟨xs,x,hq,hx⟩:=hg;obtain⟨its,rv,p,hz⟩:=I.list hq;obtain⟨u,hu,ru⟩:=rv.get hx;obtain⟨f0,f1,f2,f3,f4,f5⟩:=hf it (by simp);refine wpAny_pyNext_list_item st p.isList (x:=u) (by simpa using hu) fun h' st' sb=>?_;have I1:Inv X pins σ H { s with heap:=h' }:=I.turned (t':=s.toks) (fun b o hb e=>(sb.2 b hb).trans e) f0 f1 f3 f4 f5;obtain⟨o,e,c,d⟩:=id st';exact⟨u,rfl,abb (s:={ s with heap:=h' }) e c d (by decide) ⟨x,H,I1,ru,⟨rfl,fun ys hy=>by rw[I.xG hy hq];exact hx⟩,st',fun b hb=>(hf b hb).1⟩⟩
  done := by
    intro X hP hw hK hc i pins s σ H E I hf st hg;subst hP hw hK;obtain⟨xs,hq,hx⟩:=hg;obtain⟨its,rv,p,hz⟩:=I.list hq;obtain⟨f0,f1,f2,f3,f4,f5⟩:=hf it (by simp);have hl:=rv.length;exact wpAny_pyNext_list_end (I.ok.hd hc) st p.isList (by simp;lia) fun h' eb=>⟨rfl,I.turned (t':=s.toks) (fun b o hb e=>eb b o hb e) f0 f1 f3 f4 f5⟩
  self:=fun _ _ _ _ _ st h=>wpAny_pyIter_listiter st h
theorem Ud{P:aE}{w:ay}{K:ai}{tg:ag}(a it:ae):Turn P w K tg (Itt K a) [it] it (fun i h=>h.IsTupleIter it a i) where
  mem:=by simp
  obj:=fun i h st b hb=>by
    have e:b=it:=by simpa using hb
    subst e;obtain⟨o,e,c,d⟩:=st;exact⟨o,e,fun v z=>by rw[d]at z;cases z⟩
  keep:=fun i h h' st k=>st.at fun o e=>k it (by simp) o e
  item:=by intro X hP hw hK hc i pins s σ H E I hf st hg;subst hP hw hK;obtain⟨xs,x,hq,hx⟩:=hg;obtain⟨its,rv,p,hz⟩:=I.tuple hq;obtain⟨u,hu,ru⟩:=rv.get hx;obtain⟨f0,f1,f2,f3,f4,f5⟩:=hf it (by simp);refine wpAny_pyNext_tuple_item st (show s.heap.IsTuple a its.toArray from p) (x:=u) (by simpa using hu) fun h' st' sb=>?_;have I1:Inv X pins σ H { s with heap:=h' }:=I.turned (t':=s.toks) (fun b o hb e=>(sb.2 b hb).trans e) f0 f1 f3 f4 f5;obtain⟨o,e,c,d⟩:=id st';exact⟨u,rfl,abb (s:={ s with heap:=h' }) e c d (by decide) ⟨x,H,I1,ru,⟨rfl,fun ys hy=>by rw[I.yK hy hq];exact hx⟩,st',fun b hb=>(hf b hb).1⟩⟩
  done := by
    intro X hP hw hK hc i pins s σ H E I hf st hg;subst hP hw hK;obtain⟨xs,hq,hx⟩:=hg;obtain⟨its,rv,p,hz⟩:=I.tuple hq;obtain⟨f0,f1,f2,f3,f4,f5⟩:=hf it (by simp);have hl:=rv.length;exact wpAny_pyNext_tuple_end (I.ok.hd hc) st (show s.heap.IsTuple a its.toArray from p) (by simp;lia) fun h' eb=>⟨rfl,I.turned (t':=s.toks) (fun b o hb e=>eb b o hb e) f0 f1 f3 f4 f5⟩
  self:=fun _ _ _ _ _ st h=>wpAny_pyIter_tupleiter st h
theorem Ue{P:aE}{w:ay}{K:ai}{tg:ag}(it:ae)(lo:Int)(n:Nat):Turn P w K tg (Itr lo n) [it] it (fun i h=>IsRangeIter h it (lo + (i:Nat) * 1) ((n:Int) - (i:Nat)) 1) where
  mem:=by simp
  obj:=fun i h st b hb=>by
    have e:b=it:=by simpa using hb
    subst e;exact⟨_,st,fun v z=>by
      have z':Data.fields _=Data.cell v:=z;cases z'⟩
  keep:=fun i h h' st k=>k it (by simp) _ st
  item:=by intro X hP hw hK hc i pins s σ H E I hf st hg;subst hP hw hK;obtain⟨f0,f1,f2,f3,f4,f5⟩:=hf it (by simp);have W:=kD.range (prog:=X.prog) (w:=X.w) (I.ok.hd hc) it lo 1 n;refine W.item i s _ _ hg st fun v h' tk hv st' kk=>?_;obtain⟨t,rfl⟩:=hv;have I1:Inv X pins σ H { s with heap:=h',toks:=tk }:=I.turned (fun b o hb e=>kk b o (by simpa using hb) e) f0 f1 f3 f4 f5;refine⟨_,rfl,abb (s:={ s with heap:=h',toks:=tk }) (n:="range_iterator") st' rfl rfl (by decide) ⟨.int (lo + i),H,I1,⟨t,?_⟩,⟨rfl,rfl⟩,st',fun b hb=>(hf b hb).1⟩⟩;rw[Int.mul_one]
  done := by
    intro X hP hw hK hc i pins s σ H E I hf st hg;subst hP hw hK;obtain⟨f0,f1,f2,f3,f4,f5⟩:=hf it (by simp);exact wpAny_pyNext_range_end (I.ok.hd hc) st (by have:n<=i:=hg;lia) fun h' eb=>⟨rfl,I.turned (t':=s.toks) (fun b o hb e=>eb b o hb e) f0 f1 f3 f4 f5⟩
  self:=fun _ _ _ _ _ st h=>wpAny_pyIter_rangeiter st h
section
variable{X:Cx}{tg:ag}
noncomputable def akP(K:ai)(tl:TE):TI:=fun σ H R=>tl σ H fun x H1=>∃a,x=.ref a/\(∃xs,nu K H1 a xs)/\R (Itl K a) H1
noncomputable def anm(K:ai)(tl:TE):TI:=fun σ H R=>tl σ H fun x H1=>∃a,x=.ref a/\(∃xs,qF K H1 a xs)/\R (Itt K a) H1
theorem Wj{l:ag}{tl:TE}(hl:PE X l tl):PI X tg l (akP X.K tl):=by
 intro pins s σ H R I h;refine nq (hl pins s σ H _ I h) fun v s1 mF=>?_;obtain⟨x,H1,I1,r1,q1⟩:=mF;obtain⟨a,e,⟨xs,hq⟩,q⟩:=q1;subst e;cases r1;obtain⟨its,rv,p,hz⟩:=I1.list hq;refine o3 p.isList ?_;refine⟨s1.heap.objs.size,[s1.heap.objs.size],_,_,H1,rfl,I1.kept (t':=s1.toks) fun b o e=>cm _ e,Yt a _,⟨_,cK _ rfl,rfl,rfl⟩,fun b hb=>?_,q⟩;have e:b=s1.heap.objs.size:=by simpa using hb
 subst e;exact I1.Uc (bj _) (I1.hok.fresh (bj _))
theorem abd{l:ag}{tl:TE}(hl:PE X l tl):PI X tg l (anm X.K tl):=by
 intro pins s σ H R I h;refine nq (hl pins s σ H _ I h) fun v s1 mF=>?_;obtain⟨x,H1,I1,r1,q1⟩:=mF;obtain⟨a,e,⟨xs,hq⟩,q⟩:=q1;subst e;cases r1;obtain⟨its,rv,p,hz⟩:=I1.tuple hq;refine o6 (show s1.heap.IsTuple a its.toArray from p) ?_;refine⟨s1.heap.objs.size,[s1.heap.objs.size],_,_,H1,rfl,I1.kept (t':=s1.toks) fun b o e=>cm _ e,Ud a _,⟨_,cK _ rfl,rfl,rfl⟩,fun b hb=>?_,q⟩;have e:b=s1.heap.objs.size:=by simpa using hb
 subst e;exact I1.Uc (bj _) (I1.hok.fresh (bj _))
theorem abe{pins:List (ae×Obj)}{σ:St}{H:Hp}{s:af}{R:It->Hp->Prop}{E:aa->af->Prop}{lo hi:Int}{t u v:Tok}{tk:Nat}(I:Inv X pins σ H s)(h1:-(2 ^ 62)<=lo)(h2:lo < 2 ^ 62)(h3:-(2 ^ 62)<=hi)(h4:hi < 2 ^ 62)
  (q:R (Itr lo (hi - lo).toNat) H):az (ar X.prog X.w) X.A (lr (.ref s.heap.objs.size)) (PIE X pins σ tg R) E { s with heap:=s.heap.push { cls:=.type "range",data:=.fields #[.int lo t,.int hi u,.int 1 v] },toks:=tk }:=by
 refine wpAny_pyIter_range (IsRange.new ..) (small_one h1 h2 h3 h4) ?_;have I1:Inv X pins σ H { s with heap:=s.heap.push { cls:=.type "range",data:=.fields #[.int lo t,.int hi u,.int 1 v] },toks:=tk }:=I.kept fun b o e=>cm _ e;refine⟨(s.heap.push { cls:=.type "range",data:=.fields #[.int lo t,.int hi u,.int 1 v] }).objs.size,[(s.heap.push { cls:=.type "range",data:=.fields #[.int lo t,.int hi u,.int 1 v] }).objs.size],_,_,H,rfl,
  I1.kept (t':=tk) fun b o e=>cm _ e,Ue _ lo (hi - lo).toNat,?_,fun b hb=>?_,q⟩
 ·have e1:lo + ((0:Nat):Int) * 1=lo:=by simp
  have e2:(((hi - lo).toNat:Nat):Int) - ((0:Nat):Int)=cS.Range.rangeSize lo hi 1:=by rw[rangeSize_one];split <;> lia
  show IsRangeIter _ _ (lo + ((0:Nat):Int) * 1) ((((hi - lo).toNat:Nat):Int) - ((0:Nat):Int)) 1;rw[e1,e2];exact cK _ rfl
 ·have e:b=(s.heap.push { cls:=.type "range",data:=.fields #[.int lo t,.int hi u,.int 1 v] }).objs.size:=by simpa using hb
  subst e;exact I1.Uc (bj _) (I1.hok.fresh (bj _))
noncomputable def akQ(ta:TA):TI:=fun σ H R=>ta σ H fun vs H1=>∃j:Int,vs=[.int j]/\-(2 ^ 62)<=j/\j < 2 ^ 62/\R (Itr 0 j.toNat) H1
theorem Jx{a:ag}{ta:TA}{p pos:Pos}(hg:Gl X "range") (hm:X.mg "range"=none) (ha:PA X [a] ta) (hs:a8 [a] X.env=[(false,a7 a X.env)]:=by rfl):PI X tg (.Call (.Name "range" p) [a] [] pos) (akQ ta):=by
 intro pins s σ H R I h;refine Call_ (zO I hg hm boot_range (o7 (nq (ha pos pins s σ H _ I h) fun us s1 ⟨vs,H1,I1,r1,q1⟩=>?_) hs rfl));obtain⟨j,e,q1,q2,q⟩:=q1;subst e;cases r1 with
 |cons r rr =>
  cases rr;obtain⟨t,rfl⟩:=r;exact call_range_1 (abe I1 (by lia) (by lia) q1 q2 (by simpa using q))
noncomputable def ano(wi:TI)(g:TG)(tb:TS):TS:=fun D σ H=>wi σ H fun J H1=>∃W:Nat->Nat->St->Hp->Prop,(∃m,W 0 m σ H1)/\∀i m σ H,W i m σ H ->
 (J.stop i H/\D.nx σ H)∨(J.go i H/\∃N:St->Hp->Prop,(∀σ' H',N σ' H'->∃m',m' < m/\W (i + 1) m' σ' H')/\∀x H',J.yld i H x H'->g x σ H' fun σ2 H2=>tb { D with nx:=N,ct:=N,bk:=D.nx } σ2 H2)
noncomputable def Ck(fp:List ae)(h:aw):List (ae×Obj):=fp.filterMap fun b=>(h.get? b).map fun o=>(b,o)
theorem vd{fp:List ae}{h:aw}{b:ae}{o:Obj}(hb:b∈fp)(e:h.get? b=some o):(b,o)∈Ck fp h:=jI.mpr ⟨b,hb,by rw[e];rfl⟩
theorem Yu{fp:List ae}{h:aw}{p:ae×Obj}(hp:p∈Ck fp h):p.1∈fp/\h.get? p.1=some p.2:=by
 obtain⟨b,hb,e⟩:=jI.mp hp;cases q:h.get? b with
 |none=>rw[q]at e;cases e
 |some o =>
  rw[q]at e;have e':(b,o)=p:=dk e;subst e';exact⟨hb,q⟩
theorem Inv.pinned{pins:List (ae×Obj)}{σ:St}{H:Hp}{s:af}{fp:List ae}(I:Inv X pins σ H s)(hf:∀b∈fp,tQ X pins H b)(ho:∀b∈fp,∃o,s.heap.get? b=some o/\∀v,o.data≠.cell v):Inv X (pins++Ck fp s.heap) σ H s :=
 I.KR fun p hp=>(dA.mp hp).elim (fun z=>I.pin p (f7 _ z)) fun z=>by obtain⟨hb,e⟩:=Yu z;obtain⟨f0,f1,f2,_⟩:=hf p.1 hb;obtain⟨o,e',d⟩:=ho p.1 hb;rw[e]at e';cases e';exact⟨e,f0,f1,f2,d⟩
theorem Inv.Ao{pins pl:List (ae×Obj)}{σ:St}{H:Hp}{s:af}(I:Inv X (pins++pl) σ H s):Inv X pins σ H s:=I.KR fun p hp=>I.pin p (f7 _ (oQ _ hp))
theorem Fx{iter:ag}{body:List aS}{wi:TI}{g:TG}{tb:TS}{pos:Pos}(hp:ls (ar X.prog X.w) X.A X.env X.xe)(hc:X.calm=true)(hi:PI X tg iter wi)(hg:PG X tg g)(hb:Qh X body tb)
  (hs:∀x,ir iter X.env x=pure x:=by intro _;rfl):PS X (.For tg iter body [] pos) (ano wi g tb):=by
 intro pins s σ H D I h;refine wpAny_For (nq (hi pins s σ H _ I h) fun v s1 h1=>nq h1 fun itv s2 h2=>?_) hs;obtain⟨it,fp,tn,J,H2,e,I2,T,st2,f2,W,⟨m0,w0⟩,turn⟩:=h2;subst e;have stat:∀{H':Hp},(∀b∈fp,H' b=none)->∀b∈fp,tQ X pins H' b:=fun hn b hb=>⟨hn b hb,(f2 b hb).2⟩
 refine codeAny_forLoop_any (fun n s'=>∃i σ' H',Inv X pins σ' H' s'/\tn i s'.heap/\(∀b∈fp,H' b=none)/\W i n σ' H') ?_ m0 ⟨0,σ,H2,I2,st2,fun b hb=>(f2 b hb).1,w0⟩;rintro n s3 ⟨i,σ3,H3,I3,st3,fr3,w3⟩;rcases turn i n σ3 H3 w3 with ⟨stop,qn⟩|⟨go,N,hN,step⟩
 ·refine m_ hp (nq (T.done X rfl rfl rfl hc i pins s3 σ3 H3 X.xe I3 (stat fr3) st3 stop) fun r s4 mF=>?_);obtain⟨hr,I4⟩:=mF;subst hr;exact sF ⟨σ3,H3,I4,qn⟩
 ·refine m_ hp (nq (T.item X rfl rfl rfl hc i pins s3 σ3 H3 X.xe I3 (stat fr3) st3 go) fun r s4 mF=>?_);obtain⟨u,hr,h4⟩:=mF;subst hr;refine m_ hp (nq h4 fun _ s5 mF=>?_);obtain⟨x,H5,I5,r5,y5,st5,fr5⟩:=mF;have I5':=I5.pinned (stat fr5) (T.obj _ _ st5);refine m_ hp (nq (hg _ s5 σ3 H5 x u _ I5' r5 (step x H5 y5)) fun _ s6 mF=>?_);obtain⟨σ6,H6,I6,q6⟩:=mF;refine m_ hp (nq (hb _ s6 σ6 H6 _ I6 q6) fun f s7 q7=>?_);have again:∀{σ7:St}{H7:Hp},Inv X (pins++Ck fp s5.heap) σ7 H7 s7->N σ7 H7->∃m,m < n/\∃i σ' H',Inv X pins σ' H' s7/\tn i s7.heap/\(∀b∈fp,H' b=none)/\W i m σ' H':=fun {σ7 H7} I7 n7=>by obtain⟨m',hm,w7⟩:=hN σ7 H7 n7;refine⟨m',hm,i + 1,σ7,H7,I7.Ao,T.keep _ _ _ st5 fun b hb o e=>(I7.pin (b,o) (f7 _ (f7 _ (vd hb e)))).1,fun b hb=>?_,w7⟩;obtain⟨o,e,d⟩:=T.obj _ _ st5 b hb;exact(I7.pin (b,o) (f7 _ (f7 _ (vd hb e)))).2.1
  cases f with
  |next=>obtain⟨σ7,H7,I7,n7⟩:=q7;exact again I7 n7
  |cont=>obtain⟨σ7,H7,I7,n7⟩:=q7;exact again I7 n7
  |brk=>obtain⟨σ7,H7,I7,q7⟩:=q7;exact⟨σ7,H7,I7.Ao,q7⟩
  |ret v=>obtain⟨x7,σ7,H7,I7,r7,q7⟩:=q7;exact⟨x7,σ7,H7,I7.Ao,r7,q7⟩
end
theorem abf{K:ai}{a:ae}{xs:List V}{g:TG}{tb:TS}{D:Ends}{σ:St}{H:Hp}(Pv:Nat->St->Hp->Prop)(h0:Pv 0 σ H)(hl:∀i σ H,i<=xs.length->Pv i σ H->nu K H a xs)
  (hs:∀i x σ H,xs[i]?=some x->Pv i σ H->g x σ H fun σ2 H2=>tb { D with nx:=Pv (i + 1),ct:=Pv (i + 1),bk:=D.nx } σ2 H2) (hd:∀σ H,Pv xs.length σ H->D.nx σ H) :
  ∃W:Nat->Nat->St->Hp->Prop,(∃m,W 0 m σ H)/\∀i m σ H,W i m σ H ->
   ((Itl K a).stop i H/\D.nx σ H)∨((Itl K a).go i H/\∃N:St->Hp->Prop,(∀σ' H',N σ' H'->∃m',m' < m/\W (i + 1) m' σ' H')/\∀x H',(Itl K a).yld i H x H'->g x σ H' fun σ2 H2=>tb { D with nx:=N,ct:=N,bk:=D.nx } σ2 H2):=by
 refine⟨fun i m σ H=>m=xs.length - i/\i<=xs.length/\Pv i σ H,⟨xs.length,by simp,eD _,h0⟩,?_⟩;rintro i m σ H ⟨rfl,hi,p⟩;have q:=hl i σ H hi p;by_cases hlt:i < xs.length
 ·refine .inr ⟨⟨xs,xs[i],q,by simp[hlt]⟩,Pv (i + 1),fun σ' H' p'=>⟨xs.length - (i + 1),by lia,rfl,hlt,p'⟩,fun x H' y=>?_⟩;obtain⟨e,y⟩:=y;subst e;exact hs i x σ _ (y xs q) p
 ·have e:i=xs.length:=by lia
  subst e;exact .inl ⟨⟨xs,q,bj _⟩,hd σ H p⟩
theorem aeG{K:ai}{a:ae}{xs:List V}{g:TG}{tb:TS}{D:Ends}{σ:St}{H:Hp}(Pv:Nat->St->Hp->Prop)(h0:Pv 0 σ H)(hl:∀i σ H,i<=xs.length->Pv i σ H->qF K H a xs)
  (hs:∀i x σ H,xs[i]?=some x->Pv i σ H->g x σ H fun σ2 H2=>tb { D with nx:=Pv (i + 1),ct:=Pv (i + 1),bk:=D.nx } σ2 H2) (hd:∀σ H,Pv xs.length σ H->D.nx σ H) :
  ∃W:Nat->Nat->St->Hp->Prop,(∃m,W 0 m σ H)/\∀i m σ H,W i m σ H ->
   ((Itt K a).stop i H/\D.nx σ H)∨((Itt K a).go i H/\∃N:St->Hp->Prop,(∀σ' H',N σ' H'->∃m',m' < m/\W (i + 1) m' σ' H')/\∀x H',(Itt K a).yld i H x H'->g x σ H' fun σ2 H2=>tb { D with nx:=N,ct:=N,bk:=D.nx } σ2 H2):=by
 refine⟨fun i m σ H=>m=xs.length - i/\i<=xs.length/\Pv i σ H,⟨xs.length,by simp,eD _,h0⟩,?_⟩;rintro i m σ H ⟨rfl,hi,p⟩;have q:=hl i σ H hi p;by_cases hlt:i < xs.length
 ·refine .inr ⟨⟨xs,xs[i],q,by simp[hlt]⟩,Pv (i + 1),fun σ' H' p'=>⟨xs.length - (i + 1),by lia,rfl,hlt,p'⟩,fun x H' y=>?_⟩;obtain⟨e,y⟩:=y;subst e;exact hs i x σ _ (y xs q) p
 ·have e:i=xs.length:=by lia
  subst e;exact .inl ⟨⟨xs,q,bj _⟩,hd σ H p⟩
theorem Yv{lo:Int}{n:Nat}{g:TG}{tb:TS}{D:Ends}{σ:St}{H:Hp}(Pv:Nat->St->Hp->Prop)(h0:Pv 0 σ H)
  (hs:∀i σ H,i < n->Pv i σ H->g (.int (lo + i)) σ H fun σ2 H2=>tb { D with nx:=Pv (i + 1),ct:=Pv (i + 1),bk:=D.nx } σ2 H2) (hd:∀σ H,Pv n σ H->D.nx σ H) :
  ∃W:Nat->Nat->St->Hp->Prop,(∃m,W 0 m σ H)/\∀i m σ H,W i m σ H ->
   ((Itr lo n).stop i H/\D.nx σ H)∨((Itr lo n).go i H/\∃N:St->Hp->Prop,(∀σ' H',N σ' H'->∃m',m' < m/\W (i + 1) m' σ' H')/\∀x H',(Itr lo n).yld i H x H'->g x σ H' fun σ2 H2=>tb { D with nx:=N,ct:=N,bk:=D.nx } σ2 H2):=by
 refine⟨fun i m σ H=>m=n - i/\i<=n/\Pv i σ H,⟨n,by simp,eD _,h0⟩,?_⟩;rintro i m σ H ⟨rfl,hi,p⟩;by_cases hlt:i < n
 ·refine .inr ⟨hlt,Pv (i + 1),fun σ' H' p'=>⟨n - (i + 1),by lia,rfl,hlt,p'⟩,fun x H' y=>?_⟩;obtain⟨e,y⟩:=y;subst e y;exact hs i σ _ hlt p
 ·have e:i=n:=by lia
  subst e;exact .inl ⟨bj _,hd σ H p⟩
noncomputable abbrev R2:=V->V->Hp->VK->Prop
noncomputable def Ak(X:Cx)(f:aa->aa->Sem aa)(r:R2):Prop :=
 ∀(pins:List (ae×Obj)) (s:af) (σ:St) (H:Hp) (x y:V) (v u:aa) (Q:VK),Inv X pins σ H s->RelV x v->RelV y u->r x y H Q ->
  az (ar X.prog X.w) X.A (f v u) (EP X pins σ Q) X.xe s
noncomputable def qG(X:Cx)(f:aa)(r:List V->Hp->VK->Prop):Prop :=
 ∀(pins:List (ae×Obj)) (s:af) (σ:St) (H:Hp) (xs:List V) (us:List aa) (Q:VK),Inv X pins σ H s->Vals xs us->r xs H Q ->
  az (ar X.prog X.w) X.A (call f us) (EP X pins σ Q) X.xe s
noncomputable def tOp(r:R2)(ta tb:TE):TE:=fun σ H Q=>ta σ H fun x H1=>tb σ H1 fun y H2=>r x y H2 Q
noncomputable def rI(C:Int->Int->Prop)(g:Int->Int->V):R2:=fun x y H Q=>∃i j,x=.int i/\y=.int j/\C i j/\Q (g i j) H
noncomputable def rI0(g:Int->Int->V):R2:=fun x y H Q=>∃i j,x=.int i/\y=.int j/\Q (g i j) H
section
variable{X:Cx}{a b c:ag}{ta tb tc:TE}{pos:Pos}
theorem aia(ha:PE X a ta)(hb:PE X b tb){pins:List (ae×Obj)}{s:af}{σ:St}{H:Hp}{R:V->V->Hp->Prop}(I:Inv X pins σ H s)
  (h:ta σ H fun x H1=>tb σ H1 fun y H2=>R x y H2) {Q:aa->af->Prop}{f:aa->aa->Sem aa}
  (hf:∀v u s2 x y H2,Inv X pins σ H2 s2->RelV x v->RelV y u->R x y H2->az (ar X.prog X.w) X.A (f v u) Q X.xe s2) :
  az (ar X.prog X.w) X.A (a7 a X.env) (fun v s₁=>az (ar X.prog X.w) X.A (a7 b X.env) (fun u s₂=>az (ar X.prog X.w) X.A (f v u) Q X.xe s₂) X.xe s₁) X.xe s:=by
 refine nq (ha pins s σ H _ I h) fun v s1 mF=>?_;obtain⟨x,H1,I1,r1,q1⟩:=mF;refine nq (hb pins s1 σ H1 _ I1 q1) fun u s2 mF=>?_;obtain⟨y,H2,I2,r2,q2⟩:=mF;exact hf v u s2 x y H2 I2 r1 r2 q2
theorem abg{op:Operator}{r:R2}(ho:Ak X (fE op) r)(ha:PE X a ta)(hb:PE X b tb):PE X (.BinOp a op b pos) (tOp r ta tb):=by intro pins s σ H Q I h;exact wpAny_BinOp (aia ha hb I h fun v u s2 x y H2 I2 rx ry q=>ho pins s2 σ H2 x y v u Q I2 rx ry q)
theorem opI{f:aa->aa->Sem aa}{C:Int->Int->Prop}{g:Int->Int->Int}
  (rule:∀(i j:Int) (t u:Tok) (s:af) (Q:aa->af->Prop) (E:aa->af->Prop),C i j->Q (.int (g i j) s.toks) { s with toks:=s.toks + 1 }->az (ar X.prog X.w) X.A (f (.int i t) (.int j u)) Q E s) :
  Ak X f (rI C fun i j=>.int (g i j)):=by
 intro pins s σ H x y v u Q I rx ry h;obtain⟨i,j,rfl,rfl,hc,q⟩:=h;obtain⟨t,rfl⟩:=rx;obtain⟨t',rfl⟩:=ry;exact rule i j t t' s _ _ hc ⟨.int (g i j),H,I.tok _,⟨_,rfl⟩,q⟩
theorem akR{f:aa->aa->Sem aa}{g:Int->Int->Int}
  (rule:∀(i j:Int) (t u:Tok) (s:af) (Q:aa->af->Prop) (E:aa->af->Prop),Q (.int (g i j) s.toks) { s with toks:=s.toks + 1 }->az (ar X.prog X.w) X.A (f (.int i t) (.int j u)) Q E s) :
  Ak X f (rI0 fun i j=>.int (g i j)):=by
 intro pins s σ H x y v u Q I rx ry h;obtain⟨i,j,rfl,rfl,q⟩:=h;obtain⟨t,rfl⟩:=rx;obtain⟨t',rfl⟩:=ry;exact rule i j t t' s _ _ ⟨.int (g i j),H,I.tok _,⟨_,rfl⟩,q⟩
theorem aib{f:aa->aa->Sem aa}{g:Int->Int->Bool}
  (rule:∀(i j:Int) (t u:Tok) (s:af) (Q:aa->af->Prop) (E:aa->af->Prop),Q (.bool (g i j)) s->az (ar X.prog X.w) X.A (f (.int i t) (.int j u)) Q E s) :
  Ak X f (rI0 fun i j=>.bl (g i j)):=by
 intro pins s σ H x y v u Q I rx ry h;obtain⟨i,j,rfl,rfl,q⟩:=h;obtain⟨t,rfl⟩:=rx;obtain⟨t',rfl⟩:=ry;exact rule i j t t' s _ _ ⟨.bl (g i j),H,I,rfl,q⟩
noncomputable def abh(i j:Int):Prop:=0<=j/\j<=1000000/\i.natAbs < 2 ^ 64
noncomputable def Ug(i j:Int):Prop:=(-(2 ^ 64) < i/\i < 2 ^ 64)∨(-(2 ^ 64) < j/\j < 2 ^ 64)
theorem Ug.ok{i j:Int}(h:Ug i j):IntMulOk i j:=by
 rcases h with ⟨h1,h2⟩|⟨h1,h2⟩
 ·exact .of_left (intBits_le_64 h1 h2)
 ·exact .of_right (intBits_le_64 h1 h2)
theorem aic:Ak X (fE .Add) (rI0 fun i j=>.int (i + j)):=akR fun _ _ _ _ _ _ _ q=>add_int q
theorem abj:Ak X (fE .Sub) (rI0 fun i j=>.int (i - j)):=akR fun _ _ _ _ _ _ _ q=>sub_int q
theorem aie:Ak X (fE .Mult) (rI Ug fun i j=>.int (i * j)):=opI fun _ _ _ _ _ _ _ hc q=>mul_int q hc.ok
theorem aif:Ak X (fE .Mod) (rI (fun _ j=>0 < j) fun i j=>.int (i % j)):=opI fun i j _ _ _ _ _ hc q=>by have h1:(0:Int) < j:=hc;exact mod_int' (by lia) (by rw[Int.fmod_eq_emod_of_nonneg i (by lia)];exact q)
theorem aii:Ak X (fE .Pow) (rI abh fun i j=>.int (i ^ j.toNat)):=opI fun _ _ _ _ _ _ _ hc q=>pow_int_small hc.1 hc.2.1 hc.2.2 q
end
section
variable{X:Cx}{a b c:ag}{ta tb tc:TE}{pos:Pos}
theorem akS:Ak X (iA .Lt) (rI0 fun i j=>.bl (decide (i < j))):=aib fun _ _ _ _ _ _ _ q=>lt_int q
theorem agT:Ak X (iA .Gt) (rI0 fun i j=>.bl (decide (j < i))):=aib fun _ _ _ _ _ _ _ q=>gt_int q
theorem akT:Ak X (iA .GtE) (rI0 fun i j=>.bl (decide (j<=i))):=aib fun _ _ _ _ _ _ _ q=>ge_int q
theorem Ak.or{f:aa->aa->Sem aa}{r r':R2}(h:Ak X f r)(h':Ak X f r'):Ak X f (fun x y H Q=>r x y H Q∨r' x y H Q):=by
 intro pins s σ H x y v u Q I rx ry q;rcases q with q|q
 ·exact h pins s σ H x y v u Q I rx ry q
 ·exact h' pins s σ H x y v u Q I rx ry q
theorem zP(b:ag){op:kF}(h:op≠.In:=by decide)(h2:op≠.NotIn:=by decide):kG op b=false:=by
 have e1:(op == kF.In)=false:=by cases op <;> first|rfl|exact absurd rfl h
 have e2:(op == kF.NotIn)=false:=by cases op <;> first|rfl|exact absurd rfl h2
 cases b <;> simp[kG,e1,e2]
theorem aeH{op:kF}{r:R2}(ho:Ak X (iA op) r)(ha:PE X a ta)(hb:PE X b tb)(hm:kG op b=false):PE X (.Compare a [op] [b] pos) (tOp r ta tb):=by intro pins s σ H Q I h;exact wpAny_Compare1 (aia ha hb I h fun v u s2 x y H2 I2 rx ry q=>ho pins s2 σ H2 x y v u Q I2 rx ry q) hm
noncomputable def akU(t:TE):TT:=fun σ H Q=>t σ H fun x H'=>∃k,x=.bl k/\Q k H'
theorem aeI{op:kF}{r:R2}(ho:Ak X (iA op) r)(ha:PE X a ta)(hb:PE X b tb)(hm:kG op b=false):PT X (.Compare a [op] [b] pos) (akU (tOp r ta tb)):=by
 intro pins s σ H Q I h;refine wpAny_isTrue_Compare1 (nq (ha pins s σ H _ I h) fun v s1 ⟨x,H1,I1,r1,q1⟩=>nq (hb pins s1 σ H1 _ I1 q1) fun u s2 ⟨y,H2,I2,r2,q2⟩ =>
  nq (ho pins s2 σ H2 x y v u _ I2 r1 r2 q2) fun c s3 ⟨z,H3,I3,r3,k,e,q3⟩=>?_) hm
 subst e;cases r3;exact ll ⟨H3,I3,q3⟩
theorem Fy:(sizeLine:Nat) < 2 ^ 63:=by rw[e_];decide
theorem Wm{x:V}{us:List aa}(r:Vals [x] us):∃u,us=[u]/\RelV x u:=by
 cases r with
 |cons r1 r2=>cases r2;exact⟨_,rfl,r1⟩
theorem agU{x y:V}{us:List aa}(r:Vals [x,y] us):∃u w',us=[u,w']/\RelV x u/\RelV y w':=by
 cases r with
 |cons r1 r2 =>
  cases r2 with
  |cons r3 r4=>cases r4;exact⟨_,_,rfl,r1,r3⟩
theorem Yw:qG X (.type "int") (fun xs H Q=>(∃i,xs=[.int i]/\Q (.int i) H)∨∃k,xs=[.bl k]/\Q (.int (if k then 1 else 0)) H):=by
 intro pins s σ H xs us Q I r h;rcases h with ⟨i,rfl,q⟩|⟨k,rfl,q⟩
 ·obtain⟨u,rfl,t,rfl⟩:=Wm r;exact call_int_int ⟨.int i,H,I,⟨_,rfl⟩,q⟩
 ·obtain⟨u,rfl,r1⟩:=Wm r;cases r1;exact call_int_bool ⟨.int (if k then 1 else 0),H,I.tok _,⟨_,rfl⟩,q⟩
end
structure Uh (h:aw)(x dx C:ae)(mA:Str->Option aa):Prop where
 obj:h.get? x=some (iP C dx)
 ns:h.Ns1 dx mA
 ne:dx≠x
theorem Jy{h:aw}{dx:ae}{mA:Str->Option aa}(n:h.Ns1 dx mA):∃od,h.get? dx=some od/\∀name,o8 name od=some (mA name):=by
 obtain⟨o,es,ep,ho,hd,hk,_,hm⟩:=n;refine⟨o,ho,fun name=>?_⟩;have e:=hm name;unfold nsFind findBy at e;rw[<- Array.find?_toList]at e;unfold o8;rw[hd];dsimp only;split
 ·rename_i y q;rw[q]at e;exact congrArg some e
 ·rename_i q;rw[q]at e;have a:es.toList.any (·.refKey)=false:=by rw[List.any_eq_false];intro y hy;obtain⟨z,t,hkey⟩:=hk y (Array.mem_toList_iff.mp hy);simp[nc.refKey,hkey]
  have a':¬es.toList.any (·.refKey)=true:=by rw[a];exact sL
  rw[if_neg a'];exact congrArg some e
theorem Uh.look{h:aw}{x dx C:ae}{mA:Str->Option aa}(I:Uh h x dx C mA):∃od,PySem.W.InstAt h x (iP C dx) C (some od)/\∀name,o8 name od=some (mA name) :=
 let ⟨od,ho,hl⟩:=Jy I.ns
 ⟨od,⟨I.obj,rfl,rfl,ho⟩,hl⟩
section
variable{prog:aE}{w:ay}{A:aT}{E:aa->af->Prop}{s:af}{K:ai}{x dx C f:ae}{mA:Str->Option aa}{name:Str}{v:aa}
theorem aeJ{expr:Bool}{Q:aa->af->Prop}(X:K.In s.heap)(I:Uh s.heap x dx C mA)(hg:o9 K C name=true)(hh:sM K C=true)
  (ha:gp K (.ref C) name=some none) (hv:mA name=some v) (hv':PySem.W.handedIn v=true) (h:Q v { s with toks:=s.toks + 1 }) :
  az (ar prog w) A (getAttr (.ref x) name expr) Q E s:=by
 obtain⟨od,J,hl⟩:=I.look;exact PySem.W.get_value X J (sN hg).1 (PySem.W.findObj_own hh ha rfl (by rw[hl,hv])) hv' h
theorem abk{pl:Sem Bool}{Q:aa×List aa->af->Prop}(X:K.In s.heap)(I:Uh s.heap x dx C mA)(hg:o9 K C name=true)
  (hf:gp K (.ref C) name=some (some (.ref f))) (ht:sP K (.ref f)=true) (hv:mA name=none) (h:Q (.ref f,[.ref x]) s) :
  az (ar prog w) A (ng (.ref x) name pl) Q E s:=by
 obtain⟨od,J,hl⟩:=I.look;exact PySem.W.method_fn X J (sN hg).1 (sN hg).2 hf (beq_iff_eq.mp ht) (by show(o8 name od).map (·.isSome)=some false;rw[hl,hv];rfl) h
theorem aeK{ns:List Str}{Q:Unit->af->Prop}(X:K.In s.heap)(I:Uh s.heap x dx C mA)
  (hs:gp K (.ref C) "__setattr__"=some (some (.builtin "object.__setattr__"))) (hp:PySem.W.plainOver K C=true) (ht:sQ K C name=some none) (hh:sM K C=true)
  (hw:oI mA ns) (hsz:ns.length<=sizeLine)
  (h:∀h',Uh h' x dx C (fun y=>if y=name then some v else mA y)->dP dx s.heap h'->Q () { s with heap:=h',toks:=s.toks + 2 }) :
  az (ar prog w) A (setAttr (.ref x) name v) Q E s:=by
 obtain⟨od,J,hl⟩:=I.look;refine PySem.W.set_plain X J hs (PySem.W.osa_open (s:={ s with toks:=s.toks + 1 }) (r:=none) X J hp ht fun b=>?_);obtain⟨cd,hc,hd'⟩:=PySem.W.any_some hh;have hx:s.heap.get? x=some ⟨.ref C,some dx,.plain,#[]⟩:=I.obj;refine ah (a9 (ah (ah (wpAny_loadPart hx (ah (PySem.W.Looks.here (s:={ s with toks:=s.toks + 1 }) (PySem.W.looks_clsIn X hc) ?_))))));rw[hd'];refine a9 (a:=some dx) (ah (a9 (ah ?_)));refine wpAny_nsSet1 (s:={ s with toks:=s.toks + 1 }) I.ns fun h' hn2 hs2=>?_;obtain⟨oD,esD,epD,hoD,hdD,hcD⟩:=hn2.count (oI.cons name v hw);refine ah (wpAny_lookBehind hoD (by rw[hdD];exact pastItsLine_dict (ck hcD (by rw[bu];lia))) ?_);exact a9 (h _ ⟨(hs2.2 _ (br I.ne)).trans I.obj,hn2,I.ne⟩ hs2)
theorem abl{R:Result->af->Prop}{vs:List aa}{kw:List (Str×aa)}(X:K.In s.heap)(hm:sR K C=true)
  (hi:gp K (.ref C) "__init__"=some (some (.ref f))) (hf:PySem.W.typeIn K (.ref f)=some (.type "function"))
  (h:fg (ar prog w) (A.under (.builtin "type.__call__" ⟨.ref C::vs,kw⟩)) (.call (.ref f) ⟨.ref (s.heap.objs.size + 1)::vs,kw⟩) (PySem.W.InitBack (s.heap.objs.size + 1) R)
   { s with heap:=(s.heap.push iE).push (iP C s.heap.objs.size) }) :
  fg (ar prog w) A (.call (.ref C) ⟨vs,kw⟩) R s:=by
 obtain⟨hh,g,d,t,os⟩:=s;exact PySem.W.make_core (PySem.W.makes_of X hm) (PySem.W.looks_findIn X hi) (fun self=>PySem.W.bind_fn X self hf) (.inl rfl) h
theorem Yx{R:Result->af->Prop}(X:K.In s.heap)(hm:sR K C=true)
  (hi:gp K (.ref C) "__init__"=some (some (.builtin "object.__init__")))
  (hb:∀self,PySem.W.Looks (ar prog w) s.heap (bindSpecial (.builtin "object.__init__") self) (.builtin "object.__init__",[self]))
  (h:fg (ar prog w) (A.under (.builtin "type.__call__" ⟨[.ref C],[]⟩)) (.call (.builtin "object.__init__") ⟨[.ref (s.heap.objs.size + 1)],[]⟩) (PySem.W.InitBack (s.heap.objs.size + 1) R)
   { s with heap:=(s.heap.push iE).push (iP C s.heap.objs.size) }) :
  fg (ar prog w) A (.call (.ref C) ⟨[],[]⟩) R s:=by
 obtain⟨hh,g,d,t,os⟩:=s;exact PySem.W.make_core (PySem.W.makes_of X hm) (PySem.W.looks_findIn X hi) hb (.inr ⟨rfl,rfl⟩) h
end
noncomputable def vf(f:Str)(v:V):List (Str×V)->List (Str×V)
 | []=>[(f,v)]
 | (g,x)::r=>if g=f then (g,v)::r else (g,x)::vf f v r
theorem Dt(f g:Str)(v:V):∀fs:List (Str×V),(vf f v fs).lookup g=if g=f then some v else fs.lookup g
 | []=>by
  show bX g [(f,v)]=_;by_cases h:g=f
  ·have hb:(g == f)=true:=beq_iff_eq.mpr h;simp only[bX,hb,if_pos h]
  ·have hb:(g == f)=false:=beq_eq_false_iff_ne.mpr h;simp only[bX,hb,if_neg h]
 | (k,x)::r=>by
  have ih:=Dt f g v r;rw[show vf f v ((k,x)::r)=(if k=f then (k,v)::r else (k,x)::vf f v r) from rfl];by_cases hk:k=f
  ·rw[if_pos hk];by_cases h:g=k
   ·have hb:(g == k)=true:=beq_iff_eq.mpr h;simp only[bX,hb,if_pos (h.trans hk)]
   ·have hb:(g == k)=false:=beq_eq_false_iff_ne.mpr h;simp only[bX,hb,if_neg (fun e:g=f=>h (e.trans hk.symm))]
  ·rw[if_neg hk];by_cases h:g=k
   ·have hb:(g == k)=true:=beq_iff_eq.mpr h;simp only[bX,hb,if_neg (fun e:g=f=>hk (h.symm.trans e))]
   ·have hb:(g == k)=false:=beq_eq_false_iff_ne.mpr h;simp only[bX,hb];exact ih
theorem Cm(f:Str)(v:V):∀fs:List (Str×V),f∈(vf f v fs).map (·.1)/\∀g,g∈fs.map (·.1)->g∈(vf f v fs).map (·.1)
 | []=>⟨by simp[vf],fun g h=>by simp at h⟩
 | (k,x)::r=>by
  obtain⟨i1,i2⟩:=Cm f v r;rw[show vf f v ((k,x)::r)=(if k=f then (k,v)::r else (k,x)::vf f v r) from rfl];by_cases hk:k=f
  ·rw[if_pos hk];subst hk;exact⟨by simp,fun g h=>by simpa using h⟩
  ·rw[if_neg hk];refine⟨?_,fun g h=>?_⟩
   ·rw[c6];exact el _ i1
   ·rw[c6]at h ⊢;rcases bq.mp h with e|e
    ·exact bq.mpr (.inl e)
    ·exact el _ (i2 g e)
theorem Du(f:Str)(v:V):∀fs:List (Str×V),(vf f v fs).length<=fs.length + 1
 | []=>by simp[vf]
 | (k,x)::r=>by
  have ih:=Du f v r;rw[show vf f v ((k,x)::r)=(if k=f then (k,v)::r else (k,x)::vf f v r) from rfl];by_cases hk:k=f
  ·rw[if_pos hk,bu,bu];lia
  ·rw[if_neg hk,bu,bu];lia
theorem Ii.some_of{v:V}{o:Option aa}(r:Ii (some v) o):∃u,o=some u/\RelV v u:=by
 cases o with
 |none=>exact(show False from r).elim
 |some u=>exact⟨u,rfl,r⟩
theorem Ii.none_of{o:Option aa}(r:Ii none o):o=none:=by
 cases o with
 |none=>rfl
 |some u=>exact(show False from r).elim
theorem Yy{v:V}{u:aa}(r:RelV v u):PySem.W.handedIn u=true:=by
 cases v with
 |non=>cases (show u=aa.none from r);rfl
 |bl b=>cases (show u=aa.bool b from r);rfl
 |int i=>obtain⟨t,e⟩:=(show ∃t,u=aa.int i t from r);cases e;rfl
 |str x=>obtain⟨t,e⟩:=(show ∃t,u=aa.str x t from r);cases e;rfl
 |byt b=>obtain⟨t,e⟩:=(show ∃t,u=aa.bytes b t from r);cases e;rfl
 |flt b=>obtain⟨t,e⟩:=(show ∃t,u=aa.float b t from r);cases e;rfl
 |ref a=>cases (show u=aa.ref a from r);rfl
 |ty n=>cases (show u=aa.type n from r);rfl
section
variable{P:aE}{w:ay}{H H':Hp}{h h':aw}{a C dx:ae}{fs fs':List (Str×V)}
theorem Ew(hok:Cj P w H h)(e:H a=some (.ins C dx fs)):∃mA,Uh h a dx C mA/\(∀f,Ii (fs.lookup f) (mA f))/\oI mA (fs.map (·.1))/\fs.length<=1000/\H dx=some (.own a):=by
 obtain⟨d,z,ne,ob,mA,n,r,q⟩:=(show mV P w H h a (.ins C dx fs) from hok a _ e)
 exact⟨mA,⟨ob,n,ne⟩,r,q,z,d⟩
end
structure Cls (K:ai)(C:ae):Prop where
 pg:o9 K C Str.empty=true
 hd:sM K C=true
 po:PySem.W.plainOver K C=true
 sa:gp K (.ref C) "__setattr__"=some (some (.builtin "object.__setattr__"))
theorem Cls.get{K:ai}{C:ae}(c:Cls K C)(f:Str):o9 K C f=true:=c.pg
noncomputable def Cp(K:ai)(C:ae)(f:Str):Prop:=gp K (.ref C) f=some none
theorem Cp.taker{K:ai}{C:ae}{f:Str}(n:Cp K C f):sQ K C f=some none:=by unfold sQ;rw[show gp K (.ref C) f=some none from n];rfl
structure Con (K:ai)(C:ae)(f:Str)(v:V)(u:aa):Prop where
 at_:gp K (.ref C) f=some (some u)
 rel:RelV v u
 get:PySem.W.specialIn K u "__get__"=some none
 cp:PySem.W.copiedNames.contains f=false
structure Meth (K:ai)(C:ae)(m:Str)(f:ae):Prop where
 at_:gp K (.ref C) m=some (some (.ref f))
 fn:sP K (.ref f)=true
 kp:iF K (.ref f)=true
section
variable{X:Cx}{pins:List (ae×Obj)}{σ:St}{H:Hp}{s:af}{a C dx:ae}{fs:List (Str×V)}{f:Str}{v:V}{A:aT}{E:aa->af->Prop}
theorem Ui{b:Bool}{Q:aa->af->Prop}(I:Inv X pins σ H s)(e:H a=some (.ins C dx fs))(c:Cls X.K C)(n:Cp X.K C f)(l:fs.lookup f=some v)
  (h:∀u s',Inv X pins σ H s'->RelV v u->Q u s'):az (ar X.prog X.w) A (getAttr (.ref a) f b) Q E s:=by
 obtain⟨mA,O,r,_,_,_⟩:=Ew I.hok e;obtain⟨u,hu,ru⟩:=Ii.some_of (v:=v) (o:=mA f) (by rw[<- l];exact r f);exact aeJ I.xu O (c.get f) c.hd n hu (Yy ru) (h u _ (I.tok _) ru)
theorem Fz{m:Str}{g:ae}{pl:Sem Bool}{Q:aa×List aa->af->Prop}(I:Inv X pins σ H s)(e:H a=some (.ins C dx fs))(c:Cls X.K C)(k:Meth X.K C m g)(l:fs.lookup m=none)
  (h:Q (.ref g,[.ref a]) s):az (ar X.prog X.w) A (ng (.ref a) m pl) Q E s:=by
 obtain⟨mA,O,r,_,_,_⟩:=Ew I.hok e;have hn:mA m=none:=Ii.none_of (by rw[<- l];exact r m);exact abk I.xu O (c.get m) k.at_ k.fn hn h
theorem Uj{y:V}{u:aa}{Q:Unit->af->Prop}(I:Inv X pins σ H s)(e:H a=some (.ins C dx fs))(c:Cls X.K C)(n:Cp X.K C f)(hl:fs.length < 1000)(ry:RelV y u)
  (h:∀s',Inv X pins σ (upd H a (.ins C dx (vf f y fs))) s'->Q () s'):az (ar X.prog X.w) A (setAttr (.ref a) f u) Q E s:=by
 obtain⟨mA,O,r,wi,_,ho⟩:=Ew I.hok e;have hz:(fs.map (·.1)).length<=sizeLine:=by rw[b_,e_];lia
 refine aeK I.xu O c.sa c.po n.taker c.hd wi hz fun h' O' sb=>h _ ?_;have hd:∃o,h'.get? dx=some o:=let ⟨o,_,_,e',_⟩:=O'.ns;⟨o,e'⟩;refine I.write (x:=a) (e:=dx) (by rw[e];exact True.intro) (.inr ho) (fun b q hb z=>(sb.2 b hb).trans z) hd ?_;refine⟨by rw[aQ O.ne];exact ho,?_,O.ne,O'.obj,_,O'.ns,fun g=>?_,fun g hg=>?_⟩
 ·have:=Du f y fs;lia
 ·show Ii ((vf f y fs).lookup g) (if g=f then some u else mA g);rw[Dt];by_cases q:g=f
  ·rw[if_pos q,if_pos q];exact ry
  ·rw[if_neg q,if_neg q];exact r g
 ·by_cases q:g=f
  ·rw[q];exact(Cm f y fs).1
  ·refine(Cm f y fs).2 g (wi g fun z=>hg ?_);show(if g=f then some u else mA g)=none;rw[if_neg q];exact z
theorem Inv.made(I:Inv X pins σ H s):Inv X pins σ (upd (upd H s.heap.objs.size (.own (s.heap.objs.size + 1))) (s.heap.objs.size + 1) (.ins C s.heap.objs.size []))
  { s with heap:=(s.heap.push iE).push (iP C s.heap.objs.size) }:=by
 have e1:(s.heap.push iE).get? s.heap.objs.size=some iE:=cK s.heap rfl;have e2:((s.heap.push iE).push (iP C s.heap.objs.size)).get? (s.heap.objs.size + 1)=some (iP C s.heap.objs.size):=by have:=cK (s.heap.push iE) (o:=iP C s.heap.objs.size) rfl;rwa [gr]at this
 have e3:(s.heap.push iE).Ns s.heap.objs.size (fun _=>none):=⟨iE,#[],_,e1,rfl,(fun e he=>absurd he (by simp)),fun _=>rfl⟩
 have I1:=I.laid (a:=s.heap.objs.size) (o:=.own (s.heap.objs.size + 1)) (h':=s.heap.push iE) (t':=s.toks) (fun b u q=>cm _ q) (bj _) ⟨_,e1⟩;refine I1.laid (a:=s.heap.objs.size + 1) (o:=.ins C s.heap.objs.size []) (t':=s.toks) (fun b u q=>cm _ q) (o_ (gr _ _)) ?_;have ne:s.heap.objs.size≠s.heap.objs.size + 1:=cq (pd _);refine⟨by rw[aQ ne,aV],eD _,ne,e2,fun _=>none,(aw.Ns1.of_empty e3).at fun o q=>cm _ q,fun _=>True.intro,fun y hy=>absurd rfl hy⟩
theorem aeL{prog:aE}{w:ay}{env:Env}{e:ag}{f:Str}{pos:Pos}{s:af}{Q:aa->af->Prop}(hb:iX e f env (a7 e env)=a7 e env)
  (h:az (ar prog w) A (a7 e env) (fun o s₁=>az (ar prog w) A (getAttr o f true) Q E s₁) E s):az (ar prog w) A (a7 (.Attribute e f pos) env) Q E s :=
 Attribute_any_ h (by rw[arm_eval_Attribute,hb])
end
noncomputable def anq(K:ai)(ta:TE)(f:Str):TE:=fun σ H Q=>ta σ H fun x H1=>∃a C dx fs v,x=.ref a/\H1 a=some (.ins C dx fs)/\Cls K C/\Cp K C f/\fs.lookup f=some v/\Q v H1
noncomputable def anr(K:ai)(ta tv:TE)(f:Str):TS:=fun D σ H=>tv σ H fun y H1=>ta σ H1 fun x H2=>∃a C dx fs,x=.ref a/\H2 a=some (.ins C dx fs)/\Cls K C/\Cp K C f/\fs.length < 1000 /\
 D.nx σ (upd H2 a (.ins C dx (vf f y fs)))
section
variable{X:Cx}{o e value:ag}{f:Str}{pos pos' tpos:Pos}{ta tv:TE}
theorem aij(he:PE X e ta)(hb:iX e f X.env (a7 e X.env)=a7 e X.env):PE X (.Attribute e f pos) (anq X.K ta f):=by
 intro pins s σ H Q I h;refine aeL hb (nq (he pins s σ H _ I h) fun u s1 mF=>?_);obtain⟨x,H1,I1,rx,a,C,dx,fs,v,ex,ea,c,n,l,q⟩:=mF;subst ex;obtain rfl:u=aa.ref a:=rx;exact Ui I1 ea c n l fun u' s2 I2 ru=>⟨v,H1,I2,ru,q⟩
theorem abm(ha:PE X o ta)(hv:PE X value tv)(hs:dC value (some (.Attribute o f pos')) pos.line X.env=pure false):PS X (.Assign [.Attribute o f pos'] value pos) (anr X.K ta tv f):=by
 intro pins s σ H D I h;refine plainObj_wpAny_Assign_Attribute (nq (hv pins s σ H _ I h) fun u s1 ⟨y,H1,I1,ry,q⟩=>nq (ha pins s1 σ H1 _ I1 q) fun ov s2 ⟨x,H2,I2,rx,a,C,dx,fs,ex,ea,c,n,l,q2⟩=>?_) hs;subst ex;obtain rfl:ov=aa.ref a:=rx;exact Uj I2 ea c n l ry fun s3 I3=>⟨σ,_,I3,q2⟩
end
section
variable{X:Cx}{pins:List (ae×Obj)}{σ:St}{H:Hp}{s:af}{A:aT}{E:aa->af->Prop}{Q:aa->af->Prop}{c:aa}{b:Bool}
inductive FJ (K:ai) (H:Hp):V->aa->Prop where
 |non:FJ K H .non (.type "NoneType")
 |bl (x:Bool):FJ K H (.bl x) (.type "bool")
 |int (i:Int):FJ K H (.int i) (.type "int")
 |str (x:Str):FJ K H (.str x) (.type "str")
 |flt (x:UInt64):FJ K H (.flt x) (.type "float")
 |lst {a:ae}{xs:List V}(e:H a=some (.lst xs)):FJ K H (.ref a) (.type "list")
 |Jw {a:ae}{o:Obj}{xs:List V}(e:H a=some (.Jw o (.lst xs))):FJ K H (.ref a) (.type "list")
 |tup {a:ae}{xs:List V}(e:H a=some (.tup xs)):FJ K H (.ref a) (.type "tuple")
 |dK {a:ae}{kvs:List (PL×V)}(e:H a=some (.dK kvs)):FJ K H (.ref a) (.type "dict")
 |dT {a:ae}{kvs:List (List PL×V)}(e:H a=some (.dT kvs)):FJ K H (.ref a) (.type "dict")
 |ins {a C dx:ae}{fs:List (Str×V)}(e:H a=some (.ins C dx fs)) (cl:Cls K C) (ha:gp K (.ref C) "__class__"=some (some (.builtin "object.__class__")))
   (hn:PySem.W.specialIn K (.builtin "object.__class__") "__get__"=some (some (.builtin "getset_descriptor.__get__"))) (htk:PySem.W.takesIn K (.builtin "object.__class__")=some true)
   (hm:PySem.W.mroIn K C (.type "object")=some true):FJ K H (.ref a) (.ref C)
end
structure jP (k:Nat)(A:aT):Prop where
 hd:A.handled=none
 dp:A.depth + 3 * k + 5 < recursionLimit
 un:A.units + 16 * k + 200 < b9
theorem jP.mono{j k:Nat}{A:aT}(r:jP k A)(h:j<=k):jP j A:=⟨r.hd,by have:=r.dp;lia,by have:=r.un;lia⟩
theorem jP.deeper{k:Nat}{A:aT}(r:jP (k + 1) A)(env:Env):jP k (A.deeper env) :=
 ⟨r.hd,by have:=r.dp;show A.depth + 1 + 3 * k + 5 < _;lia,by have:=r.un;show A.units + 3 + 16 * k + 200 < _;lia⟩
theorem Uk{A:aT}{C:ae}{us:List aa}{kw:List (Str×aa)}:(A.under (.builtin "type.__call__" ⟨.ref C::us,kw⟩)).depth=A.depth + 1:=by
 first|rfl|simp[sT,Code.weight,Code.isCreation,Code.isGuard,Code.isCaller,Code.frames,s_,guardIds]
theorem Ul{A:aT}{C:ae}{us:List aa}{kw:List (Str×aa)}:(A.under (.builtin "type.__call__" ⟨.ref C::us,kw⟩)).units=A.units + 1:=by
 first|rfl|simp[sT,Code.cUnits,Code.frames,s_]
theorem jP.make{k:Nat}{A:aT}(r:jP (k + 1) A)(C:ae)(us:List aa)(kw:List (Str×aa)):jP k (A.under (.builtin "type.__call__" ⟨.ref C::us,kw⟩)) :=
 ⟨r.hd,by have:=r.dp;rw[Uk];lia,by have:=r.un;rw[Ul];lia⟩
theorem jP.depth{k:Nat}{A:aT}(r:jP k A):A.depth < recursionLimit:=by have:=r.dp;lia
noncomputable def abn:TA:=fun _ H Q=>Q [] H
noncomputable def Qj(ta:TE)(tr:TA):TA:=fun σ H Q=>ta σ H fun x H1=>tr σ H1 fun xs H2=>Q (x::xs) H2
section
variable{X:Cx}{e:ag}{es:List ag}{te:TE}{t:TA}{pos:Pos}
theorem kZ:PA X [] abn:=fun _ _ _ _ H Q I h=>Calls.spliced_nil ⟨[],H,I,.nil,h⟩
theorem eZ(ha:PE X e te)(hr:PA X es t)(hs:a8 (e::es) X.env=(false,a7 e X.env)::a8 es X.env:=by rfl):PA X (e::es) (Qj te t):=by
 intro pos pins s σ H Q I h;rw[hs];show az _ _ (spliced ((false,a7 e X.env)::cE pos (a8 es X.env))) _ _ s;refine Calls.spliced_cons (nq (ha pins s σ H _ I h) fun u s1 mF=>?_);obtain⟨x,H1,I1,r1,q1⟩:=mF;exact nq (hr pos pins s1 σ H1 _ I1 q1) fun us s2 ⟨xs,H2,I2,r2,q2⟩=>⟨x::xs,H2,I2,.cons r1 r2,q2⟩
noncomputable def ant(t:TA):TE:=fun σ H Q=>t σ H fun xs H1=>xs.length<=sizeLine/\∀p,H1 p=none->Q (.ref p) (upd H1 p (.tup xs))
noncomputable def akV(t:TA):TE:=fun σ H Q=>t σ H fun xs H1=>xs.length<=sizeLine/\∀p,H1 p=none->Q (.ref p) (upd H1 p (.lst xs))
theorem Um{x1}(h:PA X es t):PE X (.Tuple es x1 pos) (ant t):=by intro pins s σ H Q I hq;refine wpAny_Tuple_spliced (nq (h pos pins s σ H _ I hq) fun us s1 ⟨xs,H1,I1,r,z,q⟩=>⟨by rw[<- r.length];exact z,?_⟩);have hf:H1 s1.heap.objs.size=none:=I1.hok.fresh (bj _);refine⟨.ref s1.heap.objs.size,upd H1 s1.heap.objs.size (.tup xs),I1.laid (t':=s1.toks) (fun b u e=>cm _ e) (bj _) ?_,rfl,q _ hf⟩;exact⟨z,us,r,⟨_,cK _ rfl,rfl,_,rfl⟩⟩
theorem Cq(h:PA X es t):PE X (.List es pos) (akV t):=by intro pins s σ H Q I hq;refine wpAny_List_spliced (nq (h pos pins s σ H _ I hq) fun us s1 ⟨xs,H1,I1,r,z,q⟩=>⟨by rw[<- r.length];exact z,?_⟩);have hf:H1 s1.heap.objs.size=none:=I1.hok.fresh (bj _);refine⟨.ref s1.heap.objs.size,upd H1 s1.heap.objs.size (.lst xs),I1.laid (t':=s1.toks) (fun b u e=>cm _ e) (bj _) ?_,rfl,q _ hf⟩;exact⟨z,us,0,r,cK _ rfl⟩
end
noncomputable abbrev Sp:=List V->Hp->VK->XK->Prop
noncomputable abbrev Yz:=List Env->Hp->af->XK->aa->af->Prop
structure Qk (P:aE)(w:ay)(K:ai)(mg:Str->Option aa)(base:aw)(A:aT)(outer:List Env)(s:af)(H:Hp):Prop where
 frames:A.frames=some outer
 mod:Mod K mg base
 bs:∀b o,base.get? b=some o->s.heap.get? b=some o/\H b=none
 bsz:base.objs.size<=s.heap.objs.size
 DR:s.heap.FunFrames base outer
 frf:∀b∈Al outer,H b=none
 hok:Cj P w H s.heap
 bare:iS s.gens
noncomputable def CE(outer:List Env)(P:aE)(w:ay)(H:Hp)(s:af)(Q:VK)(u:aa)(s':af):Prop :=
 ∃v H',s'.os=s.os/\iS s'.gens/\Un (Al outer) [] H H' s.heap s'.heap/\Cj P w H' s'.heap/\RelV v u/\Q v H'
noncomputable def CR(CX:Yz)(outer:List Env)(P:aE)(w:ay)(H:Hp)(s:af)(Q:VK)(E:XK)(r:Result)(s':af):Prop :=
 match r with
 | .ok (.ret u)=>CE outer P w H s Q u s'
 | .ok _=>False
 | .error e=>CX outer H s E e s'
structure nD (P:aE)(w:ay)(K:ai)(mg:Str->Option aa)(base:aw)(CX:Yz)(k:Nat)(f:ae)(fd:cz)(ps:List Str)(sp:Sp):Prop where
 len:∀vs H Q E,sp vs H Q E->vs.length=ps.length
 run:∀(A:aT) (outer:List Env) (s:af) (H:Hp) (args:Args) (us:List aa) (vs:List V) (Q:VK) (E:XK),jP k A->Qk P w K mg base A outer s H->i0 s fd args (ps.zip us)->Vals vs us->sp vs H Q E ->
  fg (ar P w) A (.call (.ref f) args) (CR CX outer P w H s Q E) s
theorem nD.mono{P:aE}{w:ay}{K:ai}{mg:Str->Option aa}{base:aw}{CX:Yz}{j k:Nat}{f:ae}{fd:cz}{ps:List Str}{sp:Sp}(F:nD P w K mg base CX j f fd ps sp)(h:j<=k) :
  nD P w K mg base CX k f fd ps sp:=⟨F.len,fun A outer s H args us vs Q E hr=>F.run A outer s H args us vs Q E (hr.mono h)⟩
theorem nD.imp{P:aE}{w:ay}{K:ai}{mg:Str->Option aa}{base:aw}{CX:Yz}{k:Nat}{f:ae}{fd:cz}{ps:List Str}{sp sp':Sp}(F:nD P w K mg base CX k f fd ps sp)
  (h:∀vs H Q E,sp' vs H Q E->sp vs H Q E):nD P w K mg base CX k f fd ps sp' :=
 ⟨fun vs H Q E q=>F.len vs H Q E (h _ _ _ _ q),fun A outer s H args us vs Q E hr he hb hv hs=>F.run A outer s H args us vs Q E hr he hb hv (h _ _ _ _ hs)⟩
theorem Qk.make{P:aE}{w:ay}{K:ai}{mg:Str->Option aa}{base:aw}{A:aT}{outer:List Env}{s:af}{H:Hp}(e:Qk P w K mg base A outer s H)(C:ae)(us:List aa)(kw:List (Str×aa)) :
  Qk P w K mg base (A.under (.builtin "type.__call__" ⟨.ref C::us,kw⟩)) outer s H:=⟨by first|exact e.frames|(simpa[sT,Code.envs,s_,pushEnvs] using e.frames),e.mod,e.bs,e.bsz,e.DR,e.frf,e.hok,e.bare⟩
section
variable{X:Cx}{pins:List (ae×Obj)}{σ:St}{H:Hp}{s s':af}
theorem Inv.env0(I:Inv X pins σ H s):Qk X.prog X.w X.K X.mg X.base X.A X.stack s H :=
 ⟨I.ok.frames,I.ok.mod,I.bs,ck I.ok.bsz I.sz,I.stack,I.KQ,I.hok,I.bare⟩
theorem Inv.after{Q:VK}{u:aa}(I:Inv X pins σ H s)(h:CE X.stack X.prog X.w H s Q u s'):EP X pins σ Q u s':=by obtain⟨v,H',os,bare,un,hok,r,q⟩:=h;obtain⟨hh,g,d,t,os'⟩:=s';obtain rfl:os'=s.os:=os;exact⟨v,H',I.call (h':=hh) (g':=g) (d':=d) (t':=t) (ch:=[]) un hok bare (fun b z=>absurd z (by simp)),r,q⟩
end
noncomputable def akW(C:ae)(sp:Sp)(dvs:List V)(E:XK)(t:TA):TE:=fun σ H Q=>t σ H fun vs H1=>∀x dx,H1 x=none->H1 dx=none->dx≠x ->
 sp (.ref x::(vs++dvs)) (upd (upd H1 dx (.own x)) x (.ins C dx [])) (fun v H2=>v=.non/\Q (.ref x) H2) E
noncomputable def Binds(K:ai)(fd:cz)(ps:List Str)(ds:List aa):Prop :=
 ∀(s:af) (us:List aa),K.In s.heap->(us++ds).length=ps.length->i0 s fd ⟨us,[]⟩ (ps.zip (us++ds))
theorem Binds.all{K:ai}{fd:cz}{ps:List Str}(h:∀us:List aa,us.length=ps.length->bindArgs fd ⟨us,[]⟩=pure (ps.zip us)):Binds K fd ps []:=fun s us _ hl=>by rw[fh]at hl ⊢;exact .of_eq (h us hl)
noncomputable def abo(CX:Yz)(X:Cx)(E:XK):Prop:=∀(pins:List (ae×Obj)) (σ:St) (H:Hp) (s:af) (e:aa) (s':af),Inv X pins σ H s->CX X.stack H s E e s'->X.xe e s'
section
variable{X:Cx}{CX:Yz}{k:Nat}{f C:ae}{fd:cz}{ps:List Str}{sp:Sp}{dvs:List V}{ds:List aa}{E:XK}{x m:Str}{p pos apos:Pos}{e o:ag}{es:List ag}{ta:TE}{t:TA}
structure Mk (K:ai)(C f:ae):Prop where
 makes:sR K C=true
 init:gp K (.ref C) "__init__"=some (some (.ref f))
 fn:sP K (.ref f)=true
 kp:iF K (.ref C)=true
theorem abp{pins:List (ae×Obj)}{σ:St}{H:Hp}{s:af}{Q:VK}{us:List aa}{vs:List V}(M:Mk X.K C f)(F:nD X.prog X.w X.K X.mg X.base CX k f fd ps sp)(hr:jP (k + 1) X.A)(hb:Binds X.K fd ps ds)(hd:Vals dvs ds)
  (hx:abo CX X E) (I:Inv X pins σ H s) (r:Vals vs us)
  (h:∀x dx,H x=none->H dx=none->dx≠x->sp (.ref x::(vs++dvs)) (upd (upd H dx (.own x)) x (.ins C dx [])) (fun v H2=>v=.non/\Q (.ref x) H2) E) :
  az (ar X.prog X.w) X.A (call (.ref C) us) (EP X pins σ Q) X.xe s:=by
 have hq:=h (s.heap.objs.size + 1) s.heap.objs.size (I.hok.fresh (td _)) (I.hok.fresh (bj _)) (cq (pd _));have I2:=Inv.made (C:=C) I;have r2:Vals (V.ref (s.heap.objs.size + 1)::(vs++dvs)) (aa.ref (s.heap.objs.size + 1)::(us++ds)):=.cons rfl (r.append hd);have hl:(aa.ref (s.heap.objs.size + 1)::us++ds).length=ps.length:=by have e:=r2.length;rw[F.len _ _ _ _ hq]at e;exact e.symm
 refine kH (abl (f:=f) I.xu M.makes M.init (beq_iff_eq.mp M.fn) (i4 (F.run _ X.stack _ _ ⟨aa.ref (s.heap.objs.size + 1)::us,[]⟩ (aa.ref (s.heap.objs.size + 1)::(us++ds)) _ _ E (hr.make C us [])
  (I2.env0.make C us []) (hb _ (aa.ref (s.heap.objs.size + 1)::us) I2.xu hl) r2 hq) fun r s' hq'=>?_))
 cases r with
 |error e=>exact hx pins σ _ _ e s' I2 hq'
 |ok fl =>
  cases fl with
  |ret u =>
   obtain⟨v,H',I3,rv,ev,q3⟩:=I2.after hq';subst ev;exact⟨rv,⟨V.ref (s.heap.objs.size + 1),H',I3,rfl,q3⟩⟩
  |next=>exact dy hq'
  |brk=>exact dy hq'
  |cont=>exact dy hq'
theorem aeM(M:Mk X.K C f)(F:nD X.prog X.w X.K X.mg X.base CX k f fd ps sp)(hr:jP (k + 1) X.A)(hg:Gl X x)(hm:X.mg x=some (.ref C))(hb:Binds X.K fd ps ds)(hd:Vals dvs ds)(hx:abo CX X E)
  (ha:PA X (e::es) t) (hdb:wk x:=by decide) (he:a8 (e::es) X.env=(false,a7 e X.env)::a8 es X.env:=by rfl) (hpl:(cE pos (a8 es X.env)).any (·.1)=false:=by rfl) :
  PE X (.Call (.Name x p) (e::es) [] pos) (akW C sp dvs E t):=by
 intro pins s σ H Q I h;refine kK (Am I hg hm ?_ hdb);refine tf (h₀:=X.base) I.ok.mod.Yp M.kp (nq (ha pos pins s σ H _ I h) fun us s1 ⟨vs,H1,I1,r,q⟩=>⟨I1.xu,?_⟩) he hpl;exact abp M F hr hb hd hx I1 r q
end
section
variable{X:Cx}{CX:Yz}{k:Nat}{f C:ae}{fd:cz}{ps ks:List Str}{sp:Sp}{E:XK}{x m:Str}{p pos apos kpos:Pos}{e o:ag}{es:List ag}{kws:List hV}{te ta:TE}{t tk:TA}{nm:Option Str}
structure anu (K:ai)(fd:cz)(ps ks:List Str)(g:List aa->List aa->List aa)(gV:List V->List V->List V):Prop where
 to:∀(s:af) (us ws:List aa),K.In s.heap->(g us ws).length=ps.length->i0 s fd ⟨us,ks.zip ws⟩ (ps.zip (g us ws))
 rel:∀{vs:List V}{us:List aa}{zs:List V}{ws:List aa},Vals vs us->Vals zs ws->Vals (gV vs zs) (g us ws)
variable{g:List aa->List aa->List aa}{gV:List V->List V->List V}
end
structure aX (N P:List Str)(sc:Scope):Prop where
 kind:sc.kind=.function
 co:sc.isCoroutine=false
 gen:sc.isGenerator=false
 nd:N.Nodup
 pre:N.take P.length=P
 par:∀x∈P,sc.names.lookup x=some .local∨sc.names.lookup x=some .cell
 aik:∀y∈sc.names,y.2≠.free
theorem Jz{kindOf:Str->Option et}{x:Str}:∀{binds:List (Str×aa)}{m:Str->Option aa},(∀v,(x,v)∉binds)->j0 kindOf binds m x=m x
 | [],_,_=>rfl
 | (n,v)::r,m,h=>by
  unfold j0;rw[Jz fun w hw=>h w (el _ hw)];split
  ·have:x≠n:=by rintro rfl;exact h v eR
   simp[this]
  ·rfl
theorem JB{kindOf:Str->Option et}{x:Str}:∀{binds:List (Str×aa)}{m:Str->Option aa},(∀v,(x,v)∉binds)->j3 kindOf binds m x=m x
 | [],_,_=>rfl
 | (n,v)::r,m,h=>by
  unfold j3;rw[JB fun w hw=>h w (el _ hw)];split
  ·rfl
  ·have:x≠n:=by rintro rfl;exact h v eR
   simp[this]
theorem JC{kindOf:Str->Option et}{x:Str}{v:aa}:∀{P:List Str}{vs:List aa}{i:Nat}{m:Str->Option aa},P.Nodup->P[i]?=some x->vs[i]?=some v->kindOf x=some .local ->
  j0 kindOf (P.zip vs) m x=some v
 | [],_,_,_,_,h,_,_=>by simp at h
 |_::_,[],_,_,_,_,h,_=>by simp at h
 |p::P,w::vs,0,m,nd,h1,h2,hk=>by simp at h1 h2;subst h1;subst h2;show j0 kindOf ((p,w)::P.zip vs) m p=_;unfold j0;rw[Jz fun v hv=>(lI.mp nd).1 (tj hv).1,if_pos hk];simp
 |p::P,w::vs,i + 1,m,nd,h1,h2,hk=>by show j0 kindOf ((p,w)::P.zip vs) m x=_;unfold j0;exact JC (i:=i) (lI.mp nd).2 (by simpa using h1) (by simpa using h2) hk
theorem JD{kindOf:Str->Option et}{x:Str}{v:aa}:∀{P:List Str}{vs:List aa}{i:Nat}{m:Str->Option aa},P.Nodup->P[i]?=some x->vs[i]?=some v->kindOf x≠some .local ->
  j3 kindOf (P.zip vs) m x=some v
 | [],_,_,_,_,h,_,_=>by simp at h
 |_::_,[],_,_,_,_,h,_=>by simp at h
 |p::P,w::vs,0,m,nd,h1,h2,hk=>by simp at h1 h2;subst h1;subst h2;show j3 kindOf ((p,w)::P.zip vs) m p=_;unfold j3;rw[JB fun v hv=>(lI.mp nd).1 (tj hv).1,if_neg hk];simp
 |p::P,w::vs,i + 1,m,nd,h1,h2,hk=>by show j3 kindOf ((p,w)::P.zip vs) m x=_;unfold j3;exact JD (i:=i) (lI.mp nd).2 (by simpa using h1) (by simpa using h2) hk
noncomputable def start(N:List Str)(vs:List V):St:=vs.map some++hW (N.length - vs.length) none
noncomputable def tR(CX:Yz)(P:aE)(w:ay)(K:ai)(mg:Str->Option aa)(base:aw)(N:List Str)(qual:Str)(scope:Scope)(f:ae)(cd:aa)(A:aT)(outer:List Env)(s:af)(H:Hp)(E:XK):Cx where
 prog:=P
 w:=w
 K:=K
 mg:=mg
 base:=base
 A:=A.deeper (j4 qual scope s.heap.objs.size f cd)
 N:=N
 s₀:=s
 H₀:=H
 env:=j4 qual scope s.heap.objs.size f cd
 outer:=outer
 stack:=j4 qual scope s.heap.objs.size f cd::outer
 ex:=[]
 calm:=true
 fn:=fun _=>true
 pn:=[]
 xe:=fun e s'=>az (ar P w) (A.deeper (j4 qual scope s.heap.objs.size f cd)) (leaving (j4 qual scope s.heap.objs.size f cd) e) (fun _ s''=>CX outer H s E e s'') (fun e' s''=>CX outer H s E e' s'') s'
theorem Ql{sc:Scope}{n:Nat}{x:Str}(h:sc.names.lookup x=some .cell):∃c,(cellsFrom n sc.names []).lookup x=some c:=by have q:=PySem.W.cellsFrom_some sc.names n [] (.inl h);exact Option.isSome_iff_exists.mp q
theorem YB{CX:Yz}{P:aE}{w:ay}{K:ai}{mg:Str->Option aa}{base:aw}{N ps:List Str}{qual:Str}{scope:Scope}{f:ae}{cd:aa}{A:aT}{outer:List Env}{s s1:af}{H:Hp}{E:XK}{us:List aa}{vs:List V}
  (S:aX N ps scope) (hd:A.handled=none) (e0:Qk P w K mg base A outer s H) (hl:vs.length=ps.length) (r:Vals vs us)
  (x:InCallC s s.heap.objs.size (j0 (j4 qual scope s.heap.objs.size f cd).kindOf (ps.zip us) fun _=>none) (cellsFrom (s.heap.objs.size + 1) scope.names []) (j3 (j4 qual scope s.heap.objs.size f cd).kindOf (ps.zip us) fun _=>none) s1) :
  Inv (tR CX P w K mg base N qual scope f cd A outer s H E) [] (start N vs) H s1:=by
 have hpl:ps.length<=N.length:=by have:=congrArg nh S.pre;rw[kL]at this;lia
 obtain⟨h1,tk,rfl,hk⟩:=x.done;have noA:∀b:ae,b∉(tR CX P w K mg base N qual scope f cd A outer s H E).ex:=fun b z=>absurd (show b∈([]:List ae) from z) (by simp);refine⟨⟨e0.mod,S.kind,rfl,rfl,bj _,fun y z c h1 h2=>?_,fun y hy=>?_,fun y c _ h=>?_,fun _=>hd,aT.frames_deeper e0.frames,.inr ⟨rfl,rfl⟩,fun b z=>absurd z (noA b),e0.bs,e0.bsz,fun b _ _=>noA b,fun b z=>absurd z (noA b),e0.DR,e0.frf⟩,
  rfl,e0.bare,Un.kept hk,⟨_,x.toInCall.ns,fun i y v h1 h2 h3=>?_⟩,fun y c h=>⟨_,x.cell y c h⟩,e0.hok.fresh (bj _),fun y c h=>?_,fun p hp=>absurd (show p∈([]:List (ae×Obj)) from hp) (by simp),e0.hok.kept hk,?_⟩
 ·exact name_of_addr x.apart (i5 h1) (i5 h2)
 ·have hy:scope.names.lookup y=some .cell∨scope.names.lookup y=some .free:=hy;rcases hy with hy|hy
  ·exact Ql hy
  ·exact absurd rfl (S.aik _ (i5 hy))
 ·exact hG (x.above y c (i5 h))
 ·have hi:i < vs.length:=by
   unfold start at h2;by_cases hi:i < vs.length
   ·exact hi
   ·rw[gu (by simpa using hi)]at h2;rw[j5]at h2;split at h2 <;> cases h2
  have ha:vs[i]?=some v:=by
   unfold start at h2;rw[f9 (by simpa using hi),df]at h2;cases e:vs[i]? with
   |none=>rw[e]at h2;cases h2
   |some a=>rw[e]at h2;cases h2;rfl
  obtain⟨u,hu,rv⟩:=r.get ha;have hp:ps[i]?=some y:=by rw[<- S.pre,lL (by lia)];exact h1
  have ndP:ps.Nodup:=by rw[<- S.pre];exact S.nd.sublist (nv _ _)
  refine⟨u,rv,?_⟩;rcases S.par y (pf hp) with k|k
  ·exact .inl ⟨k,JC ndP hp hu k⟩
  ·obtain⟨c,e⟩:=Ql (n:=s.heap.objs.size + 1) k;refine .inr ⟨.inl k,c,e,?_⟩;have q:=x.cell y c e;rw[JD ndP hp hu (by show scope.names.lookup y≠_;rw[k];decide)]at q;exact q
 ·exact e0.hok.fresh (hG (x.above y c (i5 h)))
 ·unfold start;show _=N.length;rw[cx,b_,ny];lia
theorem Wn{CX:Yz}{P:aE}{w:ay}{K:ai}{mg:Str->Option aa}{base:aw}{k:Nat}{f:ae}{name qual:Str}{params:Arguments}{body:List aS}{scope:Scope}{dV kV doc pm cdv ct oc:aa}{an od:Option ae}
  {osl:Array (Option aa)}{N ps:List Str}{sp:Sp}(lk:K.lookup f=some ⟨oc,od,.func (gx name qual params body scope dV kV doc pm an cdv ct),osl⟩) (hcd:nz K cdv qual=true) (S:aX N ps scope)
  (len:∀vs H Q E,sp vs H Q E->vs.length=ps.length)
  (hbody:∀(A:aT) (outer:List Env) (s:af) (H:Hp) (vs:List V) (Q:VK) (E:XK),jP k (A.deeper (j4 qual scope s.heap.objs.size f cdv))->Cj P w H s.heap->sp vs H Q E ->
   ∃t,Qh (tR CX P w K mg base N qual scope f cdv A outer s H E) body t/\t { nx:=fun _ H'=>Q .non H',rt:=Q } (start N vs) H) :
  nD P w K mg base CX (k + 1) f (gx name qual params body scope dV kV doc pm an cdv ct) ps sp:=by
 refine⟨len,fun A outer s H args us vs Q E hr e0 hb r hsp=>?_⟩;have hl:=len _ _ _ _ hsp;have KX:K.In s.heap:=e0.mod.Yp.keeps fun b o e=>(e0.bs b o e).1;have lim:s.heap.NoLimit:=e0.mod.nolimit.keeps fun b o e=>(e0.bs b o e).1;have hkind:∀y∈ps.zip us,scope.names.lookup y.1=some .local∨(scope.names.lookup y.1=some .cell/\((cellsFrom (s.heap.objs.size + 1) scope.names []).lookup y.1).isSome=true):=fun⟨n,v⟩ hy=>by
  rcases S.par n (tj hy).1 with q|q
  ·exact .inl q
  ·exact .inr ⟨q,PySem.W.cellsFrom_some _ _ _ (.inl q)⟩
 refine codeAny_call_function hr.depth (KX _ _ lk) rfl S.co S.gen rfl (PySem.W.codeRec_of KX hcd) (hb _ _ _ _ ?_);refine wpAny_newFunctionEnv_cells S.kind hkind fun env he s1 x=>?_;subst he;refine⟨lim.keeps x.toInCall.keep,codeAny_func ?_⟩;obtain⟨t,ht,hq⟩:=hbody A outer s H vs Q E (hr.deeper _) e0.hok hsp;have I:Inv (tR CX P w K mg base N qual scope f cdv A outer s H E) [] (start N vs) H s1:=YB S hr.hd e0 hl r x;refine eK (ht [] s1 (start N vs) H _ I hq) (fun fl s' hs=>?_) fun e s' hs=>hs;have jk:∀{σ':St}{H':Hp}{v:V}{u:aa},Inv (tR CX P w K mg base N qual scope f cdv A outer s H E) [] σ' H' s'->RelV v u->Q v H'->CE outer P w H s Q u s' :=
  fun {σ' H' v u} J rv q=>⟨v,H',J.os,J.bare,J.base,J.hok,rv,q⟩
 cases fl with
 |ret u =>
  obtain⟨v,σ',H',J,rv,q⟩:=hs;exact jk J rv q
 |next =>
  obtain⟨σ',H',J,q⟩:=hs;exact jk (v:=V.non) (u:=aa.none) J rfl q
 |brk =>
  obtain⟨_,_,_,q⟩:=hs;exact dy q
 |cont =>
  obtain⟨_,_,_,q⟩:=hs;exact dy q
section
variable{X:Cx}{x:Str}{p pos:Pos}{e:ag}{es:List ag}{t:TA}{id T:String}{r:List V->Hp->VK->Prop}
noncomputable def tCB(r:List V->Hp->VK->Prop)(t:TA):TE:=fun σ H Q=>t σ H fun vs H1=>r vs H1 Q
theorem xH(hc:qG X (.builtin id) r) (hg:Gl X x) (hm:X.mg x=none) (hv:gi x=some (.builtin id)) (ha:PA X (e::es) t) (hn:x≠"__name__":=by decide) (hdb:wk x:=by decide)
  (he:a8 (e::es) X.env=(false,a7 e X.env)::a8 es X.env:=by rfl) (hpl:(cE pos (a8 es X.env)).any (·.1)=false:=by rfl):PE X (.Call (.Name x p) (e::es) [] pos) (tCB r t):=by
 intro pins s σ H Q I h;refine kK (zO I hg hm hv ?_ hn hdb);exact PyProof.Rows.callWith_builtin1 (nq (ha pos pins s σ H _ I h) fun us s1 ⟨vs,H1,I1,r1,q1⟩=>hc pins s1 σ H1 vs us Q I1 r1 q1) he hpl
theorem JF(hc:qG X (.type T) r) (hg:Gl X x) (hm:X.mg x=none) (hv:gi x=some (.type T)) (ha:PA X (e::es) t) (hn:x≠"__name__":=by decide) (hdb:wk x:=by decide)
  (he:a8 (e::es) X.env=(false,a7 e X.env)::a8 es X.env:=by rfl) (hpl:(cE pos (a8 es X.env)).any (·.1)=false:=by rfl):PE X (.Call (.Name x p) (e::es) [] pos) (tCB r t):=by
 intro pins s σ H Q I h;refine kK (zO I hg hm hv ?_ hn hdb);exact o7 (nq (ha pos pins s σ H _ I h) fun us s1 ⟨vs,H1,I1,r1,q1⟩=>hc pins s1 σ H1 vs us Q I1 r1 q1) he hpl
end
end L2
namespace HT
open PySem PyProof.Rows
section
open PySem.SeqAt
open PySem.AutoSeq1 (wpAny_loadPart')
open PySem.MeetsSeq PySem.MeetsSeq2 PySem.MeetsSeq3
end
section
variable{prog:aE}{w:ay}{A:aT}{E:aa->af->Prop}{s:af}
theorem aeN{t b:ae}{vs ws:List aa}{Q:aa->af->Prop}(ht:kz s.heap t vs.toArray)(hb:kz s.heap b ws.toArray)(hv:vs≠[])
  (h1:ws=[]->Q (.ref t) s) (h2:ws≠[]->Q (.ref s.heap.objs.size) { s with heap:=s.heap.push { cls:=.type "tuple",data:=.seq (vs++ws).toArray } })
  (hsz:vs.length + ws.length<=sizeLine):az (ar prog w) A (fE .Add (.ref t) (.ref b)) Q E s:=by
 obtain⟨⟨cls,dd,data,sl⟩,ho,hc,n,hd⟩:=id ht;obtain⟨⟨cls2,dd2,data2,sl2⟩,ho2,hc2,n2,hd2⟩:=id hb;simp only at hc hd hc2 hd2;subst hc hd hc2 hd2;have e:vs.toArray++ws.toArray=(vs++ws).toArray:=by simp
 by_cases hw:ws=[]
 ·exact ph ⟨_,ho,rfl⟩ ⟨_,ho2,rfl⟩ tm tq tx tz (tJ _ _)
   (tuple_addW1 t b vs.toArray ws.toArray n n2 dd dd2 sl sl2 (by simpa using hv) (by simp[hw])) ⟨ho,ho2,h1 hw⟩
 ·refine ph ⟨_,ho,rfl⟩ ⟨_,ho2,rfl⟩ tm tq tx tz (tJ _ _)
   (tuple_addW2 t b vs.toArray ws.toArray n n2 dd dd2 sl sl2 (by simpa using hv) (by simpa using hw) (by rw[cv,cv];exact hsz)) ⟨ho,ho2,?_⟩
  rw[e];exact h2 hw
end
end HT
namespace L2
open PySem PySem.Spec PyProof.Rows
noncomputable abbrev TO:=St->Hp->(Option Int->Hp->Prop)->Prop
theorem zQ{ns:List Int}:∀{us:List aa},Vals (ns.map V.int) us->kM us ns:=by
 induction ns with
 |nil=>intro us r;rw[pj]at r;cases r;exact .nil
 |cons n ns ih =>
  intro us r;rw[c6]at r;cases r with
  |cons r1 r2 =>
   obtain⟨t,e⟩:=r1;subst e;exact .cons n t (ih r2)
section
variable{X:Cx}{e:ag}{te:TE}{lo hi:Option ag}{tl th:TO}{pos p2:Pos}
noncomputable def agW(K:ai):R2:=fun x y H Q=>∃a b xs ys,x=.ref a/\y=.ref b/\qF K H a xs/\qF K H b ys/\xs≠[]/\xs.length + ys.length<=sizeLine /\
 (ys=[]->Q (.ref a) H)/\(ys≠[]->∀p,H p=none->Q (.ref p) (upd H p (.tup (xs++ys))))
theorem Vals.La{xs:List V}{us:List aa}(r:Vals xs us):us=[]↔xs=[]:=by
 cases r with
 |nil=>simp
 |cons _ _=>simp
theorem aeO:Ak X (fE .Add) (agW X.K):=by intro pins s σ H x y v u Q I rx ry h;obtain⟨a,b,xs,ys,rfl,rfl,ha,hb,hx,hz,q1,q2⟩:=h;cases rx;cases ry;obtain⟨its,r1,p1,_⟩:=I.tuple ha;obtain⟨its2,r2,p2,_⟩:=I.tuple hb;refine HT.aeN p1 p2 (fun z=>hx (r1.La.mp z)) (fun z=>⟨.ref a,H,I,rfl,q1 (r2.La.mp z)⟩) (fun z=>?_) (by rw[<- r1.length,<- r2.length];exact hz);refine⟨.ref s.heap.objs.size,_,I.laid (t':=s.toks) (o:=.tup (xs++ys)) (fun b ob q=>cm _ q) (bj _) ?_,rfl,q2 (fun w=>z (r2.La.mpr w)) _ (I.hok.fresh (bj _))⟩;exact⟨by rw[cx];exact hz,_,r1.append r2,kz.new _ _⟩
end
noncomputable def Qm(n:Nat)(i:Int):Option Nat:=if 0<=i then (if i < n then some i.toNat else none) else if-(n:Int)<=i then some (i + n).toNat else none
noncomputable def Uo{α:Type}(xs:List α)(i:Int):Option α:=(Qm xs.length i).bind fun j=>xs[j]?
theorem Wo{n:Nat}{i:Int}{j:Nat}(h:Qm n i=some j):seqIndex? i n=some j/\j < n/\-(n:Int)<=i/\i < n:=by
 unfold Qm at h;by_cases h0:0<=i
 ·rw[if_pos h0]at h;by_cases h1:i < n
  ·rw[if_pos h1]at h;have e:i.toNat=j:=dk h;exact⟨by rw[tN h0 h1,e],by lia,by lia,h1⟩
  ·rw[if_neg h1]at h;cases h
 ·rw[if_neg h0]at h;by_cases h1:-(n:Int)<=i
  ·rw[if_pos h1]at h;have e:(i + n).toNat=j:=dk h;exact⟨by rw[seqIndex_neg (by lia) h1,e],by lia,h1,by lia⟩
  ·rw[if_neg h1]at h;cases h
theorem Lb{α:Type}{xs:List α}{i:Int}{v:α}(h:Uo xs i=some v):∃j,seqIndex? i xs.length=some j/\xs[j]?=some v/\j < xs.length/\-(xs.length:Int)<=i/\i < xs.length:=by
 unfold Uo at h;cases e:Qm xs.length i with
 |none=>rw[e]at h;cases h
 |some j =>
  rw[e]at h;obtain⟨h1,h2,h3,h4⟩:=Wo e;exact⟨j,h1,h,h2,h3,h4⟩
noncomputable def Ey(b:ag):Prop:=∀o i,subscripted b false o i=operate [o,i] (getItem o i)
noncomputable def IxR(X:Cx)(r:R2):Prop :=
 ∀(value slice:ag) (pins:List (ae×Obj)) (s:af) (σ:St) (H:Hp) (x y:V) (v u:aa) (Q:VK),Inv X pins σ H s->RelV x v->RelV y u->r x y H Q ->
  subscripted slice false v u=operate [v,u] (getItem v u)->az (ar X.prog X.w) X.A (subscriptTail value slice v u) (EP X pins σ Q) X.xe s
noncomputable def MtR(X:Cx)(id:String)(r:V->List V->Hp->VK->Prop):Prop :=
 ∀(pins:List (ae×Obj)) (s:af) (σ:St) (H:Hp) (x:V) (xs:List V) (v:aa) (us:List aa) (Q:VK),Inv X pins σ H s->RelV x v->Vals xs us->r x xs H Q ->
  az (ar X.prog X.w) X.A (call (.builtin id) (v::us)) (EP X pins σ Q) X.xe s
section
variable{X:Cx}{a b:ag}{ta tb:TE}{pos:Pos}
theorem IxR.or{r r':R2}(h:IxR X r)(h':IxR X r'):IxR X (fun x y H Q=>r x y H Q∨r' x y H Q):=by
 intro value slice pins s σ H x y v u Q I rx ry q hs;rcases q with q|q
 ·exact h value slice pins s σ H x y v u Q I rx ry q hs
 ·exact h' value slice pins s σ H x y v u Q I rx ry q hs
theorem abq{r:R2}(hr:IxR X r)(ha:PE X a ta)(hb:PE X b tb)(hs:Ey b):PE X (.Subscript a b pos) (tOp r ta tb):=by intro pins s σ H Q I h;exact Subscript_ (aia ha hb I h fun v u s2 x y H2 I2 rx ry q=>hr a b pins s2 σ H2 x y v u Q I2 rx ry q (hs _ _))
noncomputable def akX(K:ai):R2:=fun x y H Q=>∃p xs i v,x=.ref p/\y=.int i/\nu K H p xs/\Uo xs i=some v/\Q v H
noncomputable def akY(K:ai):R2:=fun x y H Q=>∃p xs i v,x=.ref p/\y=.int i/\qF K H p xs/\Uo xs i=some v/\Q v H
noncomputable def akZ:R2:=fun x y H Q=>∃z i c,x=.str z/\y=.int i/\z.length<=sizeLine/\Uo z.cps.toList i=some c/\Q (.str ⟨#[c]⟩) H
theorem aeQ:IxR X (akX X.K):=by
 intro value slice pins s σ H x y v u Q I rx ry h hs;obtain⟨p,xs,i,z,rfl,rfl,hq,he,q⟩:=h;cases rx;obtain⟨t,rfl⟩:=ry;obtain⟨its,r,pl,hz⟩:=I.list hq;obtain⟨j,h1,h2,h3,h4,h5⟩:=Lb he;obtain⟨w,ew,rw'⟩:=r.get h2;have hl:=r.length;have hn:=Fy;have jk:EP X pins σ Q w s:=⟨z,H,I,rw',q⟩
 by_cases h0:0<=i
 ·have hj:i.toNat=j:=by rw[tN h0 h5]at h1;exact dk h1
  exact item_listR pl.isList h0 (by lia) (by rw[hj];simpa using ew) jk hs
 ·have hj:(i + (its.toArray.size:Int)).toNat=j:=by rw[seqIndex_neg (by lia) h4]at h1;rw[cv,<- hl];exact dk h1
  exact subscriptTail_builtinR (x:=w) pl.isList.typeIs slot_list_getitem.lookup
   (wpAny_getItem_list_neg (Q:=fun r s'=>r=w/\EP X pins σ Q r s') pl.isList (by lia) (by rw[cv] <;> lia) (by lia) (by rw[hj];simpa using ew) ⟨rfl,jk⟩) hs
theorem abr:IxR X (akY X.K):=by
 intro value slice pins s σ H x y v u Q I rx ry h hs;obtain⟨p,xs,i,z,rfl,rfl,hq,he,q⟩:=h;cases rx;obtain⟨t,rfl⟩:=ry;obtain⟨its,r,pl,hz⟩:=I.tuple hq;obtain⟨j,h1,h2,h3,h4,h5⟩:=Lb he;obtain⟨w,ew,rw'⟩:=r.get h2;have hl:=r.length;have hn:=Fy;have jk:EP X pins σ Q w s:=⟨z,H,I,rw',q⟩
 exact subscriptTail_builtinR (x:=w) pl.typeIs slot_tuple_getitem.lookup
  (getItem_tuple (j:=j) (Q:=fun r s'=>r=w/\EP X pins σ Q r s') pl (by lia) (by lia) (by rw[cv,<- hl];exact h1) (by simpa using ew) ⟨rfl,jk⟩) hs
theorem ail:IxR X akZ:=by
 intro value slice pins s σ H x y v u Q I rx ry h hs;obtain⟨z,i,c,rfl,rfl,hz,he,q⟩:=h;obtain⟨t,rfl⟩:=rx;obtain⟨t',rfl⟩:=ry;obtain⟨j,h1,h2,h3,h4,h5⟩:=Lb he;have hl:z.cps.toList.length=z.length:=by simp[Str.length]
 rw[hl]at h1 h4 h5;have hn:=Fy;exact tail_any (typeIs_str s z t) slot_str_getitem.lookup (getItem_str (c:=c) (by
  have e1:decide (i < -(2 ^ 63:Int))=false:=decide_eq_false (by lia);have e2:decide (i ≥ 2 ^ 63)=false:=decide_eq_false (by lia);rw[e1,e2,Bool.or_false]) (by rw[h1];simpa using h2) ⟨.str ⟨#[c]⟩,H,I.tok _,⟨_,rfl⟩,q⟩) hs
noncomputable def rIx(K:ai):R2:=fun x y H Q=>akX K x y H Q∨akY K x y H Q∨akZ x y H Q
theorem Uq:IxR X (rIx X.K):=aeQ.or (abr.or ail)
theorem Ur(its:List aa)(n j:Nat)(u:aa):fm (·.setIfInBounds j u) { cls:=.type "list",data:=.seq its.toArray n }={ cls:=.type "list",data:=.seq (its.set j u).toArray n }:=by simp[fm]
theorem Inv.lst{pins:List (ae×Obj)}{σ:St}{H:Hp}{s:af}{p:ae}{xs:List V}(I:Inv X pins σ H s)(h:H p=some (.lst xs)) :
  ∃(its:List aa) (n:Nat),Vals xs its/\s.heap.get? p=some { cls:=.type "list",data:=.seq its.toArray n }/\xs.length<=sizeLine:=by
 obtain⟨z,its,n,r,e⟩:=I.hok p _ h;exact⟨its,n,r,e,z⟩
theorem Inv.ain{pins:List (ae×Obj)}{σ:St}{H:Hp}{s:af}{p:ae}{xs ys:List V}{its its':List aa}{n n':Nat}{f:Obj->Obj}(I:Inv X pins σ H s)(h:H p=some (.lst xs))
  (ho:s.heap.get? p=some { cls:=.type "list",data:=.seq its.toArray n }) (hf:f { cls:=.type "list",data:=.seq its.toArray n }={ cls:=.type "list",data:=.seq its'.toArray n' }) (r:Vals ys its') (hz:ys.length<=sizeLine) (t:Nat) :
  Inv X pins σ (upd H p (.lst ys)) { s with heap:=s.heap.update p f,toks:=t }:=by
 have e:(s.heap.update p f).get? p=some { cls:=.type "list",data:=.seq its'.toArray n' }:=by rw[hZ f ho (by rw[hf] <;> rfl),hf]
 refine I.write (x:=p) (e:=p) (by rw[h];trivial) (.inl rfl) (fun b u hb q=>(f_ _ _ (br hb)).trans q) ⟨_,e⟩ ?_;exact⟨hz,its',n',r,e⟩
noncomputable def ala:V->V->V->Hp->(Hp->Prop)->Prop:=fun o i v H Q=>∃p xs k j,o=.ref p/\i=.int k/\H p=some (.lst xs)/\Qm xs.length k=some j/\Q (upd H p (.lst (xs.set j v)))
theorem Qn:akL X ala:=by
 intro pins s σ H o i v ov iv u Q I ro ri rv h;obtain⟨p,xs,k,j,rfl,rfl,hp,hj,q⟩:=h;cases ro;obtain⟨t,rfl⟩:=ri;obtain⟨its,n,r,ho,hz⟩:=I.lst hp;obtain⟨h1,h2,h3,h4⟩:=Wo hj;have hl:=r.length;have hn:=Fy;have I':Inv X pins σ (upd H p (.lst (xs.set j v))) { s with heap:=s.heap.update p (fm (·.setIfInBounds j u)) } :=
  I.ain hp ho (Ur its n j u) (r.set rv j) (by rw[List.length_set];exact hz) s.toks
 by_cases h0:0<=k
 ·have hk:k.toNat=j:=by rw[tN h0 h4]at h1;exact dk h1
  exact PySem.W.ki_setAt ho h0 (by lia) (by rw[cv,<- hl];exact h4) (by rw[hk];exact⟨_,I',q⟩)
 ·have hk:(k + (its.toArray.size:Int)).toNat=j:=by rw[seqIndex_neg (by lia) h3]at h1;rw[cv,<- hl];exact dk h1
  exact PySem.W.ki_setBack ho (by lia) (by rw[cv,<- hl];exact h3) (by lia) (by rw[hk];exact⟨_,I',q⟩)
theorem Ld:qG X (.builtin "len") (fun xs H Q=>∃p ys,xs=[.ref p]/\(nu X.K H p ys∨qF X.K H p ys)/\Q (.int ys.length) H):=by
 intro pins s σ H xs us Q I r h;obtain⟨p,ys,rfl,hq,q⟩:=h;obtain⟨u,rfl,rx⟩:=Wm r;cases rx;have hn:=Fy;rcases hq with hq|hq
 ·obtain⟨its,r',pl,hz⟩:=I.list hq;have hlen:=r'.length;exact Calls.call_len_list pl.isList (by simp only[cv] <;> lia) ⟨.int ys.length,H,I.tok _,⟨s.toks + 1,by rw[cv,hlen]⟩,q⟩
 ·obtain⟨its,r',pl,hz⟩:=I.tuple hq;have hlen:=r'.length;exact len_tuple pl (by simp only[cv] <;> lia) ⟨.int ys.length,H,I.tok _,⟨s.toks + 1,by rw[cv,hlen]⟩,q⟩
theorem Il:qG X (.type "tuple") (fun xs H Q=>∃p ys,xs=[.ref p]/\((nu X.K H p ys/\∀l,H l=none->Q (.ref l) (upd H l (.tup ys)))∨(qF X.K H p ys/\Q (.ref p) H))):=by
 intro pins s σ H xs us Q I r h;obtain⟨p,ys,rfl,h⟩:=h;obtain⟨u,rfl,rx⟩:=Wm r;cases rx;rcases h with ⟨hq,q⟩|⟨hq,q⟩
 ·obtain⟨its,r',pl,hz⟩:=I.list hq;have hlen:=r'.length;refine call_tuple_list pl.isList (fun h' kp=>?_) (by simp only[cv] <;> lia);have I1:Inv X pins σ H { s with heap:=h' }:=I.kept (t':=s.toks) kp;have I2:Inv X pins σ (upd H h'.objs.size (.tup ys)) { s with heap:=h'.push { cls:=.type "tuple",data:=.seq its.toArray } } :=
   I1.laid (t':=s.toks) (fun b o e=>cm _ e) (bj _) (show mV X.prog X.w _ _ _ (.tup ys) from⟨hz,its,r',kz.new _ _⟩)
  exact⟨.ref h'.objs.size,_,I2,rfl,q _ (I1.hok.fresh (bj _))⟩
 ·obtain⟨its,r',pl,hz⟩:=I.tuple hq;exact call_tuple_same pl ⟨.ref p,H,I,rfl,q⟩
noncomputable def tyV(K:ai)(T:String)(x:V)(H:Hp):Prop:=match x with
 | .str _=>T="str"
 | .int _=>T="int"
 | .ref p=>(T="list"/\∃xs,nu K H p xs)∨(T="tuple"/\∃o,K.lookup p=some o/\o.cls=.type "tuple"/\o.dict=none) ∨
   (T="dict"/\((∃kvs,H p=some (.dK kvs))∨∃kvs,H p=some (.dT kvs)))∨(T="set"/\∃S n,H p=some (.set S n))
 |_=>False
theorem aio{pins:List (ae×Obj)}{σ:St}{H:Hp}{s:af}{T:String}{x:V}{v:aa}(I:Inv X pins σ H s)(r:RelV x v)(ty:tyV X.K T x H) :
  s.TypeIs v T/\∀a,v=.ref a->∃ob,s.heap.get? a=some ob/\ob.dict=none:=by
 cases x with
 |str z =>
  obtain⟨t,rfl⟩:=r;cases (show T="str" from ty);exact⟨typeIs_str s z t,fun _ e=>nomatch e⟩
 |int i =>
  obtain⟨t,rfl⟩:=r;cases (show T="int" from ty);exact⟨typeIs_int s i t,fun _ e=>nomatch e⟩
 |ref p =>
  cases r;rcases ty with ⟨rfl,xs,hq⟩|⟨rfl,o,hk,hc,hd⟩|⟨rfl,hk⟩|⟨rfl,S,n,hk⟩
  ·obtain⟨its,_,pl,_⟩:=I.list hq;refine⟨pl.isList.typeIs,fun a e=>?_⟩;cases e;obtain⟨o,n,e,c,hd,_⟩:=pl;exact⟨o,e,hd⟩
  ·refine⟨⟨o,I.xu p o hk,hc⟩,fun a e=>?_⟩;cases e;exact⟨o,I.xu _ o hk,hd⟩
  ·have z:∃o,s.heap.get? p=some o/\o.ExactDict:=by
    rcases hk with ⟨kvs,hk⟩|⟨kvs,hk⟩
    ·obtain⟨_,_,_,_,o,_,_,e,ex,_⟩:=I.hok p _ hk;exact⟨o,e,ex⟩
    ·obtain⟨_,_,_,_,o,_,_,e,ex,_⟩:=I.hok p _ hk;exact⟨o,e,ex⟩
   obtain⟨o,e,ex⟩:=z;refine⟨⟨o,e,ex.1⟩,fun a e2=>?_⟩;cases e2;exact⟨o,e,ex.2.1⟩
  ·obtain⟨o,_,_,_,e,ex,_⟩:=I.hok p _ hk;refine⟨⟨o,e,ex.1⟩,fun a e2=>?_⟩;cases e2;exact⟨o,e,ex.2.1⟩
 |_=>exact dy ty
noncomputable def tBM(K:ai)(T:String)(r:V->List V->Hp->VK->Prop)(to:TE)(t:TA):TE:=fun σ H Q=>to σ H fun x H1=>tyV K T x H1/\t σ H1 fun xs H2=>r x xs H2 Q
variable{o e:ag}{es:List ag}{to:TE}{t:TA}{name:Str}{apos cpos:Pos}{T id:String}{r:V->List V->Hp->VK->Prop}
theorem Qo(pa:PlainAttrs T) (slot:Slot T name id) (hty:typeOf (.builtin id)=pure (.type "method_descriptor")) (hm:MtR X id r) (ho:PE X o to) (ha:PA X (e::es) t)
  (hbase:iX o name X.env (a7 o X.env)=a7 o X.env:=by rfl)
  (hfew:((cE cpos (a8 (e::es) X.env)).all (fun x=>!x.1) && (gy cpos (gz [] X.env)).all (fun x=>x.1.isSome)
   && decide ((e::es).length + ([]:List hV).length + (if ([]:List hV).isEmpty then 0 else 1) < 30))=true:=by rfl)
  (hline:(apos.endLine == cpos.line)=true:=by rfl) (hs:a8 (e::es) X.env=(false,a7 e X.env)::a8 es X.env:=by rfl) (hplain:(cE cpos (a8 es X.env)).any (·.1)=false:=by rfl) :
  PE X (.Call (.Attribute o name apos) (e::es) [] cpos) (tBM X.K T r to t):=by
 intro pins s σ H Q I h;refine wpAny_Call_method_late hbase hfew hline rfl (nq (ho pins s σ H _ I h) fun v s1 mF=>?_);obtain⟨x,H1,I1,r1,ty,q1⟩:=mF;obtain⟨h1,h2⟩:=aio I1 r1 ty;refine⟨T,id,pa,slot,hty,h1,h2,?_⟩;have hA:=ha cpos pins s1 σ H1 _ I1 q1;rw[hs]at hA ⊢;refine Calls.callWith_builtin (by show(false || (cE cpos (a8 es X.env)).any (·.1))=false;rw[hplain] <;> rfl) (Calls.evalArgs_plain ?_);exact nq hA fun us s2 ⟨vs,H2,I2,r2,q2⟩=>hm pins s2 σ H2 x vs v us Q I2 r1 r2 q2
end
noncomputable def MtM(X:Cx)(id:String)(r:V->List V->Hp->VK->Prop):Prop :=
 ∀(pins:List (ae×Obj)) (s:af) (σ:St) (H:Hp) (x:V) (xs:List V) (v:aa) (us:List aa) (Q:VK),Inv X pins σ H s->RelV x v->Vals xs us->r x xs H Q ->
  az (ar X.prog X.w) X.A (call (.builtin id) (v::us)) (EP X pins σ Q) X.xe s
theorem Vals.one:∀{x:V}{us:List aa},Vals [x] us->∃u,us=[u]/\RelV x u
 |_,_,.cons r .nil=>⟨_,rfl,r⟩
section
variable{X:Cx}{pins:List (ae×Obj)}{σ:St}{H:Hp}{s:af}{l b:ae}{xs ys zs:List V}
theorem Inv.aip{its its':List aa}{n:Nat}{f:Array aa->Array aa}{t':Nat}(I:Inv X pins σ H s)(hH:H l=some (.lst xs))
  (e:s.heap.get? l=some { cls:=.type "list",data:=.seq its.toArray n }) (hf:f its.toArray=its'.toArray) (hv:Vals ys its') (hz:ys.length<=sizeLine) :
  Inv X pins σ (upd H l (.lst ys)) { s with heap:=s.heap.update l (fm f),toks:=t' }:=by
 have q:=PySem.IsL.update e f;rw[hf]at q;refine I.write (x:=l) (e:=l) (by rw[hH];exact trivial) (.inl rfl) (fun b' u hb hu=>(f_ s.heap (fm f) (br hb)).trans hu) ⟨_,q⟩ ?_;exact⟨hz,its',_,hv,q⟩
theorem Inv.alc{its:List aa}{t':Nat}(I:Inv X pins σ H s)(hv:Vals ys its)(hz:ys.length<=sizeLine) :
  Inv X pins σ (upd H s.heap.objs.size (.lst ys)) { s with heap:=s.heap.push { cls:=.type "list",data:=.seq its.toArray },toks:=t' } :=
 I.laid (fun _ _ q=>cm _ q) (bj _) ⟨hz,its,0,hv,cK _ rfl⟩
theorem Inv.fresh(I:Inv X pins σ H s):H s.heap.objs.size=none:=I.hok.fresh (bj _)
theorem Inv.aeS(I:Inv X pins σ H s)(hH:H l=some (.lst xs)):xs.length<=sizeLine/\∃(its:List aa) (n:Nat),Vals xs its/\xs.length=its.length/\s.heap.get? l=some { cls:=.type "list",data:=.seq its.toArray n }:=by obtain⟨z,its,n,r,e⟩:=I.hok l _ hH;exact⟨z,its,n,r,r.length,e⟩
theorem Qp{n:Nat}(h:n<=sizeLine):nB n=false:=by unfold nB;exact decide_eq_false (by lia)
end
section
variable{X:Cx}
noncomputable def Wq:V->List V->Hp->VK->Prop:=fun x vs H Q=>∃l xs y,x=.ref l/\vs=[y]/\H l=some (.lst xs)/\xs.length < sizeLine/\Q .non (upd H l (.lst (xs++[y])))
theorem Cr:MtM X "list.append" Wq:=by intro pins s σ H x vs v us Q I rx rv h;obtain⟨l,xs,y,rfl,rfl,hH,hz,q⟩:=h;cases rx;obtain⟨u,rfl,ru⟩:=rv.one;obtain⟨z,its,n,r,hl,e⟩:=I.aeS hH;refine call_meets F.slot_list_append ⟨_,e,rfl⟩ F.entry_list_append (F.args_list_append_2 _ _) (PySem.list_append l its.toArray n u (by rw[cv];lia)) ⟨e,?_⟩;refine⟨.non,_,I.aip (its':=its++[u]) hH e (by simp) (r.append (.cons ru .nil)) ?_,rfl,q⟩;rw[cx,tP];lia
noncomputable def Wr:V->List V->Hp->VK->Prop:=fun x vs H Q=>∃l b xs zs,x=.ref l/\vs=[.ref b]/\H l=some (.lst xs)/\H b=some (.lst zs)/\xs.length + zs.length<=sizeLine/\Q .non (upd H l (.lst (xs++zs)))
theorem YC:MtM X "list.extend" Wr:=by
 intro pins s σ H x vs v us Q I rx rv h;obtain⟨l,b,xs,zs,rfl,rfl,hH,hB,hz,q⟩:=h;cases rx;obtain⟨u,rfl,ru⟩:=rv.one;cases ru;obtain⟨z,its,n,r,hl,e⟩:=I.aeS hH;obtain⟨z2,its2,n2,r2,hl2,e2⟩:=I.aeS hB;have hsz:its.toArray.size + its2.toArray.size<=sizeLine:=by rw[cv,cv];lia
 have ald:¬(!its.toArray.isEmpty && nB (its.toArray.size + its2.toArray.size))=true:=by rw[Qp hsz,lS];exact sL
 refine call_meets F.slot_list_extend ⟨_,e,rfl⟩ F.entry_list_extend (F.args_list_extend_2 _ _)
  (AutoSeq1.list_extend_list_list_0 l its.toArray n b its2.toArray n2 ald (by rw[cv];lia) (by lia)) ⟨e,e2,?_⟩
 refine⟨.non,_,I.aip (its':=its++its2) hH e (by simp) (r.append r2) ?_,rfl,q⟩;rw[cx];lia
end
section
variable{prog:aE}{w:ay}{A:aT}{E:aa->af->Prop}{s:af}
end
section
variable{X:Cx}
end
end L2
namespace Att
open PySem PySem.W PySem.Calls PyProof.Rows
theorem DW{P:Params}{h:aw}:∀(ns:List Int) (vs:List aa),WellAll P h vs (ns.map WData.int)->kM vs ns:=by
 intro ns
 induction ns with
 |nil =>
  intro vs w;rw[pj]at w;cases w;exact .nil
 |cons n ns ih =>
  intro vs w;rw[c6]at w;cases w with
  |cons a b =>
   cases a;exact .cons _ _ (ih _ b)
theorem YD{l:lT}{n:Nat}(hn:l.most=some n){P:Params}{h:aw}{args:List WData}{vals:List aa}
  (hpre:l.row.toRowW.claim.pre args=true) (hwl:WellAll P h vals args) :
  ∃a vs ns,vals=[aa.ref a]/\args=[WData.list (ns.map WData.int)]/\h.get? a=some { cls:=.type "list",data:=.seq vs.toArray }/\kM vs ns/\ns.length<=n:=by
 have hsh:WShape.hasAll [] args [.list .int]=true:=(pre_splitW hpre).1;have hc:l.pre.holds [] { args:=args }=true:=(pre_splitW hpre).2;obtain⟨d,r,rfl,h1,h2⟩:=hasAllW_cons hsh;obtain rfl:=hasAllW_nil h2;obtain⟨xs,rfl,h3⟩:=hasW_list h1;obtain⟨ns,rfl⟩:=items_int h3;have hlen:ns.length<=n:=by
  unfold lT.pre at hc;have h4:(WTm.not (.lt (.lit (.int (n:Int))) (.len (.arg 0)))).holds [] { args:=[.list (ns.map .int)] }=true:=by have h4:=(holds_andW hc).1;rw[hn]at h4;exact h4
  have h5:=condW_of h4 (w_not (w_lt w_lit (w_len_list (w_arg rfl))));rw[b_]at h5;refine Nat.le_of_not_lt fun q=>?_;have q':(n:Int) < ((ns.length:Nat):Int):=by lia
  first
   | (rw[decide_eq_true q']at h5;exact absurd h5 (by decide))
   | (simp at h5;lia)
 cases hwl with
 |cons w1 w2 =>
  cases w2;cases w1 with
  |list ho hall=>exact⟨_,_,ns,rfl,rfl,ho,DW ns _ hall,hlen⟩
theorem YF(l:lT)(args:List WData):l.row.toRowW.claim.post args (.bool true) args=true :=
 postW_of (r:=l.row.toRowW) (X:=(true == true))
  (show WShape.has [] (.bool true) .bool=true by first|rfl|decide|simp[WShape.has,WShape.arms,WShape.armsAll])
  (show(WTm.eq .res (.lit (.bool true))).value [] { args:=args,res:=some (.bool true),after:=args }=some (.bool (true == true)) from w_eq_bool (w_res rfl) w_lit) rfl
theorem Qq{l:lT}{n:Nat}{q:aE}{loose:List Str}{XP:(Str->Option aa)->aw->Prop}{YP:ay->aw->Prop}{d:DefRec}
  (hn:l.most=some n) (hdf:d.params.defaults=[])
  (call:∀(w:ay) (s₀ s₁:af) (mg mb:Str->Option aa) (fa:ae) (o:Obj) (pm cd doc:aa) (a:ae) (vs:List aa) (ns:List Int),
   Ground q loose [] XP w s₀ mg mb s₁.heap->YP w s₁.heap ->
   s₁.heap.get? fa=some o->o.data=.func (docDef d.name d.params d.body d.scope pm cd doc)->s₁.heap.CodeRec cd d.name->mg d.name=some (.ref fa) ->
   s₁.heap.get? a=some { cls:=.type "list",data:=.seq vs.toArray }->kM vs ns->ns.length<=n->s₁.gens=#[] ->
   fg (ar l.prog w) j6 (.call (.ref fa) ⟨[.ref a],[]⟩) (fun r s'=>r=.ok (.ret (.bool true))/\OldK s₁.heap s'.heap/\s'.os=s₁.os/\iS s'.gens) s₁) :
  WalkO q loose XP YP l.row.toRowW d [] (fun f vs=>PySem.call f vs):=by
 intro w s₀ s₁ mg mb G Y fa o pm cd doc dV kV ho hd hcd hD hmg hg args vals as hpre hlay hrd hwl hlo;obtain rfl:dV=.none:=Dflts.none hD hdf;obtain rfl:kV=.none:=Dflts.noKw hD;obtain⟨a,vs,ns,rfl,rfl,hobj,hints,hlen⟩:=YD hn hpre hwl;refine enter_call (i4 (call w s₀ s₁ mg mb fa o pm cd doc a vs ns G Y ho (fd_plain hd) hcd hmg hobj hints hlen hg) fun r s' hq=>?_);obtain⟨rfl,h2,h3,h4⟩:=hq;exact⟨.inl ⟨.bool true,.bool true,[],rfl,fun _=>rfl,.bool true,YF l _,fun _=>⟨wt.nil,fun _ hm=>(nomatch hm)⟩⟩,h2,h3,h4⟩
section
variable{prog:aE}{w:ay}{A:aT}{E:aa->af->Prop}{s:af}{K:c9}
noncomputable def anx(h:aw)(L d:ae):List (ae×Obj):=(b7 h.objs.size).filterMap fun a=>if a=L∨a=d then none else (h.get? a).map fun o=>(a,o)
end
end Att
namespace L2
open PySem PySem.Spec PyProof.Rows
theorem Cu:∀{vs:List aa}{ns:List Int},kM vs ns->Vals (ns.map V.int) vs
 |_,_,.nil=>.nil
 |_,_,.cons n t h=>.cons ⟨t,rfl⟩ (Cu h)
noncomputable def aiq(H:Hp):Prop:=∀b,H b=none∨∃o xs,H b=some (.Jw o (.lst xs))
theorem abt{P:aE}{w:ay}{K:ai}{mg mb:Str->Option aa}{CX:Yz}{k:Nat}{fa a:ae}{fd:cz}{x:Str}{sp:Sp}{s₁:af}{vs:List aa}{ns:List Int}
  (KX:K.In s₁.heap) (hns:s₁.heap.Ns bb mg) (hb:s₁.heap.Ns builtinsNs mb) (hbb:∀x:Str,x≠"__name__"->mb x=gi x) (hlim:s₁.heap.NoLimit) (hbm:∃bm ob,mg "__builtins__"=some (.ref bm)/\bm≠builtinsNs/\s₁.heap.get? bm=some ob/\ob.cls=.type "module"/\ob.dict=some builtinsNs/\ob.data=.plain) (hg:s₁.gens=#[])
  (ha:s₁.heap.get? a=some { cls:=.type "list",data:=.seq vs.toArray }) (hi:kM vs ns) (hl:ns.length<=sizeLine) (hr:jP k j6)
  (F:∀base:aw,K.In base->base.Ns bb mg->nD P w K mg base CX k fa fd [x] sp) (hbind:∀(s:af) (u:aa),i0 s fd ⟨[u],[]⟩ [(x,u)])
  (hsp:∀H:Hp,aiq H->nu K H a (ns.map V.int)->sp [.ref a] H (fun v _=>v=.bl true) fun _ _ _=>False)
  (hCX:∀H e s',CX [] H s₁ (fun _ _ _=>False) e s'->False) :
  fg (ar P w) j6 (.call (.ref fa) ⟨[.ref a],[]⟩) (fun r s'=>r=.ok (.ret (.bool true))/\OldK s₁.heap s'.heap/\s'.os=s₁.os/\iS s'.gens) s₁:=by
 have rv:=Cu hi;have lenV:=hi.length;have core:∀H:Hp,aiq H->nu K H a (ns.map V.int)->Cj P w H s₁.heap->(∀b,H b≠none->b=a)->(H a≠none->K.lookup a=none) ->
   fg (ar P w) j6 (.call (.ref fa) ⟨[.ref a],[]⟩) (fun r s'=>r=.ok (.ret (.bool true))/\OldK s₁.heap s'.heap/\s'.os=s₁.os/\iS s'.gens) s₁:=by
  intro H hO hS hok hA hK;have Le:∀{b:ae}{o:Obj},s₁.heap.get? b=some o->H b=none->(KN s₁.heap H).get? b=some o:=fun e n=>aaW e n;have noA:∀{b:ae}{o:Obj}{es:Array nc}{ep:Nat},s₁.heap.get? b=some o->o.data=.dict es ep->H b=none:=fun {b o es ep} e d=>by
   cases q:H b with
   |none=>rfl
   |some u =>
    have e':b=a:=hA b (by rw[q];simp);subst e';rw[ha]at e;cases e;have d':Data.seq vs.toArray _=Data.dict es ep:=d;cases d'
  have nsK:∀{b:ae}{m:Str->Option aa},s₁.heap.Ns b m->(KN s₁.heap H).Ns b m:=fun {b m} ⟨o,es,ep,e,d,r⟩=>⟨o,es,ep,Le e (noA e d),d,r⟩
  have hKb:K.In (KN s₁.heap H):=fun b o e=>Le (KX b o e) (by
   cases q:H b with
   |none=>rfl
   |some u =>
    have e':b=a:=hA b (by rw[q];simp);subst e';rw[hK (by rw[q];simp)]at e;cases e)
  have hM:Mod K mg (KN s₁.heap H):=⟨hKb,nsK hns,⟨mb,nsK hb,hbb⟩,let ⟨mc,h1,h2⟩:=hlim;⟨mc,nsK h1,h2⟩,let ⟨bm,ob,e1,e2,e3,e4,e5,e6⟩:=hbm;⟨bm,ob,e1,e2,Le e3 (by
   cases q:H bm with
   |none=>rfl
   |some u =>
    have e':bm=a:=hA bm (by rw[q];simp);subst e';rw[ha]at e3;cases e3;cases e6),e4,e5,e6⟩⟩
  have e0:Qk P w K mg (KN s₁.heap H) j6 [] s₁ H:=⟨rfl,hM,fun b o e=>aev e,o_ (Yo _ _),trivial,fun b hb=>absurd (show b∈([]:List ae) from hb) (by simp),hok,.of_eq hg⟩
  refine i4 ((F _ hKb (nsK hns)).run j6 [] s₁ H ⟨[.ref a],[]⟩ [.ref a] [.ref a] _ _ hr e0 (hbind s₁ (.ref a)) (.cons rfl .nil) (hsp H hO hS)) fun r s' h=>?_;cases r with
  |error e=>exact(hCX H e s' h).elim
  |ok fl =>
   cases fl with
   |next=>exact dy h
   |brk=>exact dy h
   |cont=>exact dy h
   |ret u =>
    obtain⟨v,H',os,bare,un,hok',r',q⟩:=h;have q':v=.bl true:=q;subst q';obtain rfl:u=aa.bool true:=r';refine⟨rfl,OldK.of_keep fun b o e=>?_,os,bare⟩;cases q:H b with
    |none=>exact un.keep b o e q (by intro z;exact absurd (show b∈([]:List ae) from z) (by simp)) (by simp)
    |some u =>
     rcases hO b with z|⟨ob,xs,z⟩
     ·rw[q]at z;cases z
     ·have z2:=un.Fq b ob _ z;obtain⟨e1,_⟩:=hok b _ z;obtain⟨e2,_⟩:=hok' b _ z2;rw[e]at e1;cases e1;exact e2
 cases hk:K.lookup a with
 |some o =>
  have e:=KX a o hk;rw[ha]at e;cases e;refine core (fun _=>none) (fun _=>.inl rfl) (.inr ⟨_,vs.toArray,_,hk,rfl,rfl,rfl,by rw[cv,lenV];exact hl,by simpa using rv⟩) (fun b u z=>by have z':(none:Option HO)=some u:=z;cases z') (fun b z=>absurd rfl z) fun z=>absurd rfl z
 |none =>
  refine core (fun b=>if b=a then some (.Jw { cls:=.type "list",data:=.seq vs.toArray } (.lst (ns.map V.int))) else none) (fun b=>?_) (.inl (.inr ⟨{ cls:=.type "list",data:=.seq vs.toArray },if_pos rfl⟩)) (fun b u z=>?_) (fun b z=>?_) fun _=>hk
  ·by_cases hb:b=a
   ·exact .inr ⟨_,_,if_pos hb⟩
   ·exact .inl (if_neg hb)
  ·by_cases hb:b=a
   ·have z':=(if_pos hb).symm.trans z;cases z';subst hb;exact⟨ha,by rw[b_];exact hl,vs,_,rv,ha⟩
   ·have z':=(if_neg hb).symm.trans z;cases z'
  ·by_cases hb:b=a
   ·exact hb
   ·exact absurd (if_neg hb) z
noncomputable abbrev KOf{K:ai}{h:aw}(_:K.In h):ai:=K
theorem aeT{l:PySem.W.OpenLaw}{n k:Nat}{q:aE}{loose:List Str}{XP:(Str->Option aa)->aw->Prop}{YP:ay->aw->Prop}{d:DefRec}{K:Params->ai}{CX:ay->Yz}{sp:ay->Sp}{x:Str}
  (hn:l.most=some n) (hn2:n<=sizeLine) (hdf:d.params.defaults=[]) (hr:jP k j6)
  (hY:∀(w:ay) (h:aw),YP w h->(K w.params).In h)
  (F:∀(w:ay) (mg:Str->Option aa) (fa:ae) (h:aw),(K w.params).In h->h.Ns bb mg->mg d.name=some (.ref fa) ->
   ∃fd:cz,(∀(s:af) (u:aa),i0 s fd ⟨[u],[]⟩ [(x,u)]) /\
    ∀base:aw,(K w.params).In base->base.Ns bb mg->nD l.prog w (K w.params) mg base (CX w) k fa fd [x] (sp w))
  (hsp:∀(w:ay) (H:Hp) (a:ae) (ns:List Int),ns.length<=n->aiq H->nu (K w.params) H a (ns.map V.int)->sp w [.ref a] H (fun v _=>v=.bl true) fun _ _ _=>False)
  (hCX:∀(w:ay) (H:Hp) (s:af) (e:aa) (s':af),CX w [] H s (fun _ _ _=>False) e s'->False) :
  PySem.W.WalkO q loose XP YP l.row.toRowW d [] (fun f vs=>PySem.call f vs):=by
 refine Att.Qq hn hdf fun w s₀ s₁ mg mb fa o pm cd doc a vs ns G Y ho hd hcd hmg hobj hints hlen hg=>?_;have KX:=hY w _ Y;obtain⟨fd,hb,hF⟩:=F w mg fa _ KX G.T.g hmg;exact abt KX G.T.g G.T.b G.T.builtins G.T.nolimit G.T.bmain hg hobj hints (ck hlen hn2) hr hF hb (fun H hO hS=>hsp w H a ns hlen hO hS) fun H e s'=>hCX w H s₁ e s'
noncomputable def iC(s:aS):Arguments:=match s with
 | .FunctionDef _ a _ _ _ _ _ _ _ _=>a
 |_=>{ posonlyargs:=[],args:=[],vararg:=none,kwonlyargs:=[],kw_defaults:=[],kwarg:=none,defaults:=[] }
noncomputable def cM(s:aS):List aS:=match s with
 | .FunctionDef _ _ b _ _ _ _ _ _ _=>b
 |_=>[]
noncomputable def aC(s:aS):Scope:=match s with
 | .FunctionDef _ _ _ _ _ _ sc _ _ _=>sc
 |_=>{ kind:=.function,names:=[],isGenerator:=false,isCoroutine:=false }
structure Fun (K:ai)(x qual:Str)(st:aS)(f:ae)(fd:cz):Prop where
 ex:∃(oc:aa) (od:Option ae) (kV doc pm:aa) (an:Option ae) (cdv ct:aa) (osl:Array (Option aa)),
  fd=gx x qual (iC st) (cM st) (aC st) .none kV doc pm an cdv ct/\K.lookup f=some ⟨oc,od,.func fd,osl⟩/\nz K cdv qual=true
 kp:iF K (.ref f)=true
section
variable{P:aE}{w:ay}{K:ai}{mg:Str->Option aa}{base:aw}
theorem Fun.binds{x qual:Str}{st:aS}{f:ae}{fd:cz}{ps:List Str}(F:Fun K x qual st f fd)
  (h:∀(kV doc pm:aa) (an:Option ae) (cdv ct:aa) (us:List aa),us.length=ps.length->bindArgs (gx x qual (iC st) (cM st) (aC st) .none kV doc pm an cdv ct) ⟨us,[]⟩=pure (ps.zip us)):Binds K fd ps []:=by
 obtain⟨oc,od,kV,doc,pm,an,cdv,ct,osl,rfl,lk,hcd⟩:=F.ex;exact .all (h kV doc pm an cdv ct)
theorem abu{x qual:Str}{st:aS}{f:ae}{oc:aa}{od an:Option ae}{osl:Array (Option aa)}{kV doc pm cdv ct:aa}(l:K.lookup f=some ⟨oc,od,.func (gx x qual (iC st) (cM st) (aC st) .none kV doc pm an cdv ct),osl⟩)
  (c:nz K cdv qual=true) (k:iF K (.ref f)=true):Fun K x qual st f (gx x qual (iC st) (cM st) (aC st) .none kV doc pm an cdv ct):=⟨⟨oc,od,kV,doc,pm,an,cdv,ct,osl,rfl,l,c⟩,k⟩
end
theorem YG{n:Nat}(h:n<=1000):n < sizeLine:=j7 h (by decide)
section
variable{X:Cx}
end
noncomputable def Same(H H':Hp):Prop:=∀b o,H b=some o->H' b=some o
theorem Same.refl(H:Hp):Same H H:=fun _ _ h=>h
theorem Same.trans{H H1 H2:Hp}(a:Same H H1)(b:Same H1 H2):Same H H2:=fun c o h=>b c o (a c o h)
theorem Same.free{H H':Hp}(e:Same H H'){l:ae}(h:H' l=Option.none):H l=Option.none:=by
 cases q:H l with
 |none=>rfl
 |some o =>
  rw[e l o q]at h;cases h
theorem Same.seq{K:ai}{H H':Hp}{a:ae}{xs:List V}(e:Same H H')(h:nu K H a xs):nu K H' a xs:=by
 rcases h with (h|⟨o,h⟩)|h
 ·exact .inl (.inl (e _ _ h))
 ·exact .inl (.inr ⟨o,e _ _ h⟩)
 ·exact .inr h
end L2
namespace Vl
open PySem PySem.Spec L2
inductive D where
 |non|bl (b:Bool)|int (i:Int)|str (x:Str)|tup (xs:List D)|lst (xs:List D)|JG (c:Str) (n:Int)|JH (ks:LL) (ds:List D)|fn (x:Str)|obj (c:Str) (ns:List Str) (ds:List D)
noncomputable def agX(a C:ae)(dx:Option ae):aw->Prop:=fun h=>∃o vs,h.get? a=some o/\o.cls=.ref C/\o.data=.fields vs/\∀d,dx=some d->o.dict=some d
noncomputable def abv(c:Str):Str:=if c="NoText" then "at" else "place"
noncomputable def abw(G:Hp)(c:Str)(dx:Option ae)(n:Int):Prop:=n=0∨∃d i,n=2 * i + 1/\dx=some d/\G d=some (.xd [(abv c,.int i)])
theorem abw.mono{G G':Hp}(e:Same G G'){c:Str}{dx:Option ae}{n:Int}(h:abw G c dx n):abw G' c dx n:=h.imp id fun⟨d,i,h1,h2,h3⟩=>⟨d,i,h1,h2,e _ _ h3⟩
noncomputable def UG(K:ai)(G:Hp):ae->List Int->Prop:=fun b ks=>qF K G b (ks.map V.int)
noncomputable def aeU(ks:List Int):Int:=reduceHash (cS.Tuple.tupleHashOf (ks.map hashInt))
noncomputable def aeV(U:ae->List Int->Prop)(a:ae)(kvs:List (List Int×V)):aw->Prop:=fun h=>∃(o:Obj) (es:Array nc) (ep:Nat) (xs:List (List Int×ae×aa)),h.get? a=some o/\o.ExactDict/\o.data=.dict es ep/\(a == sysModules)=false /\
 es.toList=xs.map (fun x=>⟨aeU x.1,.ref x.2.1,x.2.2⟩)/\(xs.map (·.1)).Nodup/\Paired (fun(p:List Int×V) (q:List Int×ae×aa)=>p.1=q.1/\U q.2.1 q.1/\RelV p.2 q.2.2) kvs xs
noncomputable def Qs(G:Hp)(a:ae)(U:ae->List Int->Prop)(ug:List (List Int×V)):Prop:=∃o,G a=some (.ext fun h=>h.get? a=some o/\aeV U a ug h)
theorem Qs.mono{G G':Hp}{a:ae}{U:ae->List Int->Prop}{ug:List (List Int×V)}(e:Same G G')(h:Qs G a U ug):Qs G' a U ug:=let ⟨o,q⟩:=h;⟨o,e _ _ q⟩
mutual
noncomputable def Rep(K:ai)(G:Hp):D->V->Prop
 | .non,v=>v=.non
 | .bl b,v=>v=.bl b
 | .int i,v=>v=.int i
 | .str x,v=>v=.str x
 | .tup ds,v=>∃a vs,v=.ref a/\qF K G a vs/\bH K G ds vs
 | .lst ds,v=>∃a vs,v=.ref a/\nu K G a vs/\bH K G ds vs
 | .JG c n,v=>∃a C dx,v=.ref a/\j8 K bb c=some (some (.ref C))/\G a=some (.ext (agX a C dx))/\abw G c dx n
 | .JH ks ds,v=>∃a U ug,v=.ref a/\Qs G a U ug/\(∀b js,U b js->UG K G b js)/\ug.map (·.1)=ks/\bH K G ds (ug.map (·.2))
 | .fn x,v=>∃a o fd,v=.ref a/\j8 K bb x=some (some (.ref a))/\K.lookup a=some o/\o.data=.func fd
 | .obj c ns ds,v=>∃a C dx us,v=.ref a/\j8 K bb c=some (some (.ref C))/\G a=some (.ins C dx (ns.zip us))/\G dx=some (.own a)/\us.length=ns.length/\bH K G ds us
noncomputable def bH(K:ai)(G:Hp):List D->List V->Prop
 | [],vs=>vs=[]
 |d::ds,vs=>∃v vs',vs=v::vs'/\Rep K G d v/\bH K G ds vs'
end
theorem Same.oV{K:ai}{H H':Hp}{a:ae}{xs:List V}(e:Same H H')(h:qF K H a xs):qF K H' a xs:=by
 rcases h with (h|⟨o,h⟩)|h
 ·exact .inl (.inl (e _ _ h))
 ·exact .inl (.inr ⟨o,e _ _ h⟩)
 ·exact .inr h
mutual
theorem Rep.mono{K:ai}{G G':Hp}(e:Same G G'):∀{d:D}{v:V},Rep K G d v->Rep K G' d v
 | .non,_,h=>by simp only[Rep]at h ⊢;exact h
 | .bl _,_,h=>by simp only[Rep]at h ⊢;exact h
 | .int _,_,h=>by simp only[Rep]at h ⊢;exact h
 | .str _,_,h=>by simp only[Rep]at h ⊢;exact h
 | .tup ds,_,h=>by simp only[Rep]at h ⊢;obtain⟨a,vs,e1,h1,h2⟩:=h;exact⟨a,vs,e1,Same.oV e h1,bH.mono e h2⟩
 | .lst ds,_,h=>by simp only[Rep]at h ⊢;obtain⟨a,vs,e1,h1,h2⟩:=h;exact⟨a,vs,e1,e.seq h1,bH.mono e h2⟩
 | .JG c n,_,h=>by simp only[Rep]at h ⊢;obtain⟨a,C,dx,e1,h1,h2,h3⟩:=h;exact⟨a,C,dx,e1,h1,e _ _ h2,h3.mono e⟩
 | .fn x,_,h=>by simp only[Rep]at h ⊢;exact h
 | .obj c ns ds,_,h=>by simp only[Rep]at h ⊢;obtain⟨a,C,dx,us,e1,h1,h2,h3,h4,h5⟩:=h;exact⟨a,C,dx,us,e1,h1,e _ _ h2,e _ _ h3,h4,bH.mono e h5⟩
 | .JH ks ds,_,h=>by simp only[Rep]at h ⊢;obtain⟨a,U,ug,e1,h1,h2,h3,h4⟩:=h;exact⟨a,U,ug,e1,h1.mono e,fun b js q=>Same.oV e (h2 b js q),h3,bH.mono e h4⟩
theorem bH.mono{K:ai}{G G':Hp}(e:Same G G'):∀{ds:List D}{vs:List V},bH K G ds vs->bH K G' ds vs
 | [],_,h=>by simp only[bH]at h ⊢;exact h
 |d::ds,_,h=>by simp only[bH]at h ⊢;obtain⟨v,vs',e1,h1,h2⟩:=h;exact⟨v,vs',e1,Rep.mono e h1,bH.mono e h2⟩
end
section
variable{K:ai}{G:Hp}
theorem bN{i:Int}{v:V}:Rep K G (.int i) v↔v=.int i:=by simp only[Rep]
theorem fG{i:Bool}{v:V}:Rep K G (.bl i) v↔v=.bl i:=by simp only[Rep]
theorem sI{v:V}:Rep K G .non v↔v=.non:=by simp only[Rep]
theorem pq{x:Str}{v:V}:Rep K G (.str x) v↔v=.str x:=by simp only[Rep]
theorem bV{ds:List D}{v:V}:Rep K G (.tup ds) v↔∃a vs,v=.ref a/\qF K G a vs/\bH K G ds vs:=by simp only[Rep]
theorem bO{ds:List D}{v:V}:Rep K G (.lst ds) v↔∃a vs,v=.ref a/\nu K G a vs/\bH K G ds vs:=by simp only[Rep]
theorem Ws{c:Str}{n:Int}{v:V}:Rep K G (.JG c n) v↔∃a C dx,v=.ref a/\j8 K bb c=some (some (.ref C))/\G a=some (.ext (agX a C dx))/\abw G c dx n:=by simp only[Rep]
theorem abx{x:Str}{v:V}:Rep K G (.fn x) v↔∃a o fd,v=.ref a/\j8 K bb x=some (some (.ref a))/\K.lookup a=some o/\o.data=.func fd:=by simp only[Rep]
theorem sJ{c:Str}{ns:List Str}{ds:List D}{v:V}:Rep K G (.obj c ns ds) v↔∃a C dx us,v=.ref a/\j8 K bb c=some (some (.ref C))/\G a=some (.ins C dx (ns.zip us))/\G dx=some (.own a)/\us.length=ns.length/\bH K G ds us:=by simp only[Rep]
theorem Wt{ks:LL}{ds:List D}{v:V}:Rep K G (.JH ks ds) v↔∃a U ug,v=.ref a/\Qs G a U ug/\(∀b js,U b js->UG K G b js)/\ug.map (·.1)=ks/\bH K G ds (ug.map (·.2)):=by simp only[Rep]
theorem bI{vs:List V}:bH K G [] vs↔vs=[]:=by simp only[bH]
theorem aW{d:D}{ds:List D}{vs:List V}:bH K G (d::ds) vs↔∃v vs',vs=v::vs'/\Rep K G d v/\bH K G ds vs':=by simp only[bH]
theorem bH.length:∀{ds:List D}{vs:List V},bH K G ds vs->ds.length=vs.length
 | [],_,h=>by rw[bI.mp h];rfl
 |d::ds,_,h=>by obtain⟨v,vs',rfl,_,h2⟩:=aW.mp h;simp[bH.length h2]
theorem bH.get:∀{ds:List D}{vs:List V}{i:Nat}{d:D},bH K G ds vs->ds[i]?=some d->∃v,vs[i]?=some v/\Rep K G d v
 | [],_,_,_,h,e=>by simp at e
 |d::ds,_,i,x,h,e=>by
  obtain⟨v,vs',rfl,h1,h2⟩:=aW.mp h;cases i with
  |zero=>simp at e;subst e;exact⟨v,by simp,h1⟩
  |succ i=>obtain⟨u,q1,q2⟩:=bH.get (i:=i) h2 (by simpa using e);exact⟨u,by simpa using q1,q2⟩
theorem bH.get':∀{ds:List D}{vs:List V}{i:Nat}{v:V},bH K G ds vs->vs[i]?=some v->∃d,ds[i]?=some d/\Rep K G d v
 | [],_,_,_,h,e=>by rw[bI.mp h]at e;simp at e
 |d::ds,_,i,x,h,e=>by
  obtain⟨v,vs',rfl,h1,h2⟩:=aW.mp h;cases i with
  |zero=>simp at e;subst e;exact⟨d,by simp,h1⟩
  |succ i=>obtain⟨u,q1,q2⟩:=bH.get' (i:=i) h2 (by simpa using e);exact⟨u,by simpa using q1,q2⟩
theorem bH.append:∀{ds es:List D}{vs us:List V},bH K G ds vs->bH K G es us->bH K G (ds++es) (vs++us)
 | [],_,_,_,h,h'=>by rw[bI.mp h];exact h'
 |d::ds,_,_,_,h,h'=>by obtain⟨v,vs',rfl,h1,h2⟩:=aW.mp h;exact aW.mpr ⟨v,_,rfl,h1,bH.append h2 h'⟩
theorem bH.one{d:D}{v:V}(h:Rep K G d v):bH K G [d] [v]:=aW.mpr ⟨v,[],rfl,h,bI.mpr rfl⟩
theorem JK(ns:List Int):bH K G (ns.map D.int) (ns.map V.int):=by
 induction ns with
 |nil=>exact bI.mpr rfl
 |cons n ns ih=>exact aW.mpr ⟨_,_,rfl,bN.mpr rfl,ih⟩
end
inductive Rs (α:Type) where
 |ok (a:α)|ex (c:Str) (n:Int)|no
noncomputable def Rs.bind{α β:Type}:Rs α->(α->Rs β)->Rs β
 | .ok a,k=>k a
 | .ex c n,_=>.ex c n
 | .no,_=>.no
inductive Sl where
 |no|fz (d:D)|ow (ds:List D)|od (kvs:List (List Int×D))|op (ds:List D)
noncomputable def Sl.own:Sl->Bool
 | .ow _=>true
 | .od _=>true
 | .op _=>true
 |_=>false
inductive FN (K:ai) (G:Hp):List (List Int×D)->List (List Int×V)->Prop
 |nil:FN K G [] []
 |cons {k:List Int}{d:D}{v:V}{kvs:List (List Int×D)}{ug:List (List Int×V)}:Rep K G d v->FN K G kvs ug->FN K G ((k,d)::kvs) ((k,v)::ug)
theorem FN.mono{K:ai}{G G':Hp}(e:Same G G'){kvs:List (List Int×D)}{ug:List (List Int×V)}(h:FN K G kvs ug):FN K G' kvs ug:=by
 induction h with
 |nil=>exact .nil
 |cons r _ ih=>exact .cons (r.mono e) ih
noncomputable def xJ(K:ai)(G:Hp)(a:ae):Sl->HO->Prop
 | .ow ds,o=>∃vs,o=.lst vs/\bH K G ds vs
 | .op ds,o=>∃vs,o=.lst vs/\bH K G ds vs
 | .od kvs,o=>∃U ug,o=.ext (aeV U a ug)/\(∀b ks,U b ks->UG K G b ks)/\FN K G kvs ug
 |_,_=>False
theorem xJ.mono{K:ai}{G G':Hp}(e:Same G G'){a:ae}{z:Sl}{o:HO}(h:xJ K G a z o):xJ K G' a z o:=by
 cases z with
 |ow ds=>obtain⟨vs,h1,h2⟩:=h;exact⟨vs,h1,h2.mono e⟩
 |od kvs=>obtain⟨U,ug,h1,h2,h3⟩:=h;exact⟨U,ug,h1,fun b ks q=>Same.oV e (h2 b ks q),h3.mono e⟩
 |op ds=>obtain⟨vs,h1,h2⟩:=h;exact⟨vs,h1,h2.mono e⟩
 |_=>exact h.elim
theorem xJ.tup{K:ai}{G:Hp}{a:ae}{z:Sl}{xs:List V}(h:xJ K G a z (.tup xs)):False:=by
 cases z with
 |ow ds=>obtain⟨vs,h1,h2⟩:=h;cases h1
 |od kvs=>obtain⟨U,ug,h1,h2,h3⟩:=h;cases h1
 |op ds=>obtain⟨vs,h1,h2⟩:=h;cases h1
 |_=>exact h
noncomputable abbrev aD:=List Sl
structure Bs where
 g:Hp
 h:Hp
 p:ae
noncomputable abbrev Wi:=Str->Int->St->Hp->Prop
noncomputable def aeW(fd:cz):Bool:=match fd.body with
 | .stmts ss=>(match ss.getLast? with
  |some (.Return (some (.Call _ _ (k::_) _)) _)=>(match k.value with|.Lambda _ _ _ _=>true|_=>false)
  |_=>false)
 |_=>false
noncomputable def air(K:ai):List (ae×Str):=K.filterMap fun p=>match p.2.data with
 | .func fd=>if aeW fd then (match fd.code with
  | .ref c=>(match K.lookup c with
   |some oc=>(match oc.data with|.fields vs=>(match (vs[11]?:Option aa) with|some (.ref P)=>some (P,fd.qualname++(".<locals>.<lambda>":Str))|_=>none)|_=>none)
   |none=>none)
  |_=>none) else none
 |_=>none
noncomputable def Cok(K:ai)(H:Hp):Prop:=∀x∈air K,H x.1=some (.tab x.2)
theorem Cok.same{K:ai}{H H':Hp}(h:Cok K H)(e:Same H H'):Cok K H':=fun x m=>e _ _ (h x m)
theorem Cok.upd{K:ai}{H:Hp}{a:ae}{o u:HO}(h:Cok K H)(e:H a=some u)(n:∀q,u≠.tab q):Cok K (upd H a o):=fun x m=>by have:=h x m;rw[aQ (fun z=>by subst z;rw[e]at this;exact n _ (dk this))];exact this
theorem xJ.tab{K:ai}{G:Hp}{a:ae}{z:Sl}{o:HO}(h:xJ K G a z o):∀q,o≠.tab q:=fun q e=>by
 subst e;cases z with
 |ow ds=>obtain⟨vs,h1,h2⟩:=h;cases h1
 |od kvs=>obtain⟨U,ug,h1,h2,h3⟩:=h;cases h1
 |op ds=>obtain⟨vs,h1,h2⟩:=h;cases h1
 |_=>exact h
structure Ext (G H G' H':Hp):Prop where
 gg:Same G G'
 hh:Same H H'
 gh:Same G' H'
 tp:∀a xs,H' a=some (.tup xs)->G' a=some (.tup xs)
 nw:∀b o,H b=some o->G b=none->G' b=none
theorem Ext.trans{G H G1 H1 G2 H2:Hp}(a:Ext G H G1 H1)(b:Ext G1 H1 G2 H2):Ext G H G2 H2 :=
 ⟨a.gg.trans b.gg,a.hh.trans b.hh,b.gh,b.tp,fun c o h n=>b.nw c o (a.hh c o h) (a.nw c o h n)⟩
theorem Ext.refl{G H:Hp}(gh:Same G H)(tp:∀a xs,H a=some (.tup xs)->G a=some (.tup xs)):Ext G H G H:=⟨.refl _,.refl _,gh,tp,fun _ _ _ n=>n⟩
structure SR (K:ai)(B:Bs)(σ:St)(H:Hp)(ρ:aD)(G:Hp):Prop where
 en:Ext B.1 B.2 G H
 len:ρ.length=σ.length
 fz:∀(i:Nat) (d:D),ρ[i]?=some (.fz d)->∃v,σ[i]?=some (some v)/\Rep K G d v
 own:∀(i:Nat) (z:Sl),ρ[i]?=some z->z.own=true->∃a o,σ[i]?=some (some (.ref a))/\H a=some o/\G a=none/\B.2 a=none/\xJ K G a z o
 ap:∀(i j:Nat) (z z':Sl) (a:ae),ρ[i]?=some z->z.own=true->ρ[j]?=some z'->z'.own=true->σ[i]?=some (some (.ref a))->σ[j]?=some (some (.ref a))->i=j
 tie:∀(i:Nat) (ds:List D) (a:ae),ρ[i]?=some (.op ds)->σ[i]?=some (some (.ref a))->a=B.3
 co:Cok K H
structure Ex0 (K:ai)(G H:Hp):Prop extends Ext G H G H where
 co:Cok K H
section
variable{K:ai}{B:Bs}{σ:St}{H H' G G':Hp}{ρ:aD}
theorem SR.Qt(h:SR K B σ H ρ G):Ext G H G H:=.refl h.en.gh h.en.tp
theorem SR.ext(h:SR K B σ H ρ G)(e:Ext G H G' H'):SR K B σ H' ρ G' where
 en:=h.en.trans e
 len:=h.len
 fz:=fun i d q=>let ⟨v,h1,h2⟩:=h.fz i d q;⟨v,h1,h2.mono e.gg⟩
 own:=fun i z q w=>let ⟨a,o,h1,h2,h3,h4,h5⟩:=h.own i z q w;⟨a,o,h1,e.hh _ _ h2,e.nw _ _ h2 h3,h4,h5.mono e.gg⟩
 ap:=h.ap
 tie:=h.tie
 co:=h.co.same e.hh
theorem SR.ex0(h:SR K B σ H ρ G):Ex0 K G H:=⟨h.Qt,h.co⟩
theorem SR.set(h:SR K B σ H ρ G){i:Nat}{d:D}{v:V}(r:Rep K G d v):SR K B (σ.set i (some v)) H (ρ.set i (.fz d)) G where
 en:=h.en
 len:=by simp[h.len]
 fz:=fun j d' q=>by
  by_cases e:i=j
  ·subst e;have hl:i < ρ.length:=by have:=(dq.mp q).1;simpa using this
   rw[dt hl]at q;cases q;exact⟨v,dt (by rw[<- h.len];exact hl),r⟩
  ·rw[c8 e]at q;rw[c8 e];exact h.fz j d' q
 own:=fun j z q w=>by
  by_cases e:i=j
  ·subst e;have hl:i < ρ.length:=by have:=(dq.mp q).1;simpa using this
   rw[dt hl]at q;cases q;cases w
  ·rw[c8 e]at q;rw[c8 e];exact h.own j z q w
 ap:=fun j k z z' a q1 w1 q2 w2 q3 q4=>by
  have ne:∀(l:Nat) (z:Sl),(ρ.set i (.fz d))[l]?=some z->z.own=true->i≠l:=fun l z q w e=>by
   subst e;have hl:i < ρ.length:=by have:=(dq.mp q).1;simpa using this
   rw[dt hl]at q;cases q;cases w
  have n1:=ne j z q1 w1;have n2:=ne k z' q2 w2;rw[c8 n1]at q1 q3;rw[c8 n2]at q2 q4;exact h.ap j k z z' a q1 w1 q2 w2 q3 q4
 tie:=fun j ds a q1 q2=>by
  have e:i≠j:=fun e=>by
   subst e;have hl:i < ρ.length:=by have:=(dq.mp q1).1;simpa using this
   rw[dt hl]at q1;cases q1
  rw[c8 e]at q1 q2;exact h.tie j ds a q1 q2
 co:=h.co
theorem SR.ow(h:SR K B σ H ρ G)(i:Nat)(ds:List D)(q:ρ[i]?=some (.ow ds)):∃a vs,σ[i]?=some (some (.ref a))/\H a=some (.lst vs)/\G a=none/\B.2 a=none/\bH K G ds vs:=by obtain⟨a,o,h1,h2,h3,h4,vs,rfl,h5⟩:=h.own i _ q rfl;exact⟨a,vs,h1,h2,h3,h4,h5⟩
theorem sO(gh:Same G H)(tp:∀a xs,H a=some (.tup xs)->G a=some (.tup xs)){p:ae}{xs:List V}(hp:H p=none):Ext G H (upd G p (.tup xs)) (upd H p (.tup xs)) where
 gg:=fun b o e=>by rw[aQ (aR (gh _ _ e) hp)];exact e
 hh:=fun b o e=>by rw[aQ (aR e hp)];exact e
 gh:=fun b o e=>by
  by_cases q:b=p
  ·subst q;rw[aV]at e ⊢;exact e
  ·rw[aQ q]at e ⊢;exact gh _ _ e
 tp:=fun b ys e=>by
  by_cases q:b=p
  ·subst q;rw[aV]at e ⊢;exact e
  ·rw[aQ q]at e ⊢;exact tp _ _ e
 nw:=fun b o e n=>by rw[aQ (aR e hp)];exact n
theorem Ez(gh:Same G H)(tp:∀a xs,H a=some (.tup xs)->G a=some (.tup xs)){p:ae}{xs:List V}(hp:H p=none):Ext G H (upd G p (.lst xs)) (upd H p (.lst xs)) where
 gg:=fun b o e=>by rw[aQ (aR (gh _ _ e) hp)];exact e
 hh:=fun b o e=>by rw[aQ (aR e hp)];exact e
 gh:=fun b o e=>by
  by_cases q:b=p
  ·subst q;rw[aV]at e ⊢;exact e
  ·rw[aQ q]at e ⊢;exact gh _ _ e
 tp:=fun b ys e=>by
  by_cases q:b=p
  ·subst q;rw[aV]at e;cases e
  ·rw[aQ q]at e ⊢;exact tp _ _ e
 nw:=fun b o e n=>by rw[aQ (aR e hp)];exact n
theorem aeX(gh:Same G H)(tp:∀a xs,H a=some (.tup xs)->G a=some (.tup xs)){p:ae}{o:HO}(ho:∀xs,o≠.tup xs)(hp:H p=none):Ext G H G (upd H p o) where
 gg:=.refl _
 hh:=fun b o e=>by rw[aQ (aR e hp)];exact e
 gh:=fun b o e=>by rw[aQ (aR (gh _ _ e) hp)];exact gh _ _ e
 tp:=fun b ys e=>by
  by_cases q:b=p
  ·subst q;rw[aV]at e;cases e;exact absurd rfl (ho ys)
  ·rw[aQ q]at e;exact tp _ _ e
 nw:=fun b o e n=>n
theorem yL(gh:Same G H)(tp:∀a xs,H a=some (.tup xs)->G a=some (.tup xs)){p:ae}{xs:List V}(hp:H p=none):Ext G H G (upd H p (.lst xs)) where
 gg:=.refl _
 hh:=fun b o e=>by rw[aQ (aR e hp)];exact e
 gh:=fun b o e=>by rw[aQ (aR (gh _ _ e) hp)];exact gh _ _ e
 tp:=fun b ys e=>by
  by_cases q:b=p
  ·subst q;rw[aV]at e;cases e
  ·rw[aQ q]at e;exact tp _ _ e
 nw:=fun b o e n=>n
end
noncomputable def Post(K:ai)(W:Wi)(σ:St)(G H:Hp)(r:Rs D)(Q:VK):Prop :=
 match r with
 | .ok d=>∀v H' G',Ext G H G' H'->Rep K G' d v->Q v H'
 | .ex c n=>∀H' G',Ext G H G' H'->W c n σ H'
 | .no=>False
noncomputable def tF(K:ai)(B:Bs)(W:Wi)(f:aD->Rs D):TE:=fun σ H Q=>∃ρ G,SR K B σ H ρ G/\Post K W σ G H (f ρ) Q
noncomputable def SE(X:Cx)(B:Bs)(W:Wi)(e:ag)(f:aD->Rs D):Prop:=PE X e (tF X.K B W f)
theorem PE.imp{X:Cx}{e:ag}{t t':TE}(h:PE X e t)(i:∀σ H Q,t' σ H Q->t σ H Q):PE X e t':=fun pins s σ H Q I q=>h pins s σ H Q I (i σ H Q q)
theorem PT.imp{X:Cx}{e:ag}{t t':TT}(h:PT X e t)(i:∀σ H Q,t' σ H Q->t σ H Q):PT X e t':=fun pins s σ H Q I q=>h pins s σ H Q I (i σ H Q q)
theorem PA.imp{X:Cx}{e:List ag}{t t':TA}(h:PA X e t)(i:∀σ H Q,t' σ H Q->t σ H Q):PA X e t':=fun pos pins s σ H Q I q=>h pos pins s σ H Q I (i σ H Q q)
theorem PS.imp{X:Cx}{e:aS}{t t':TS}(h:PS X e t)(i:∀De σ H,t' De σ H->t De σ H):PS X e t':=fun pins s σ H De I q=>h pins s σ H De I (i De σ H q)
theorem Qh.imp{X:Cx}{e:List aS}{t t':TS}(h:Qh X e t)(i:∀De σ H,t' De σ H->t De σ H):Qh X e t':=fun pins s σ H De I q=>h pins s σ H De I (i De σ H q)
section
variable{X:Cx}{K:ai}{B:Bs}{W:Wi}{σ:St}{G H:Hp}{ρ:aD}{Q Q':VK}
theorem Post.mono{r:Rs D}(h:Post K W σ G H r Q)(i:∀v H',Q v H'->Q' v H'):Post K W σ G H r Q':=by
 cases r with
 |ok d=>exact fun v H' G' e r=>i _ _ (h v H' G' e r)
 |ex c n=>exact h
 |no=>exact h
theorem Post.ext{r:Rs D}{G' H':Hp}(e:Ext G H G' H')(h:Post K W σ G H r Q):Post K W σ G' H' r Q:=by
 cases r with
 |ok d=>exact fun v Wu G'' e' r=>h v Wu G'' (e.trans e') r
 |ex c n=>exact fun Wu G'' e'=>h Wu G'' (e.trans e')
 |no=>exact h
theorem Post.bind{r:Rs D}{k:D->Rs D}(h:Post K W σ G H (r.bind k) Q) :
  Post K W σ G H r fun v H1=>∃G1 d,Ext G H G1 H1/\Rep K G1 d v/\Post K W σ G1 H1 (k d) Q:=by
 cases r with
 |ok d=>exact fun v H' G' e r=>⟨G',d,e,r,Post.ext e h⟩
 |ex c n=>exact h
 |no=>exact h
theorem Post.ok{d:D}{v:V}(s:SR K B σ H ρ G)(h:Post K W σ G H (.ok d) Q)(r:Rep K G d v):Q v H:=h v H G s.Qt r
theorem sS{f:aD->Rs D}{k:aD->D->Rs D}(h:tF K B W (fun ρ=>(f ρ).bind (k ρ)) σ H Q) :
  tF K B W f σ H fun v H1=>∃ρ G1 d,SR K B σ H1 ρ G1/\Rep K G1 d v/\Post K W σ G1 H1 (k ρ d) Q:=by
 obtain⟨ρ,G,s,p⟩:=h;exact⟨ρ,G,s,p.bind.mono fun v H1 ⟨G1,d,e,r,q⟩=>⟨ρ,G1,d,s.ext e,r,q⟩⟩
theorem aby{f:aD->Rs D}{k:D->D->Rs D}{v:V}(h:∃ρ G1 d,SR K B σ H ρ G1/\Rep K G1 d v/\Post K W σ G1 H ((f ρ).bind (k d)) Q) :
  tF K B W f σ H fun u H1=>∃ρ G1 d d',SR K B σ H1 ρ G1/\Rep K G1 d v/\Rep K G1 d' u/\Post K W σ G1 H1 (k d d') Q:=by
 obtain⟨ρ,G,d,s,r,p⟩:=h;exact⟨ρ,G,s,p.bind.mono fun u H1 ⟨G1,d',e,r',q⟩=>⟨ρ,G1,d,d',s.ext e,r.mono e.gg,r',q⟩⟩
noncomputable def aF(i:Nat):aD->Rs D:=fun ρ=>match ρ[i]? with|some (.fz d)=>.ok d|_=>.no
noncomputable def fC(d:D):aD->Rs D:=fun _=>.ok d
theorem ais{e:ag}{i:Nat}(h:PE X e (Yr i)):SE X B W e (aF i):=PE.imp h fun σ H Q ⟨ρ,G,s,p⟩=>by
 unfold aF at p;cases q:ρ[i]? with
 |none=>rw[q]at p;exact p.elim
 |some x =>
  rw[q]at p;cases x with
  |no=>exact p.elim
  |ow _=>exact p.elim
  |od _=>exact p.elim
  |op _=>exact p.elim
  |fz d =>
   obtain⟨v,h1,h2⟩:=s.fz i d q;exact⟨v,h1,Post.ok s p h2⟩
theorem sv(i:Nat){x:Str}{pos:Pos}(hN:X.N[i]?=some x:=by rfl)(hv:Ik X.env.scope x:=by first|exact Or.inl rfl|exact Or.inr (Or.inl rfl)|exact Or.inr (Or.inr rfl))(hd:wk x:=by decide)
  (hcd:Qc x:=by decide):SE X B W (.Name x pos) (aF i):=ais (nC hN hv hd hcd)
theorem ait{e:ag}{v:V}{d:D}(h:PE X e (tC v))(r:∀G,Rep X.K G d v):SE X B W e (fC d):=PE.imp h fun σ H Q ⟨ρ,G,s,p⟩=>Post.ok s p (r G)
theorem aH{i:Int}{j pos}:SE X B W (.Constant (.int i) j pos) (fC (.int i)):=ait ahQ fun _=>bN.mpr rfl
theorem Dv{b:Bool}{j pos}:SE X B W (.Constant (.bool b) j pos) (fC (.bl b)):=ait akE fun _=>fG.mpr rfl
theorem bB{x j pos}:SE X B W (.Constant (.str x) j pos) (fC (.str x)):=ait aaX fun _=>pq.mpr rfl
noncomputable def bW(g:D->D->Rs D)(fa fb:aD->Rs D):aD->Rs D:=fun ρ=>(fa ρ).bind fun x=>(fb ρ).bind fun y=>g x y
noncomputable def Wv(K:ai)(r:R2)(g:D->D->Rs D):Prop :=
 ∀(B:Bs) (W:Wi) (σ:St) (ρ:aD) (G H:Hp) (x y:D) (v u:V) (Q:VK),SR K B σ H ρ G->Rep K G x v->Rep K G y u->Post K W σ G H (g x y) Q->r v u H Q
theorem Lf{r:R2}{g:D->D->Rs D}{fa fb:aD->Rs D}(ho:Wv K r g)(h:tF K B W (bW g fa fb) σ H Q):tOp r (tF K B W fa) (tF K B W fb) σ H Q:=by obtain⟨ρ,G,s,p⟩:=sS (k:=fun ρ x=>(fb ρ).bind fun y=>g x y) h;refine⟨ρ,G,s,p.mono fun v H1 h1=>?_⟩;obtain⟨ρ,G,s,p⟩:=aby (k:=g) h1;exact⟨ρ,G,s,p.mono fun u H2 ⟨ρ2,G2,d,d',s2,r1,r2,p2⟩=>ho B W σ ρ2 G2 H2 d d' v u Q s2 r1 r2 p2⟩
theorem JL{a b:ag}{op:Operator}{pos:Pos}{r:R2}{g:D->D->Rs D}{fa fb:aD->Rs D}(ho:Ak X (fE op) r)(hg:Wv X.K r g)(ha:SE X B W a fa)(hb:SE X B W b fb):SE X B W (.BinOp a op b pos) (bW g fa fb) :=
 PE.imp (abg ho ha hb) fun _ _ _ h=>Lf hg h
noncomputable def gI(C:Int->Int->Prop)[∀i j,Decidable (C i j)](g:Int->Int->D):D->D->Rs D
 | .int i,.int j=>if C i j then .ok (g i j) else .no
 |_,_=>.no
theorem Ww{C:Int->Int->Prop}[∀i j,Decidable (C i j)]{gv:Int->Int->V}{g:Int->Int->D}(hg:∀G i j,Rep K G (g i j) (gv i j)):Wv K (rI C gv) (gI C g):=by
 intro B W σ ρ G H x y v u Q s rx ry p;cases x <;> first|exact p.elim|skip
 rename_i i;cases y <;> first|exact p.elim|skip
 rename_i j;simp only[gI]at p;by_cases c:C i j
 ·rw[if_pos c]at p;exact⟨i,j,bN.mp rx,bN.mp ry,c,Post.ok s p (hg G i j)⟩
 ·rw[if_neg c]at p;exact p.elim
noncomputable def gI0(g:Int->Int->D):D->D->Rs D
 | .int i,.int j=>.ok (g i j)
 |_,_=>.no
theorem Cv{gv:Int->Int->V}{g:Int->Int->D}(hg:∀G i j,Rep K G (g i j) (gv i j)):Wv K (rI0 gv) (gI0 g):=by
 intro B W σ ρ G H x y v u Q s rx ry p;cases x <;> first|exact p.elim|skip
 rename_i i;cases y <;> first|exact p.elim|skip
 rename_i j;exact⟨i,j,bN.mp rx,bN.mp ry,Post.ok s p (hg G i j)⟩
end
mutual
noncomputable def wX:D->D->Bool
 | .tup a,.tup b=>FP a b
 | .lst a,.lst b=>FP a b
 | .non,.non=>true
 | .bl a,.bl b=>a == b
 | .bl a,.int b=>(if a then 1 else 0) == b
 | .int a,.bl b=>a == (if b then 1 else 0)
 | .int a,.int b=>a == b
 | .str a,.str b=>a == b
 | .JG a b,.JG c d=>a == c && b == d
 | .JH _ _,.JH _ _=>true
 | .fn a,.fn b=>a == b
 | .obj _ _ _,.obj _ _ _=>true
 |_,_=>false
noncomputable def FP:List D->List D->Bool
 | [],[]=>true
 |a::as,b::bs=>wX a b && FP as bs
 |_,_=>false
end
mutual
noncomputable def nA:D->Nat
 | .tup a=>oM a + 1
 | .lst a=>oM a + 1
 | .JG _ _=>b9
 | .JH _ _=>b9
 | .fn _=>b9
 | .obj _ _ _=>b9
 |_=>0
noncomputable def oM:List D->Nat
 | []=>0
 |a::as=>Nat.max (nA a) (oM as)
end
mutual
theorem Aq:∀d:D,wX d d=true
 | .non=>by simp[wX]
 | .bl _=>by simp[wX]
 | .int _=>by simp[wX]
 | .str _=>by simp[wX]
 | .tup a=>by simp[wX,Cw a]
 | .lst a=>by simp[wX,Cw a]
 | .JG _ _=>by simp[wX]
 | .JH _ _=>by simp[wX]
 | .fn _=>by simp[wX]
 | .obj _ _ _=>by simp[wX]
theorem Cw:∀d:List D,FP d d=true
 | []=>by simp[FP]
 |a::as=>by simp[FP,Aq a,Cw as]
end
theorem jh:∀(a b:List D),((b7 (min a.length b.length)).all (fun j=>wX (a.getD j .non) (b.getD j .non)) && a.length == b.length)=FP a b
 | [],[]=>by simp[FP]
 | [],b::bs=>by simp[FP]
 |a::as,[]=>by simp[FP]
 |a::as,b::bs=>by have ih:=jh as bs;rw[FP,<- ih];rw[show min (a::as).length (b::bs).length=min as.length bs.length + 1 by simp];rw[l4,pk,List.all_map];simp[pM,Bool.and_assoc]
theorem Av{d:D}:∀{ds:List D},d∈ds->nA d<=oM ds
 | [],h=>by cases h
 |x::xs,h=>by
  rw[oM];rcases bq.mp h with rfl|h
  ·exact Nat.le_max_left _ _
  ·exact ck (Av h) (t9 _ _)
section
variable{X:Cx}{pins:List (ae×Obj)}{σ:St}{H:Hp}{s:af}
theorem Qu(I:Inv X pins σ H s){a:ae}{xs ys:List V}(h:nu X.K H a xs)(h':qF X.K H a ys):False:=by obtain⟨_,_,⟨o,n,e,c,_,_⟩,_⟩:=I.list h;obtain⟨_,_,⟨o',e',c',_⟩,_⟩:=I.tuple h';rw[e]at e';cases e';rw[c]at c';exact absurd c' (by decide)
theorem Qv(I:Inv X pins σ H s){a:ae}{xs:List V}{φ:aw->Prop}(h:qF X.K H a xs)(h':H a=some (.ext φ)):False:=by
 rcases h with (h|⟨o,h⟩)|⟨o,its,n,hk,_⟩
 ·rw[h']at h;cases h
 ·rw[h']at h;cases h
 ·have:=(I.bs a o (I.mod.Yp a o hk)).2;rw[h']at this;cases this
theorem Qw(I:Inv X pins σ H s){a:ae}{xs:List V}{φ:aw->Prop}(h:nu X.K H a xs)(h':H a=some (.ext φ)):False:=by
 rcases h with (h|⟨o,h⟩)|⟨o,its,n,hk,_⟩
 ·rw[h']at h;cases h
 ·rw[h']at h;cases h
 ·have:=(I.bs a o (I.mod.Yp a o hk)).2;rw[h']at this;cases this
theorem aeY{a:ae}{xs:List V}{o:Obj}{fd:cz}(I:Inv X pins σ H s)(h:qF X.K H a xs)(hk:X.K.lookup a=some o)(hd:o.data=.func fd):False:=by
 have hn:=(I.bs a o (I.mod.Yp a o hk)).2;rcases h with (h|⟨o',h⟩)|⟨o',its,n,hk',hs⟩
 ·rw[hn]at h;cases h
 ·rw[hn]at h;cases h
 ·rw[hk]at hk';cases hk';rcases hs with ⟨_,hs,_⟩;rw[hd]at hs;cases hs
theorem aeZ{a:ae}{xs:List V}{o:Obj}{fd:cz}(I:Inv X pins σ H s)(h:nu X.K H a xs)(hk:X.K.lookup a=some o)(hd:o.data=.func fd):False:=by
 have hn:=(I.bs a o (I.mod.Yp a o hk)).2;rcases h with (h|⟨o',h⟩)|⟨o',its,n,hk',hs⟩
 ·rw[hn]at h;cases h
 ·rw[hn]at h;cases h
 ·rw[hk]at hk';cases hk';rcases hs with ⟨_,_,hs,_⟩;rw[hd]at hs;cases hs
theorem abz(I:Inv X pins σ H s){a C dx:ae}{xs:List V}{fs:List (Str×V)}(h:qF X.K H a xs)(h':H a=some (.ins C dx fs)):False:=by
 rcases h with (h|⟨o,h⟩)|⟨o,its,n,hk,_⟩
 ·rw[h']at h;cases h
 ·rw[h']at h;cases h
 ·have:=(I.bs a o (I.mod.Yp a o hk)).2;rw[h']at this;cases this
theorem abA(I:Inv X pins σ H s){a C dx:ae}{xs:List V}{fs:List (Str×V)}(h:nu X.K H a xs)(h':H a=some (.ins C dx fs)):False:=by
 rcases h with (h|⟨o,h⟩)|⟨o,its,n,hk,_⟩
 ·rw[h']at h;cases h
 ·rw[h']at h;cases h
 ·have:=(I.bs a o (I.mod.Yp a o hk)).2;rw[h']at this;cases this
mutual
theorem Rep.inj(I:Inv X pins σ H s):∀{d d':D}{v:V},nA d < b9->Rep X.K H d v->Rep X.K H d' v->d=d'
 | .non,d',v,_,h,h'=>by
  rw[sI.mp h]at h';cases d' <;> simp only[Rep]at h' <;> first|rfl|(obtain⟨a,vs,e,_⟩:=h';cases e;done)|(obtain⟨a,U,ug,e,_⟩:=h';cases e;done)|(obtain⟨a,C,dx,us,e,_⟩:=h';cases e;done)|(cases h';rfl)|cases h'
 | .bl _,d',v,_,h,h'=>by
  rw[fG.mp h]at h';cases d' <;> simp only[Rep]at h' <;> first|rfl|(obtain⟨a,vs,e,_⟩:=h';cases e;done)|(obtain⟨a,U,ug,e,_⟩:=h';cases e;done)|(obtain⟨a,C,dx,us,e,_⟩:=h';cases e;done)|(cases h';rfl)|cases h'
 | .int _,d',v,_,h,h'=>by
  rw[bN.mp h]at h';cases d' <;> simp only[Rep]at h' <;> first|rfl|(obtain⟨a,vs,e,_⟩:=h';cases e;done)|(obtain⟨a,U,ug,e,_⟩:=h';cases e;done)|(obtain⟨a,C,dx,us,e,_⟩:=h';cases e;done)|(cases h';rfl)|cases h'
 | .str _,d',v,_,h,h'=>by
  rw[pq.mp h]at h';cases d' <;> simp only[Rep]at h' <;> first|rfl|(obtain⟨a,vs,e,_⟩:=h';cases e;done)|(obtain⟨a,U,ug,e,_⟩:=h';cases e;done)|(obtain⟨a,C,dx,us,e,_⟩:=h';cases e;done)|(cases h';rfl)|cases h'
 | .tup ds,d',v,hd,h,h'=>by
  obtain⟨a,vs,rfl,q,r⟩:=bV.mp h;cases d' with
  |tup es =>
   obtain⟨b,us,e,q',r'⟩:=bV.mp h';cases e;rw[I.yK q' q]at r';rw[bH.inj I (by simp only[nA]at hd;lia) r r']
  |lst es =>
   obtain⟨b,us,e,q',r'⟩:=bO.mp h';cases e;exact(Qu I q' q).elim
  |JG c n =>
   obtain⟨b,C,_,e,_,q',_⟩:=Ws.mp h';cases e;exact(Qv I q q').elim
  |fn c =>
   obtain⟨b,o,fd,e,_,q1,q2⟩:=abx.mp h';cases e;exact(aeY I q q1 q2).elim
  |obj c ns es =>
   obtain⟨b,C,dx,us,e,_,q',_⟩:=sJ.mp h';cases e;exact(abz I q q').elim
  |JH c n =>
   obtain⟨b,U,ug,e,⟨_,q'⟩,_⟩:=Wt.mp h';cases e;exact(Qv I q q').elim
  |_=>simp only[Rep]at h';cases h'
 | .lst ds,d',v,hd,h,h'=>by
  obtain⟨a,vs,rfl,q,r⟩:=bO.mp h;cases d' with
  |lst es =>
   obtain⟨b,us,e,q',r'⟩:=bO.mp h';cases e;rw[I.xG q' q]at r';rw[bH.inj I (by simp only[nA]at hd;lia) r r']
  |tup es =>
   obtain⟨b,us,e,q',r'⟩:=bV.mp h';cases e;exact(Qu I q q').elim
  |JG c n =>
   obtain⟨b,C,_,e,_,q',_⟩:=Ws.mp h';cases e;exact(Qw I q q').elim
  |fn c =>
   obtain⟨b,o,fd,e,_,q1,q2⟩:=abx.mp h';cases e;exact(aeZ I q q1 q2).elim
  |obj c ns es =>
   obtain⟨b,C,dx,us,e,_,q',_⟩:=sJ.mp h';cases e;exact(abA I q q').elim
  |JH c n =>
   obtain⟨b,U,ug,e,⟨_,q'⟩,_⟩:=Wt.mp h';cases e;exact(Qw I q q').elim
  |_=>simp only[Rep]at h';cases h'
 | .JG _ _,d',v,hd,h,h'=>by simp only[nA]at hd;exact absurd hd (eJ _)
 | .JH _ _,d',v,hd,h,h'=>by simp only[nA]at hd;exact absurd hd (eJ _)
 | .fn _,d',v,hd,h,h'=>by simp only[nA]at hd;exact absurd hd (eJ _)
 | .obj _ _ _,d',v,hd,h,h'=>by simp only[nA]at hd;exact absurd hd (eJ _)
theorem bH.inj(I:Inv X pins σ H s):∀{ds es:List D}{vs:List V},oM ds < b9->bH X.K H ds vs->bH X.K H es vs->ds=es
 | [],es,vs,_,h,h'=>by
  rw[bI.mp h]at h';cases es with
  |nil=>rfl
  |cons e es=>obtain⟨v,vs',e1,_⟩:=aW.mp h';cases e1
 |d::ds,es,vs,hd,h,h'=>by
  obtain⟨v,vs',rfl,r1,r2⟩:=aW.mp h;simp only[oM]at hd;cases es with
  |nil=>have:=bI.mp h';cases this
  |cons e es =>
   obtain⟨v',vs'',e1,r1',r2'⟩:=aW.mp h';cases e1;rw[Rep.inj I (j7 (Nat.le_max_left _ _) hd) r1 r1',bH.inj I (j7 (t9 _ _) hd) r2 r2']
end
theorem FQ(I:Inv X pins σ H s){m:Nat}{A:aT}{ds es:List D}{vs us:List V}{its its2:List aa}
  (ih:∀{d d':D}{v v':V}{u u':aa}{A:aT},nA d<=m->nA d'<=m->A.units + m < b9->Rep X.K H d v->Rep X.K H d' v'->RelV v u->RelV v' u'->lj A s u u' (wX d d'))
  (hn:oM ds<=m) (hn':oM es<=m) (hu:A.in1.units + m < b9) (r1:bH X.K H ds vs) (r2:bH X.K H es us) (a1:Vals vs its) (a2:Vals us its2) :
  ∀j (h1:j < its.toArray.size) (h2:j < its2.toArray.size),lj A.in1 s its.toArray[j] its2.toArray[j] (wX (ds.getD j .non) (es.getD j .non)):=by
 intro j h1 h2;have l1:j < ds.length:=by rw[r1.length,a1.length];simpa using h1
 have l2:j < es.length:=by rw[r2.length,a2.length];simpa using h2
 obtain⟨x,hx,rx⟩:=r1.get (i:=j) (d:=ds[j]) (by simp[l1]);obtain⟨y,hy,ry⟩:=r2.get (i:=j) (d:=es[j]) (by simp[l2]);obtain⟨p,hp,rp⟩:=a1.get hx;obtain⟨q,hq,rq⟩:=a2.get hy;have e1:its.toArray[j]=p:=by have:=(dq.mp hp).2;simpa using this
 have e2:its2.toArray[j]=q:=by have:=(dq.mp hq).2;simpa using this
 rw[e1,e2,gE,gE,di l1,di l2];exact ih (ck (Av (fF l1)) hn) (ck (Av (fF l2)) hn') hu rx ry rp rq
inductive Kd (X:Cx) (H:Hp) (s:af):D->aa->Prop
 |n:Kd X H s .non .none
 |b (x:Bool):Kd X H s (.bl x) (.bool x)
 |i (x:Int) (t:Tok):Kd X H s (.int x) (.int x t)
 |s (x:Str) (t:Tok):Kd X H s (.str x) (.str x t)
 |t {a:ae}{its:List aa}(ds:List D):s.heap.IsTuple a its.toArray->Kd X H s (.tup ds) (.ref a)
 |l {a:ae}{its:List aa}(ds:List D):s.heap.IsList a its.toArray->Kd X H s (.lst ds) (.ref a)
theorem Dw(I:Inv X pins σ H s){n:Nat}{d:D}{v:V}{u:aa}(hd:nA d<=n)(hn:n < b9)(r:Rep X.K H d v)(e:RelV v u):Kd X H s d u:=by
 cases d with
 |non=>rw[sI.mp r]at e;cases e;exact .n
 |bl x=>rw[fG.mp r]at e;cases e;exact .b x
 |int x=>rw[bN.mp r]at e;obtain⟨t,rfl⟩:=e;exact .i x t
 |str x=>rw[pq.mp r]at e;obtain⟨t,rfl⟩:=e;exact .s x t
 |tup ds=>obtain⟨a,vs,rfl,q,_⟩:=bV.mp r;cases e;obtain⟨its,_,t,_⟩:=I.tuple q;exact .t ds t
 |lst ds=>obtain⟨a,vs,rfl,q,_⟩:=bO.mp r;cases e;obtain⟨its,_,t,_⟩:=I.list q;exact .l ds t.isList
 |_=>simp only[nA]at hd;exact absurd hn (by lia)
noncomputable def sk:D->D->Bool
 | .tup _,.tup _=>true
 | .lst _,.lst _=>true
 |_,_=>false
open SeqAt in
theorem Qx{d d':D}{u u':aa}{A:aT}(k:Kd X H s d u)(k':Kd X H s d' u')(hu:A.units < b9)(hs:sk d d'=false):EqAt A s u u' (wX d d'):=by
 cases k with
 |n =>
  cases k' with
  |n=>exact EqAt.same _
  |b y=>exact EqAt.none_bool y
  |i y r=>exact EqAt.none_int y r
  |s y r=>exact EqAt.none_str y r
  |t es g=>exact EqAt.none_tuple g hu
  |l es g=>exact EqAt.none_list g hu
 |b x =>
  cases k' with
  |n=>exact EqAt.bool_none x
  |b y=>exact EqAt.bool_bool x y
  |i y r=>exact EqAt.bool_int x y r
  |s y r=>exact EqAt.bool_str x y r
  |t es g=>exact EqAt.bool_tuple x g hu
  |l es g=>exact EqAt.bool_list x g hu
 |i x t =>
  cases k' with
  |n=>exact EqAt.int_none x t
  |b y=>exact EqAt.int_bool x t y
  |i y r=>exact EqAt.int_int x t y r
  |s y r=>exact EqAt.int_str x t y r
  |t es g=>exact EqAt.int_tuple x t g hu
  |l es g=>exact EqAt.int_list x t g hu
 |s x t =>
  cases k' with
  |n=>exact EqAt.str_none x t
  |b y=>exact EqAt.str_bool x t y
  |i y r=>exact EqAt.str_int x t y r
  |s y r=>exact EqAt.str_str x t y r
  |t es g=>exact EqAt.str_tuple x t g hu
  |l es g=>exact EqAt.str_list x t g hu
 |t ds h =>
  cases k' with
  |n=>exact EqAt.tuple_none h hu
  |b y=>exact EqAt.tuple_bool y h hu
  |i y r=>exact EqAt.tuple_int y r h hu
  |s y r=>exact EqAt.tuple_str y r h hu
  |t es g=>cases hs
  |l es g=>exact EqAt.tuple_list h g hu
 |l ds h =>
  cases k' with
  |n=>exact EqAt.list_none h hu
  |b y=>exact EqAt.list_bool y h hu
  |i y r=>exact EqAt.list_int y r h hu
  |s y r=>exact EqAt.list_str y r h hu
  |t es g=>exact EqAt.list_tuple h g hu
  |l es g=>cases hs
open SeqAt in
theorem abB(I:Inv X pins σ H s):∀(n:Nat) {d d':D}{v v':V}{u u':aa}{A:aT},nA d<=n->nA d'<=n->A.units + n < b9->Rep X.K H d v->Rep X.K H d' v'->RelV v u->RelV v' u'->EqAt A s u u' (wX d d'):=by
 intro n
 induction n with
 |zero =>
  intro d d' v v' u u' A hd hd' hu r r' e e';exact Qx (Dw I hd (by lia) r e) (Dw I hd' (by lia) r' e') (by lia) (by cases d <;> cases d' <;> first|rfl|(simp only[nA]at hd;lia))
 |succ m ih =>
  intro d d' v v' u u' A hd hd' hu r r' e e';have hu0:A.units < b9:=by lia
  cases hs:sk d d' with
  |false=>exact Qx (Dw I hd (by lia) r e) (Dw I hd' (by lia) r' e') hu0 hs
  |true =>
   cases d with
   |tup ds =>
    cases d' with
    |tup es =>
     obtain⟨a,vs,rfl,q,rr⟩:=bV.mp r;cases e;obtain⟨its,av,t,_⟩:=I.tuple q;obtain⟨b,us,rfl,q',rr'⟩:=bV.mp r';cases e';obtain⟨its2,JM,t2,_⟩:=I.tuple q';have hn:oM ds<=m:=by simp only[nA]at hd;lia
     have hn':oM es<=m:=by simp only[nA]at hd';lia
     by_cases hab:a=b
     ·subst hab;rw[Rep.inj I (by lia) r r',Aq];exact EqAt.same _
     have items:=FQ I ih hn hn' (show A.in1.units + m < b9 by show A.units + 1 + m < _;lia) rr rr' av JM;have h:=RcAt.tuples (A:=A) t t2 hu0 items;rw[cv,cv,<- av.length,<- JM.length,<- rr.length,<- rr'.length,jh]at h;exact EqAt.of_refs hab h
    |_=>cases hs
   |lst ds =>
    cases d' with
    |lst es =>
     obtain⟨a,vs,rfl,q,rr⟩:=bO.mp r;cases e;obtain⟨its,av,t1,_⟩:=I.list q;have t:=t1.isList;obtain⟨b,us,rfl,q',rr'⟩:=bO.mp r';cases e';obtain⟨its2,JM,t3,_⟩:=I.list q';have t2:=t3.isList;have hn:oM ds<=m:=by simp only[nA]at hd;lia
     have hn':oM es<=m:=by simp only[nA]at hd';lia
     by_cases hab:a=b
     ·subst hab;rw[Rep.inj I (by lia) r r',Aq];exact EqAt.same _
     have items:=FQ I ih hn hn' (show A.in1.units + m < b9 by show A.units + 1 + m < _;lia) rr rr' av JM;by_cases hl:its.toArray.size=its2.toArray.size
     ·have h:=RcAt.lists (A:=A) t t2 hl hu0 items;rw[cv,<- av.length,<- rr.length]at h;have hl':ds.length=es.length:=by rw[rr.length,rr'.length,av.length,JM.length];simpa using hl
      have e1:=jh ds es;rw[hl',t_]at e1;simp only[beq_self_eq_true,pS]at e1;rw[hl',e1]at h;exact EqAt.of_refs hab h
     ·have h:=RcAt.lists_lengths (A:=A) t t2 (by simpa using hl) hu0;have hl':ds.length≠es.length:=by rw[rr.length,rr'.length,av.length,JM.length];simpa using hl
      have e1:=jh ds es;rw[show(ds.length == es.length)=false by simpa using hl',lS]at e1;rw[show wX (.lst ds) (.lst es)=false by rw[wX,<- e1]];exact EqAt.of_refs hab h
    |_=>cases hs
   |_=>cases d' <;> cases hs
end
section
variable{X:Cx}{pins:List (ae×Obj)}{σ:St}{H:Hp}{s:af}
theorem Aw(I:Inv X pins σ H s){m:Nat}{A:aT}{ds es:List D}{vs us:List V}{its its2:List aa}(hn:oM ds<=m)(hn':oM es<=m)(hu:A.in1.units + m < b9)(r1:bH X.K H ds vs)(r2:bH X.K H es us)(a1:Vals vs its)(a2:Vals us its2) :
  ∀j (h1:j < its.toArray.size) (h2:j < its2.toArray.size),lj A.in1 s its.toArray[j] its2.toArray[j] (wX (ds.getD j .non) (es.getD j .non)) :=
 FQ I (fun a b c d e f g=>abB I m a b c d e f g) hn hn' hu r1 r2 a1 a2
open SeqAt in
theorem afa{d d':D}{u u':aa}{A:aT}(k:Kd X H s d u)(k':Kd X H s d' u')(hu:A.units < b9)(hs:sk d d'=false):RcAt A s u u' (wX d d'):=by
 cases k with
 |n =>
  cases k' with
  |n=>exact RcAt.none_none
  |b y=>exact RcAt.none_bool y
  |i y r=>exact RcAt.none_int y r
  |s y r=>exact RcAt.none_str y r
  |t es g=>exact RcAt.none_tuple g hu
  |l es g=>exact RcAt.none_list g hu
 |b x =>
  cases k' with
  |n=>exact RcAt.bool_none x
  |b y=>exact RcAt.bool_bool x y
  |i y r=>exact RcAt.bool_int x y r
  |s y r=>exact RcAt.bool_str x y r
  |t es g=>exact RcAt.bool_tuple x g hu
  |l es g=>exact RcAt.bool_list x g hu
 |i x t =>
  cases k' with
  |n=>exact RcAt.int_none x t
  |b y=>exact RcAt.int_bool x t y
  |i y r=>exact RcAt.int_int x t y r
  |s y r=>exact RcAt.int_str x t y r
  |t es g=>exact RcAt.int_tuple x t g hu
  |l es g=>exact RcAt.int_list x t g hu
 |s x t =>
  cases k' with
  |n=>exact RcAt.str_none x t
  |b y=>exact RcAt.str_bool x t y
  |i y r=>exact RcAt.str_int x t y r
  |s y r=>exact RcAt.str_str x t y r
  |t es g=>exact RcAt.str_tuple x t g hu
  |l es g=>exact RcAt.str_list x t g hu
 |t ds h =>
  cases k' with
  |n=>exact RcAt.tuple_none h hu
  |b y=>exact RcAt.tuple_bool y h hu
  |i y r=>exact RcAt.tuple_int y r h hu
  |s y r=>exact RcAt.tuple_str y r h hu
  |t es g=>cases hs
  |l es g=>exact RcAt.tuple_list h g hu
 |l ds h =>
  cases k' with
  |n=>exact RcAt.list_none h hu
  |b y=>exact RcAt.list_bool y h hu
  |i y r=>exact RcAt.list_int y r h hu
  |s y r=>exact RcAt.list_str y r h hu
  |t es g=>exact RcAt.list_tuple h g hu
  |l es g=>cases hs
open SeqAt in
theorem aiu(I:Inv X pins σ H s){n:Nat}{d d':D}{v v':V}{u u':aa}{A:aT}(hd:nA d<=n)(hd':nA d'<=n)(hu:A.units + n < b9)(r:Rep X.K H d v)(r':Rep X.K H d' v')(e:RelV v u)(e':RelV v' u'):RcAt A s u u' (wX d d'):=by
 have hu0:A.units < b9:=by lia
 cases hs:sk d d' with
 |false=>exact afa (Dw I hd (by lia) r e) (Dw I hd' (by lia) r' e') hu0 hs
 |true =>
  obtain⟨m,rfl⟩:∃m,n=m + 1:=⟨n - 1,by cases d <;> first|(simp only[nA]at hd;lia)|(cases d' <;> cases hs)⟩
  cases d with
  |tup ds =>
   cases d' with
   |tup es =>
    obtain⟨a,vs,rfl,q,rr⟩:=bV.mp r;cases e;obtain⟨its,av,t,_⟩:=I.tuple q;obtain⟨b,us,rfl,q',rr'⟩:=bV.mp r';cases e';obtain⟨its2,JM,t2,_⟩:=I.tuple q';have hn:oM ds<=m:=by simp only[nA]at hd;lia
    have hn':oM es<=m:=by simp only[nA]at hd';lia
    have items:=Aw I hn hn' (show A.in1.units + m < b9 by show A.units + 1 + m < _;lia) rr rr' av JM;have h:=RcAt.tuples (A:=A) t t2 hu0 items;rw[cv,cv,<- av.length,<- JM.length,<- rr.length,<- rr'.length,jh]at h;exact h
   |_=>cases hs
  |lst ds =>
   cases d' with
   |lst es =>
    obtain⟨a,vs,rfl,q,rr⟩:=bO.mp r;cases e;obtain⟨its,av,t1,_⟩:=I.list q;have t:=t1.isList;obtain⟨b,us,rfl,q',rr'⟩:=bO.mp r';cases e';obtain⟨its2,JM,t3,_⟩:=I.list q';have t2:=t3.isList;have hn:oM ds<=m:=by simp only[nA]at hd;lia
    have hn':oM es<=m:=by simp only[nA]at hd';lia
    have items:=Aw I hn hn' (show A.in1.units + m < b9 by show A.units + 1 + m < _;lia) rr rr' av JM;by_cases hl:its.toArray.size=its2.toArray.size
    ·have h:=RcAt.lists (A:=A) t t2 hl hu0 items;rw[cv,<- av.length,<- rr.length]at h;have hl':ds.length=es.length:=by rw[rr.length,rr'.length,av.length,JM.length];simpa using hl
     have e1:=jh ds es;rw[hl',t_]at e1;simp only[beq_self_eq_true,pS]at e1;rw[hl',e1]at h;exact h
    ·have h:=RcAt.lists_lengths (A:=A) t t2 (by simpa using hl) hu0;have hl':ds.length≠es.length:=by rw[rr.length,rr'.length,av.length,JM.length];simpa using hl
     have e1:=jh ds es;rw[show(ds.length == es.length)=false by simpa using hl',lS]at e1;rw[show wX (.lst ds) (.lst es)=false by rw[wX,<- e1]];exact h
   |_=>cases hs
  |_=>cases d' <;> cases hs
open SeqAt in
theorem YH{d d':D}{u u':aa}{A:aT}(k:Kd X H s d u)(k':Kd X H s d' u')(hu:A.units < b9)(hs:sk d d'=false):RcNeAt A s u u' (!wX d d'):=by
 cases k with
 |n =>
  cases k' with
  |n=>exact RcNeAt.none_none
  |b y=>exact RcNeAt.none_bool y
  |i y r=>exact RcNeAt.none_int y r
  |s y r=>exact RcNeAt.none_str y r
  |t es g=>exact RcNeAt.none_tuple g hu
  |l es g=>exact RcNeAt.none_list g hu
 |b x =>
  cases k' with
  |n=>exact RcNeAt.bool_none x
  |b y=>exact RcNeAt.bool_bool x y
  |i y r=>exact RcNeAt.bool_int x y r
  |s y r=>exact RcNeAt.bool_str x y r
  |t es g=>exact RcNeAt.bool_tuple x g hu
  |l es g=>exact RcNeAt.bool_list x g hu
 |i x t =>
  cases k' with
  |n=>exact RcNeAt.int_none x t
  |b y=>exact RcNeAt.int_bool x t y
  |i y r=>exact RcNeAt.int_int x t y r
  |s y r=>exact RcNeAt.int_str x t y r
  |t es g=>exact RcNeAt.int_tuple x t g hu
  |l es g=>exact RcNeAt.int_list x t g hu
 |s x t =>
  cases k' with
  |n=>exact RcNeAt.str_none x t
  |b y=>exact RcNeAt.str_bool x t y
  |i y r=>exact RcNeAt.str_int x t y r
  |s y r=>exact RcNeAt.str_str x t y r
  |t es g=>exact RcNeAt.str_tuple x t g hu
  |l es g=>exact RcNeAt.str_list x t g hu
 |t ds h =>
  cases k' with
  |n=>exact RcNeAt.tuple_none h hu
  |b y=>exact RcNeAt.tuple_bool y h hu
  |i y r=>exact RcNeAt.tuple_int y r h hu
  |s y r=>exact RcNeAt.tuple_str y r h hu
  |t es g=>cases hs
  |l es g=>exact RcNeAt.tuple_list h g hu
 |l ds h =>
  cases k' with
  |n=>exact RcNeAt.list_none h hu
  |b y=>exact RcNeAt.list_bool y h hu
  |i y r=>exact RcNeAt.list_int y r h hu
  |s y r=>exact RcNeAt.list_str y r h hu
  |t es g=>exact RcNeAt.list_tuple h g hu
  |l es g=>cases hs
open SeqAt in
theorem abC(I:Inv X pins σ H s){n:Nat}{d d':D}{v v':V}{u u':aa}{A:aT}(hd:nA d<=n)(hd':nA d'<=n)(hu:A.units + n < b9)(r:Rep X.K H d v)(r':Rep X.K H d' v')(e:RelV v u)(e':RelV v' u'):RcNeAt A s u u' (!wX d d'):=by
 have hu0:A.units < b9:=by lia
 cases hs:sk d d' with
 |false=>exact YH (Dw I hd (by lia) r e) (Dw I hd' (by lia) r' e') hu0 hs
 |true =>
  obtain⟨m,rfl⟩:∃m,n=m + 1:=⟨n - 1,by cases d <;> first|(simp only[nA]at hd;lia)|(cases d' <;> cases hs)⟩
  cases d with
  |tup ds =>
   cases d' with
   |tup es =>
    obtain⟨a,vs,rfl,q,rr⟩:=bV.mp r;cases e;obtain⟨its,av,t,_⟩:=I.tuple q;obtain⟨b,us,rfl,q',rr'⟩:=bV.mp r';cases e';obtain⟨its2,JM,t2,_⟩:=I.tuple q';have hn:oM ds<=m:=by simp only[nA]at hd;lia
    have hn':oM es<=m:=by simp only[nA]at hd';lia
    have items:=Aw I hn hn' (show A.in1.units + m < b9 by show A.units + 1 + m < _;lia) rr rr' av JM;have h:=RcNeAt.tuples (A:=A) t t2 hu0 items;rw[cv,cv,<- av.length,<- JM.length,<- rr.length,<- rr'.length,jh]at h;exact h
   |_=>cases hs
  |lst ds =>
   cases d' with
   |lst es =>
    obtain⟨a,vs,rfl,q,rr⟩:=bO.mp r;cases e;obtain⟨its,av,t1,_⟩:=I.list q;have t:=t1.isList;obtain⟨b,us,rfl,q',rr'⟩:=bO.mp r';cases e';obtain⟨its2,JM,t3,_⟩:=I.list q';have t2:=t3.isList;have hn:oM ds<=m:=by simp only[nA]at hd;lia
    have hn':oM es<=m:=by simp only[nA]at hd';lia
    have items:=Aw I hn hn' (show A.in1.units + m < b9 by show A.units + 1 + m < _;lia) rr rr' av JM;by_cases hl:its.toArray.size=its2.toArray.size
    ·have h:=RcNeAt.lists (A:=A) t t2 hl hu0 items;rw[cv,<- av.length,<- rr.length]at h;have hl':ds.length=es.length:=by rw[rr.length,rr'.length,av.length,JM.length];simpa using hl
     have e1:=jh ds es;rw[hl',t_]at e1;simp only[beq_self_eq_true,pS]at e1;rw[hl',e1]at h;exact h
    ·have h:=RcNeAt.lists_lengths (A:=A) t t2 (by simpa using hl) hu0;have hl':ds.length≠es.length:=by rw[rr.length,rr'.length,av.length,JM.length];simpa using hl
     have e1:=jh ds es;rw[show(ds.length == es.length)=false by simpa using hl',lS]at e1;rw[show wX (.lst ds) (.lst es)=false by rw[wX,<- e1]];exact h
   |_=>cases hs
  |_=>cases d' <;> cases hs
end
noncomputable def zc(W:Wi)(σ:St)(G H:Hp)(r:Rs Bool)(Q:Bool->Hp->Prop):Prop :=
 match r with
 | .ok b=>∀H' G',Ext G H G' H'->Q b H'
 | .ex c n=>∀H' G',Ext G H G' H'->W c n σ H'
 | .no=>False
noncomputable def tT(K:ai)(B:Bs)(W:Wi)(f:aD->Rs Bool):TT:=fun σ H Q=>∃ρ G,SR K B σ H ρ G/\zc W σ G H (f ρ) Q
noncomputable def ST(X:Cx)(B:Bs)(W:Wi)(e:ag)(f:aD->Rs Bool):Prop:=PT X e (tT X.K B W f)
noncomputable def SW(X:Cx)(B:Bs)(W:Wi)(e:ag)(f:aD->Rs Bool):Prop:=PW X e (tT X.K B W f)
noncomputable def agZ(K:ai)(W:Wi)(σ:St)(G H:Hp)(r:Rs (List D))(Q:List V->Hp->Prop):Prop :=
 match r with
 | .ok ds=>∀vs H' G',Ext G H G' H'->bH K G' ds vs->Q vs H'
 | .ex c n=>∀H' G',Ext G H G' H'->W c n σ H'
 | .no=>False
noncomputable def tAF(K:ai)(B:Bs)(W:Wi)(f:aD->Rs (List D)):TA:=fun σ H Q=>∃ρ G,SR K B σ H ρ G/\agZ K W σ G H (f ρ) Q
noncomputable def SA(X:Cx)(B:Bs)(W:Wi)(es:List ag)(f:aD->Rs (List D)):Prop:=PA X es (tAF X.K B W f)
theorem PW.imp{X:Cx}{e:ag}{t t':TT}(h:PW X e t)(i:∀σ H Q,t' σ H Q->t σ H Q):PW X e t':=fun wh pins s σ H Q I q=>h wh pins s σ H Q I (i σ H Q q)
noncomputable def toB:D->Rs Bool
 | .bl b=>.ok b
 |_=>.no
noncomputable def fT(f:aD->Rs D):aD->Rs Bool:=fun ρ=>(f ρ).bind toB
noncomputable def Im(a b:aD->Rs Bool):aD->Rs Bool:=fun ρ=>(a ρ).bind fun x=>if x=true then b ρ else .ok false
noncomputable def Lg(a b:aD->Rs Bool):aD->Rs Bool:=fun ρ=>(a ρ).bind fun x=>if x=true then .ok true else b ρ
noncomputable def Cy(a:aD->Rs Bool):aD->Rs Bool:=fun ρ=>(a ρ).bind fun x=>.ok (!x)
noncomputable def ao(a:aD->Rs D)(r:aD->Rs (List D)):aD->Rs (List D):=fun ρ=>(a ρ).bind fun x=>(r ρ).bind fun xs=>.ok (x::xs)
noncomputable def aL:aD->Rs (List D):=fun _=>.ok []
noncomputable def fA(a:aD->Rs (List D))(g:List D->Rs D):aD->Rs D:=fun ρ=>(a ρ).bind g
section
variable{X:Cx}{K:ai}{B:Bs}{W:Wi}{σ:St}{G H:Hp}{ρ:aD}
theorem zc.ext{r:Rs Bool}{Q:Bool->Hp->Prop}{G' H':Hp}(e:Ext G H G' H')(h:zc W σ G H r Q):zc W σ G' H' r Q:=by
 cases r with
 |ok d=>exact fun Wu G'' e'=>h Wu G'' (e.trans e')
 |ex c n=>exact fun Wu G'' e'=>h Wu G'' (e.trans e')
 |no=>exact h
theorem aha{f:aD->Rs D}{Q:Bool->Hp->Prop}(h:tT K B W (fT f) σ H Q):tF K B W f σ H fun x H1=>∃c,x=.bl c/\Q c H1:=by
 obtain⟨ρ,G,s,p⟩:=h;refine⟨ρ,G,s,?_⟩;unfold fT at p;cases e:f ρ with
 |ok d =>
  rw[e]at p;cases d with
  |bl b=>exact fun v H' G' e r=>⟨b,fG.mp r,p H' G' e⟩
  |_=>exact p.elim
 |ex c n=>rw[e]at p;exact p
 |no=>rw[e]at p;exact p
theorem ji{e:ag}{f:aD->Rs D}(h:SE X B W e f)(he:∀whole,isTrue e X.env whole=(do let v <- whole;jS e.pos;eL [v] (truthy v)):=by intro _;rfl):ST X B W e (fT f) :=
 PT.imp (ahR h he) fun _ _ _ h=>aha h
theorem FT{a b:ag}{op:kF}{pos:Pos}{r:R2}{g:D->D->Rs D}{fa fb:aD->Rs D}(ho:Ak X (iA op) r)(hg:Wv X.K r g)(ha:SE X B W a fa)(hb:SE X B W b fb)(hm:kG op b=false) :
  ST X B W (.Compare a [op] [b] pos) (fT (bW g fa fb)):=by
 refine PT.imp (aeI ho ha hb hm) fun σ H Q h=>?_;exact Lf hg (aha h)
theorem Us{a b:ag}{op:kF}{pos:Pos}{r:R2}{g:D->D->Rs D}{fa fb:aD->Rs D}(ho:Ak X (iA op) r)(hg:Wv X.K r g)(ha:SE X B W a fa)(hb:SE X B W b fb)(hm:kG op b=false) :
  SE X B W (.Compare a [op] [b] pos) (bW g fa fb):=PE.imp (aeH ho ha hb hm) fun _ _ _ h=>Lf hg h
theorem Wx{a:ag}{pos:Pos}{fa:aD->Rs Bool}(ha:ST X B W a fa):SW X B W (.BoolOp .And [a] pos) fa:=aez ha
theorem tU{a:ag}{pos:Pos}{fa:aD->Rs Bool}(ha:ST X B W a fa):SW X B W (.BoolOp .Or [a] pos) fa:=ahS ha
theorem abD{a b:ag}{rest:List ag}{pos:Pos}{fa fb:aD->Rs Bool}(ha:ST X B W a fa)(hb:SW X B W (.BoolOp .And (b::rest) pos) fb):SW X B W (.BoolOp .And (a::b::rest) pos) (Im fa fb):=by
 refine PW.imp (ahT ha hb) fun σ H Q ⟨ρ,G,s,p⟩=>⟨ρ,G,s,?_⟩
 unfold Im at p;cases e:fa ρ with
 |ok x =>
  rw[e]at p;intro H' G' ee;cases x with
  |true=>rw[if_pos rfl];exact⟨ρ,G',s.ext ee,zc.ext ee (show zc W σ G H (fb ρ) Q from p)⟩
  |false=>rw[if_neg (by simp)];exact(show zc W σ G H (.ok false) Q from p) H' G' ee
 |ex c n=>rw[e]at p;exact p
 |no=>rw[e]at p;exact p
theorem zf{a b:ag}{rest:List ag}{pos:Pos}{fa fb:aD->Rs Bool}(ha:ST X B W a fa)(hb:SW X B W (.BoolOp .Or (b::rest) pos) fb):SW X B W (.BoolOp .Or (a::b::rest) pos) (Lg fa fb):=by
 refine PW.imp (akF ha hb) fun σ H Q ⟨ρ,G,s,p⟩=>⟨ρ,G,s,?_⟩
 unfold Lg at p;cases e:fa ρ with
 |ok x =>
  rw[e]at p;intro H' G' ee;cases x with
  |true=>rw[if_pos rfl];exact(show zc W σ G H (.ok true) Q from p) H' G' ee
  |false=>rw[if_neg (by simp)];exact⟨ρ,G',s.ext ee,zc.ext ee (show zc W σ G H (fb ρ) Q from p)⟩
 |ex c n=>rw[e]at p;exact p
 |no=>rw[e]at p;exact p
theorem DX{e:ag}{f:aD->Rs Bool}(h:SW X B W e f):ST X B W e f:=PW.pt h
theorem vg{a:ag}{pos:Pos}{fa:aD->Rs Bool}(ha:ST X B W a fa):ST X B W (.UnaryOp .Not a pos) (Cy fa):=by
 refine PT.imp (ahU ha) fun σ H Q ⟨ρ,G,s,p⟩=>⟨ρ,G,s,?_⟩
 unfold Cy at p;cases e:fa ρ with
 |ok x=>rw[e]at p;exact p
 |ex c n=>rw[e]at p;exact p
 |no=>rw[e]at p;exact p
noncomputable def Ay(a b:aD->Rs D):aD->Rs D:=fun ρ=>(a ρ).bind fun x=>(toB x).bind fun c=>if c=true then b ρ else .ok (.bl false)
noncomputable def afb(a b:aD->Rs D):aD->Rs D:=fun ρ=>(a ρ).bind fun x=>(toB x).bind fun c=>if c=true then .ok (.bl true) else b ρ
theorem Cz{op}{a:ag}{pos:Pos}{fa:aD->Rs D}(ha:SE X B W a fa):SE X B W (.BoolOp op [a] pos) fa:=ahV ha
theorem CG{a b:ag}{rest:List ag}{pos:Pos}{fa fb:aD->Rs D}(ha:SE X B W a fa)(hb:SE X B W (.BoolOp .And (b::rest) pos) fb):SE X B W (.BoolOp .And (a::b::rest) pos) (Ay fa fb):=by
 refine PE.imp (ahW ha hb) fun σ H Q h=>?_;obtain⟨ρ,G,s,p⟩:=sS (k:=fun ρ x=>(toB x).bind fun c=>if c=true then fb ρ else .ok (.bl false)) h;refine⟨ρ,G,s,p.mono fun v H1 ⟨ρ1,G1,d,s1,r,q⟩=>?_⟩;cases d with
 |bl c =>
  refine⟨c,fG.mp r,?_⟩;cases c with
  |true=>rw[if_pos rfl];exact⟨ρ1,G1,s1,q⟩
  |false=>rw[if_neg (by simp)];exact Post.ok s1 q (fG.mpr rfl)
 |_=>exact q.elim
theorem alh{a b:ag}{rest:List ag}{pos:Pos}{fa fb:aD->Rs D}(ha:SE X B W a fa)(hb:SE X B W (.BoolOp .Or (b::rest) pos) fb):SE X B W (.BoolOp .Or (a::b::rest) pos) (afb fa fb):=by
 refine PE.imp (akH ha hb) fun σ H Q h=>?_;obtain⟨ρ,G,s,p⟩:=sS (k:=fun ρ x=>(toB x).bind fun c=>if c=true then .ok (.bl true) else fb ρ) h;refine⟨ρ,G,s,p.mono fun v H1 ⟨ρ1,G1,d,s1,r,q⟩=>?_⟩;cases d with
 |bl c =>
  refine⟨c,fG.mp r,?_⟩;cases c with
  |true=>rw[if_pos rfl];exact Post.ok s1 q (fG.mpr rfl)
  |false=>rw[if_neg (by simp)];exact⟨ρ1,G1,s1,q⟩
 |_=>exact q.elim
theorem au:SA X B W [] aL:=PA.imp kZ fun σ H Q ⟨ρ,G,s,p⟩=>p [] H G s.Qt (bI.mpr rfl)
theorem aj{e:ag}{es:List ag}{fe:aD->Rs D}{fs:aD->Rs (List D)}(ha:SE X B W e fe)(hr:SA X B W es fs)(hs:a8 (e::es) X.env=(false,a7 e X.env)::a8 es X.env:=by rfl):SA X B W (e::es) (ao fe fs):=by
 refine PA.imp (eZ ha hr hs) fun σ H Q ⟨ρ,G,s,p⟩=>⟨ρ,G,s,?_⟩
 unfold ao at p;cases e1:fe ρ with
 |ok d =>
  rw[e1]at p;intro v H1 G1 x1 r1;refine⟨ρ,G1,s.ext x1,?_⟩;have p':agZ X.K W σ G H ((fs ρ).bind fun xs=>.ok (d::xs)) Q:=p;cases e2:fs ρ with
  |ok ds =>
   rw[e2]at p';intro vs H2 G2 x2 r2;exact p' (v::vs) H2 G2 (x1.trans x2) (aW.mpr ⟨v,vs,rfl,r1.mono x2.gg,r2⟩)
  |ex c n=>rw[e2]at p';exact fun H2 G2 x2=>p' H2 G2 (x1.trans x2)
  |no=>rw[e2]at p';exact p'
 |ex c n=>rw[e1]at p;exact p
 |no=>rw[e1]at p;exact p
noncomputable def uh(K:ai)(r:List V->Hp->VK->Prop)(g:List D->Rs D):Prop :=
 ∀(B:Bs) (W:Wi) (σ:St) (ρ:aD) (G H:Hp) (ds:List D) (vs:List V) (Q:VK),SR K B σ H ρ G->bH K G ds vs->Post K W σ G H (g ds) Q->r vs H Q
theorem Wy{t:aD->Rs (List D)}{g:List D->Rs D}{r:List V->Hp->VK->Prop}{Q:VK}(hg:uh K r g)(h:tF K B W (fA t g) σ H Q):tAF K B W t σ H fun vs H1=>r vs H1 Q:=by
 obtain⟨ρ,G,s,p⟩:=h;refine⟨ρ,G,s,?_⟩;unfold fA at p;cases e:t ρ with
 |ok ds=>rw[e]at p;exact fun vs H1 G1 x r=>hg B W σ ρ G1 H1 ds vs Q (s.ext x) r (Post.ext x p)
 |ex c n=>rw[e]at p;exact p
 |no=>rw[e]at p;exact p
noncomputable def iR:List D->Rs D:=fun ds=>if ds.length<=1000 then .ok (.tup ds) else .no
noncomputable def jY:List D->Rs D:=fun ds=>if ds.length<=1000 then .ok (.lst ds) else .no
theorem xK{n:Nat}(h:n<=1000):n<=sizeLine:=hG (YG h)
theorem iy{es:List ag}{x1}{pos:Pos}{f:aD->Rs (List D)}(h:SA X B W es f):SE X B W (.Tuple es x1 pos) (fA f iR):=by
 refine PE.imp (Um h) fun σ H Q q=>Wy (r:=fun xs H1 Q=>xs.length<=sizeLine/\∀p,H1 p=none->Q (.ref p) (upd H1 p (.tup xs))) ?_ q;intro B W σ ρ G H ds vs Q s r p;unfold iR at p;by_cases hl:ds.length<=1000
 ·rw[if_pos hl]at p;refine⟨by rw[<- r.length];exact xK hl,fun a ha=>?_⟩;have x:=sO (xs:=vs) s.en.gh s.en.tp ha;exact p _ _ _ x (bV.mpr ⟨a,vs,rfl,.of aV,r.mono x.gg⟩)
 ·rw[if_neg hl]at p;exact p.elim
theorem fH{es:List ag}{pos:Pos}{f:aD->Rs (List D)}(h:SA X B W es f):SE X B W (.List es pos) (fA f jY):=by
 refine PE.imp (Cq h) fun σ H Q q=>Wy (r:=fun xs H1 Q=>xs.length<=sizeLine/\∀p,H1 p=none->Q (.ref p) (upd H1 p (.lst xs))) ?_ q;intro B W σ ρ G H ds vs Q s r p;unfold jY at p;by_cases hl:ds.length<=1000
 ·rw[if_pos hl]at p;refine⟨by rw[<- r.length];exact xK hl,fun a ha=>?_⟩;have x:=Ez (xs:=vs) s.en.gh s.en.tp ha;exact p _ _ _ x (bO.mpr ⟨a,vs,rfl,.of aV,r.mono x.gg⟩)
 ·rw[if_neg hl]at p;exact p.elim
noncomputable def jB:D->D->Rs D
 | .tup ds,.int i=>match Uo ds i with|some d=>.ok d|none=>.no
 | .lst ds,.int i=>match Uo ds i with|some d=>.ok d|none=>.no
 |_,_=>.no
theorem FW{ds:List D}{vs:List V}{i:Int}{d:D}(r:bH K G ds vs)(h:Uo ds i=some d):∃v,Uo vs i=some v/\Rep K G d v:=by
 unfold Uo at h ⊢;rw[<- r.length];cases e:Qm ds.length i with
 |none=>rw[e]at h;cases h
 |some j=>rw[e]at h;exact r.get (i:=j) h
theorem abE:Wv K (rIx K) jB:=by
 intro B W σ ρ G H x y v u Q s rx ry p;cases y <;> first|(cases x <;> exact p.elim)|skip
 rename_i i;cases x with
 |tup ds =>
  simp only[jB]at p;obtain⟨a,vs,rfl,q,rr⟩:=bV.mp rx;cases e:Uo ds i with
  |none=>rw[e]at p;exact p.elim
  |some d =>
   rw[e]at p;obtain⟨w,e2,rw'⟩:=FW rr e;exact .inr (.inl ⟨a,vs,i,w,rfl,bN.mp ry,Same.oV s.en.gh q,e2,Post.ok s p rw'⟩)
 |lst ds =>
  simp only[jB]at p;obtain⟨a,vs,rfl,q,rr⟩:=bO.mp rx;cases e:Uo ds i with
  |none=>rw[e]at p;exact p.elim
  |some d =>
   rw[e]at p;obtain⟨w,e2,rw'⟩:=FW rr e;exact .inl ⟨a,vs,i,w,rfl,bN.mp ry,s.en.gh.seq q,e2,Post.ok s p rw'⟩
 |_=>exact p.elim
theorem dY{a b:ag}{pos:Pos}{fa fb:aD->Rs D}(ha:SE X B W a fa)(hb:SE X B W b fb)(hs:Ey b:=by intro _ _;rfl):SE X B W (.Subscript a b pos) (bW jB fa fb) :=
 PE.imp (abq Uq ha hb hs) fun _ _ _ h=>Lf abE h
instance (i j:Int):Decidable (Ug i j):=by unfold Ug;exact inferInstance
instance (i j:Int):Decidable (abh i j):=by unfold abh;exact inferInstance
noncomputable def CDB(i j:Int):Prop:=0 < j/\j < 2 ^ 200
instance (i j:Int):Decidable (CDB i j):=by unfold CDB;exact inferInstance
theorem CDB.py{i j:Int}(h:CDB i j):cS.divisionGoesByPylong i j=false:=by
 refine PyProof.noPylong_of_log2 ?_;have h1:j.natAbs < 2 ^ 200:=by have:=h.1;have:=h.2;lia
 have h2:j.natAbs.log2 < 200:=(Nat.log2_lt (by have:=h.1;lia)).mpr h1;lia
theorem abF:Ak X (fE .FloorDiv) (rI CDB fun i j=>.int (i / j)):=opI fun i j _ _ _ _ _ hc q=>by have h1:=hc.1;rw[<- Int.fdiv_eq_ediv_of_nonneg i (by lia)]at q;exact PyProof.Rows.floordiv_int (by lia) q (.inl hc.py)
noncomputable def rZ:=gI0 fun i j=>D.int (i - j)
noncomputable def wY:=gI Ug fun i j=>D.int (i * j)
noncomputable def Qy:=gI CDB fun i j=>D.int (i / j)
instance (i j:Int):Decidable ((fun(_:Int) (j:Int)=>0 < j) i j):=inferInstanceAs (Decidable (0 < j))
noncomputable def Io:=gI (fun _ j=>0 < j) fun i j=>D.int (i % j)
noncomputable def Qz:=gI abh fun i j=>D.int (i ^ j.toNat)
variable{a b:ag}{pos:Pos}{fa fb:aD->Rs D}
theorem rB(ha:SE X B W a fa)(hb:SE X B W b fb):SE X B W (.BinOp a .Sub b pos) (bW rZ fa fb):=JL abj (Cv fun _ _ _=>bN.mpr rfl) ha hb
theorem zR(ha:SE X B W a fa)(hb:SE X B W b fb):SE X B W (.BinOp a .Mult b pos) (bW wY fa fb):=JL aie (Ww fun _ _ _=>bN.mpr rfl) ha hb
theorem Lh(ha:SE X B W a fa)(hb:SE X B W b fb):SE X B W (.BinOp a .FloorDiv b pos) (bW Qy fa fb):=JL abF (Ww fun _ _ _=>bN.mpr rfl) ha hb
theorem zT(ha:SE X B W a fa)(hb:SE X B W b fb):SE X B W (.BinOp a .Mod b pos) (bW Io fa fb):=JL aif (Ww fun _ _ _=>bN.mpr rfl) ha hb
theorem Ut(ha:SE X B W a fa)(hb:SE X B W b fb):SE X B W (.BinOp a .Pow b pos) (bW Qz fa fb):=JL aii (Ww fun _ _ _=>bN.mpr rfl) ha hb
noncomputable def iT:D->D->Rs D
 | .int i,.int j=>.ok (.int (i + j))
 | .lst a,.lst b=>if a.length + b.length<=1000000 then .ok (.lst (a++b)) else .no
 |_,_=>.no
theorem sz6{n:Nat}(h:n<=1000000):n<=sizeLine:=ck h (by rw[e_];decide)
end
section
variable{X:Cx}{K:ai}{B:Bs}{W:Wi}{σ:St}{G H:Hp}{ρ:aD}{a b:ag}{pos:Pos}{fa fb:aD->Rs D}
noncomputable def abG(K:ai):R2:=fun x y H Q=>∃l b xs zs,x=.ref l/\y=.ref b/\nu K H l xs/\nu K H b zs/\xs.length + zs.length<=sizeLine/\∀p,H p=none->Q (.ref p) (upd H p (.lst (xs++zs)))
open PyProof.Rows in
theorem Wz:Ak X (fE .Add) (abG X.K):=by
 intro pins s σ H x y v u Q I rx ry h;obtain⟨l,b,xs,zs,rfl,rfl,hH,hB,hz,q⟩:=h;cases rx;cases ry;obtain⟨vs,r,pl,_⟩:=I.list hH;obtain⟨ws,r2,pl2,_⟩:=I.list hB;obtain⟨⟨cls,dd,data,sl⟩,ho,hc,n,hd⟩:=pl.isList;obtain⟨⟨cls2,dd2,data2,sl2⟩,ho2,hc2,n2,hd2⟩:=pl2.isList;simp only at hc hd hc2 hd2;subst hc hd hc2 hd2;have e:vs.toArray++ws.toArray=(vs++ws).toArray:=by simp
 have l1:=r.length;have l2:=r2.length;refine ph ⟨_,ho,rfl⟩ ⟨_,ho2,rfl⟩ noFill_list_add seq_list_add PySem.F.slot_list_add PySem.F.entry_list_add (PySem.F.args_list_add_2 _ _) (list_addW l b vs.toArray ws.toArray n n2 dd dd2 sl sl2 (by simp only[cv];lia)) ⟨ho,ho2,?_⟩;rw[e];exact⟨.ref _,_,I.alc (t':=s.toks) (r.append r2) (by rw[cx];lia),rfl,q _ I.fresh⟩
theorem WD:Ak X (fE .Add) (fun x y H Q=>rI0 (fun i j=>V.int (i + j)) x y H Q∨abG X.K x y H Q):=aic.or Wz
theorem QB:Wv K (fun x y H Q=>rI0 (fun i j=>V.int (i + j)) x y H Q∨abG K x y H Q) iT:=by
 intro B W σ ρ G H x y v u Q s rx ry p;cases x with
 |int i =>
  cases y with
  |int j=>exact .inl ⟨i,j,bN.mp rx,bN.mp ry,Post.ok s p (bN.mpr rfl)⟩
  |_=>exact p.elim
 |lst ds =>
  cases y with
  |lst es =>
   simp only[iT]at p;by_cases hl:ds.length + es.length<=1000000
   ·rw[if_pos hl]at p;obtain⟨a,vs,rfl,q,r⟩:=bO.mp rx;obtain⟨b,us,rfl,q',r'⟩:=bO.mp ry;refine .inr ⟨a,b,vs,us,rfl,rfl,s.en.gh.seq q,s.en.gh.seq q',by rw[<- r.length,<- r'.length];exact sz6 hl,fun c hc=>?_⟩;have x:=Ez (xs:=vs++us) s.en.gh s.en.tp hc;exact p _ _ _ x (bO.mpr ⟨c,vs++us,rfl,.of aV,(r.append r').mono x.gg⟩)
   ·rw[if_neg hl]at p;exact p.elim
  |_=>exact p.elim
 |_=>cases y <;> exact p.elim
theorem jZ(ha:SE X B W a fa)(hb:SE X B W b fb):SE X B W (.BinOp a .Add b pos) (bW iT fa fb):=JL WD QB ha hb
variable{x:Str}{p:Pos}{e:ag}{es:List ag}{id T:String}{r:List V->Hp->VK->Prop}{g:List D->Rs D}{fs:aD->Rs (List D)}
theorem Az(hc:qG X (.builtin id) r) (hd:uh X.K r g) (hg:Gl X x) (hm:X.mg x=none) (hv:gi x=some (.builtin id)) (ha:SA X B W (e::es) fs) (hn:x≠"__name__":=by decide) (hdb:wk x:=by decide)
  (he:a8 (e::es) X.env=(false,a7 e X.env)::a8 es X.env:=by rfl) (hpl:(cE pos (a8 es X.env)).any (·.1)=false:=by rfl):SE X B W (.Call (.Name x p) (e::es) [] pos) (fA fs g) :=
 PE.imp (xH hc hg hm hv ha hn hdb he hpl) fun _ _ _ h=>Wy hd h
theorem CJ(hc:qG X (.type T) r) (hd:uh X.K r g) (hg:Gl X x) (hm:X.mg x=none) (hv:gi x=some (.type T)) (ha:SA X B W (e::es) fs) (hn:x≠"__name__":=by decide) (hdb:wk x:=by decide)
  (he:a8 (e::es) X.env=(false,a7 e X.env)::a8 es X.env:=by rfl) (hpl:(cE pos (a8 es X.env)).any (·.1)=false:=by rfl):SE X B W (.Call (.Name x p) (e::es) [] pos) (fA fs g) :=
 PE.imp (JF hc hg hm hv ha hn hdb he hpl) fun _ _ _ h=>Wy hd h
noncomputable def vh:List D->Rs D
 | [.lst ds]=>.ok (.int ds.length)
 | [.tup ds]=>.ok (.int ds.length)
 |_=>.no
theorem aiw:uh K (fun xs H Q=>∃p ys,xs=[.ref p]/\(nu K H p ys∨qF K H p ys)/\Q (.int ys.length) H) vh:=by
 intro B W σ ρ G H ds vs Q s r p
 match ds,p with
 | [.lst ds],p =>
  obtain⟨v,vs',rfl,r1,r2⟩:=aW.mp r;obtain⟨a,us,rfl,q,rr⟩:=bO.mp r1;rw[bI.mp r2];refine⟨a,us,rfl,.inl (s.en.gh.seq q),Post.ok s p ?_⟩;rw[<- rr.length];exact bN.mpr rfl
 | [.tup ds],p =>
  obtain⟨v,vs',rfl,r1,r2⟩:=aW.mp r;obtain⟨a,us,rfl,q,rr⟩:=bV.mp r1;rw[bI.mp r2];refine⟨a,us,rfl,.inr (Same.oV s.en.gh q),Post.ok s p ?_⟩;rw[<- rr.length];exact bN.mpr rfl
 | [],p=>exact p.elim
 | [.non],p=>exact p.elim
 | [.bl _],p=>exact p.elim
 | [.int _],p=>exact p.elim
 | [.str _],p=>exact p.elim
 | [.JG _ _],p=>exact p.elim
 | [.JH _ _],p=>exact p.elim
 | [.fn _],p=>exact p.elim
 | [.obj _ _ _],p=>exact p.elim
 |_::_::_,p=>exact(by simp only[vh]at p;exact p.elim)
theorem vm(hm:X.mg "len"=none) (ha:SE X B W e fa) (hg:Gl X "len":=by rfl) (he:a8 [e] X.env=[(false,a7 e X.env)]:=by rfl):SE X B W (.Call (.Name "len" p) [e] [] pos) (fA (ao fa aL) vh) :=
 Az Ld aiw hg hm PySem.boot_len (aj ha au he)  (by decide) (by decide) he rfl
noncomputable def FZ:List D->Rs D
 | [.lst ds]=>.ok (.tup ds)
 | [.tup ds]=>.ok (.tup ds)
 |_=>.no
theorem abH:uh K (fun xs H Q=>∃p ys,xs=[.ref p]/\((nu K H p ys/\∀l,H l=none->Q (.ref l) (upd H l (.tup ys)))∨(qF K H p ys/\Q (.ref p) H))) FZ:=by
 intro B W σ ρ G H ds vs Q s r p
 match ds,p with
 | [.lst ds],p =>
  obtain⟨v,vs',rfl,r1,r2⟩:=aW.mp r;obtain⟨a,us,rfl,q,rr⟩:=bO.mp r1;rw[bI.mp r2];refine⟨a,us,rfl,.inl ⟨s.en.gh.seq q,fun c hc=>?_⟩⟩;have x:=sO (xs:=us) s.en.gh s.en.tp hc;exact p _ _ _ x (bV.mpr ⟨c,us,rfl,.of aV,rr.mono x.gg⟩)
 | [.tup ds],p =>
  obtain⟨v,vs',rfl,r1,r2⟩:=aW.mp r;obtain⟨a,us,rfl,q,rr⟩:=bV.mp r1;rw[bI.mp r2];exact⟨a,us,rfl,.inr ⟨Same.oV s.en.gh q,Post.ok s p r1⟩⟩
 | [],p=>exact p.elim
 | [.non],p=>exact p.elim
 | [.bl _],p=>exact p.elim
 | [.int _],p=>exact p.elim
 | [.str _],p=>exact p.elim
 | [.JG _ _],p=>exact p.elim
 | [.JH _ _],p=>exact p.elim
 | [.fn _],p=>exact p.elim
 | [.obj _ _ _],p=>exact p.elim
 |_::_::_,p=>exact(by simp only[FZ]at p;exact p.elim)
end
inductive Ou where
 |nx (ρ:aD)|rt (d:D)|bk (ρ:aD)|ct (ρ:aD)|ex (c:Str) (n:Int) (ρ:aD)|no|rx (d:D) (ρ:aD)|rl (ds:List D)
noncomputable def fP(K:ai)(B:Bs)(W:Wi)(G:Hp)(o:Ou)(De:Ends):Prop :=
 match o with
 | .nx ρ'=>∀σ' H' G',SR K B σ' H' ρ' G'->Same G G'->De.nx σ' H'
 | .bk ρ'=>∀σ' H' G',SR K B σ' H' ρ' G'->Same G G'->De.bk σ' H'
 | .ct ρ'=>∀σ' H' G',SR K B σ' H' ρ' G'->Same G G'->De.ct σ' H'
 | .rt d=>∀v H' G',Ext B.1 B.2 G' H'->Same G G'->Rep K G' d v->De.rt v H'
 | .ex c n ρ'=>∀σ' H' G',SR K B σ' H' ρ' G'->Same G G'->W c n σ' H'
 | .no=>False
 | .rx d ρ'=>∀v σ' H' G',SR K B σ' H' ρ' G'->Same G G'->Rep K G' d v->De.rt v H'
 | .rl ds=>∀a ws H' G',Ext B.1 B.2 G' H'->Same G G'->G' a=none->B.2 a=none->H' a=some (.lst ws)->bH K G' ds ws->De.rt (.ref a) H'
noncomputable def tS(K:ai)(B:Bs)(W:Wi)(g:aD->Ou):TS:=fun De σ H=>∃ρ G,SR K B σ H ρ G/\fP K B W G (g ρ) De
noncomputable def SS(X:Cx)(B:Bs)(W:Wi)(st:aS)(g:aD->Ou):Prop:=PS X st (tS X.K B W g)
noncomputable def Ba(X:Cx)(B:Bs)(W:Wi)(st:List aS)(g:aD->Ou):Prop:=Qh X st (tS X.K B W g)
noncomputable def ali(o:Ou)(k:aD->Ou):Ou:=match o with
 | .nx ρ=>k ρ
 |o=>o
noncomputable def oR{α:Type}(r:Rs α)(ρ:aD)(k:α->Ou):Ou:=match r with
 | .ok a=>k a
 | .ex c n=>.ex c n ρ
 | .no=>.no
section
variable{X:Cx}{K:ai}{B:Bs}{W:Wi}{σ:St}{G G' H:Hp}{ρ:aD}{De De':Ends}
theorem fP.same{o:Ou}(h:fP K B W G o De)(e:Same G G'):fP K B W G' o De:=by
 cases o with
 |nx ρ'=>exact fun σ' H' G'' s q=>h σ' H' G'' s (e.trans q)
 |bk ρ'=>exact fun σ' H' G'' s q=>h σ' H' G'' s (e.trans q)
 |ct ρ'=>exact fun σ' H' G'' s q=>h σ' H' G'' s (e.trans q)
 |rt d=>exact fun v H' G'' x q=>h v H' G'' x (e.trans q)
 |ex c n ρ'=>exact fun σ' H' G'' s q=>h σ' H' G'' s (e.trans q)
 |no=>exact h
 |rx d ρ'=>exact fun v σ' H' G'' s q=>h v σ' H' G'' s (e.trans q)
 |rl ds=>exact fun a ws H' G'' s q=>h a ws H' G'' s (e.trans q)
theorem lN{r:Rs D}{k:D->Ou}{Q:VK}(s:SR K B σ H ρ G)(p:fP K B W G (oR r ρ k) De)(h:∀d v H' G',r=.ok d->Ext G H G' H'->Rep K G' d v->fP K B W G' (k d) De->Q v H'):Post K W σ G H r Q:=by
 cases r with
 |ok d=>exact fun v H' G' e r=>h d v H' G' rfl e r (fP.same p e.gg)
 |ex c n=>exact fun H' G' e=>p σ H' G' (s.ext e) e.gg
 |no=>exact p
theorem aix:Ba X B W [] .nx:=Qh.imp aeB fun De σ H ⟨ρ,G,s,p⟩=>p σ H G s (.refl _)
theorem afc{st:aS}{rest:List aS}{g k:aD->Ou}(h1:SS X B W st g)(h2:Ba X B W rest k):Ba X B W (st::rest) (fun ρ=>ali (g ρ) k):=by
 refine Qh.imp (Qi h1 h2) fun De σ H ⟨ρ,G,s,p⟩=>⟨ρ,G,s,?_⟩
 dsimp only at p;cases e:g ρ with
 |nx ρ'=>rw[e]at p;exact fun σ' H' G' s' q=>⟨ρ',G',s',fP.same (show fP X.K B W G (k ρ') De from p) q⟩
 |bk ρ'=>rw[e]at p;exact p
 |ct ρ'=>rw[e]at p;exact p
 |rt d=>rw[e]at p;exact p
 |ex c n ρ'=>rw[e]at p;exact p
 |no=>rw[e]at p;exact p
 |rx d ρ'=>rw[e]at p;exact p
 |rl ds=>rw[e]at p;exact p
theorem aiy{st:aS}{g:aD->Ou}(h1:SS X B W st g):Ba X B W [st] g:=Wh h1
theorem JN{st:List aS}:Ba X B W st (fun _=>.no):=Qh.imp Ys fun De σ H ⟨ρ,G,s,p⟩=>p
theorem aiz{e:ag}{pos}{f:aD->Rs D}(h:SE X B W e f):SS X B W (.Return (some e) pos) (fun ρ=>oR (f ρ) ρ .rt) :=
 PS.imp (KY h) fun De σ H ⟨ρ,G,s,p⟩=>⟨ρ,G,s,lN s p fun d v H' G' _ e r q=>q v H' G' (s.en.trans e) (.refl _) r⟩
theorem alj{c:ag}{a b:List aS}{pos:Pos}{fc:aD->Rs Bool}{ga gb:aD->Ou}(hc:ST X B W c fc)(ha:Ba X B W a ga)(hb:Ba X B W b gb):SS X B W (.If c a b pos) (fun ρ=>oR (fc ρ) ρ fun x=>if x=true then ga ρ else gb ρ):=by
 refine PS.imp (akK hc ha hb) fun De σ H ⟨ρ,G,s,p⟩=>⟨ρ,G,s,?_⟩
 dsimp only at p;cases e:fc ρ with
 |ok x =>
  rw[e]at p;intro H' G' ee;have p':fP X.K B W G (if x=true then ga ρ else gb ρ) De:=p;cases x with
  |true=>rw[if_pos rfl]at p' ⊢;exact⟨ρ,G',s.ext ee,p'.same ee.gg⟩
  |false=>rw[if_neg (by simp)]at p' ⊢;exact⟨ρ,G',s.ext ee,p'.same ee.gg⟩
 |ex c n=>rw[e]at p;exact fun H' G' ee=>p σ H' G' (s.ext ee) ee.gg
 |no=>rw[e]at p;exact p
noncomputable abbrev Tg:=D->aD->Option aD
noncomputable def tG(K:ai)(B:Bs)(h:Tg):TG:=fun v σ H Q=>∃ρ G d,SR K B σ H ρ G/\Rep K G d v/\∃ρ',h d ρ=some ρ'/\∀σ',SR K B σ' H ρ' G->Q σ' H
noncomputable def tGs(K:ai)(B:Bs)(h:List D->aD->Option aD):TGs:=fun vs σ H Q=>∃ρ G ds,SR K B σ H ρ G/\bH K G ds vs/\∃ρ',h ds ρ=some ρ'/\∀σ',SR K B σ' H ρ' G->Q σ' H
noncomputable def SG(X:Cx)(B:Bs)(tg:ag)(h:Tg):Prop:=PG X tg (tG X.K B h)
noncomputable def SGs(X:Cx)(B:Bs)(tg:List ag)(h:List D->aD->Option aD):Prop:=PGs X tg (tGs X.K B h)
theorem PG.imp{e:ag}{t t':TG}(h:PG X e t)(i:∀v σ H Q,t' v σ H Q->t v σ H Q):PG X e t':=fun pins s σ H v u Q I r q=>h pins s σ H v u Q I r (i v σ H Q q)
theorem PGs.imp{e:List ag}{t t':TGs}(h:PGs X e t)(i:∀v σ H Q,t' v σ H Q->t v σ H Q):PGs X e t':=fun pins s σ H v u Q I r q=>h pins s σ H v u Q I r (i v σ H Q q)
noncomputable def cj(i:Nat):Tg:=fun d ρ=>some (ρ.set i (.fz d))
noncomputable def zU:List D->aD->Option aD:=fun ds ρ=>match ds with|[]=>some ρ|_=>none
noncomputable def iD(h:Tg)(k:List D->aD->Option aD):List D->aD->Option aD:=fun ds ρ=>match ds with|d::ds=>(h d ρ).bind (k ds)|[]=>none
noncomputable def xO(n:Nat)(k:List D->aD->Option aD):Tg:=fun d ρ=>match d with|.tup ds=>if ds.length=n then k ds ρ else none|_=>none
theorem afd{i:Nat}{x:Str}{pos:Pos}(hN:X.N.Nodup)(hi:X.N[i]?=some x)(hx:Loc X.env.scope x)(hf:X.fn x=true∨X.env.scope.names.lookup x=some .local:=by first|exact .inl rfl|exact .inr rfl|assumption):SG X B (.Name x pos) (cj i) :=
 PG.imp (aeD hN hi hx hf) fun v σ H Q ⟨ρ,G,d,s,r,ρ',e,q⟩=>by cases e;exact q _ (s.set r)
theorem Bc:SGs X B [] zU:=PGs.imp aeE fun v σ H Q ⟨ρ,G,ds,s,r,ρ',e,q⟩=>by
 cases ds with
 |nil=>cases e;exact⟨bI.mp r,q _ s⟩
 |cons d ds=>cases e
theorem mG{e:ag}{es:List ag}{h:Tg}{k:List D->aD->Option aD}(h1:SG X B e h)(h2:SGs X B es k)(hs:(fx (e::es) X.env).map (·.2)=assign e X.env::(fx es X.env).map (·.2):=by rfl):SGs X B (e::es) (iD h k) :=
 PGs.imp (aaY h1 h2 hs) fun v σ H Q ⟨ρ,G,ds,s,r,ρ',e,q⟩=>by
  cases ds with
  |nil=>cases e
  |cons d ds =>
   obtain⟨w,ws,rfl,r1,r2⟩:=aW.mp r;unfold iD at e;dsimp only at e;cases e1:h d ρ with
   |none=>rw[e1]at e;cases e
   |some ρ1 =>
    rw[e1]at e;exact⟨w,ws,rfl,ρ,G,d,s,r1,ρ1,e1,fun σ1 s1=>⟨ρ1,G,ds,s1,r2,ρ',e,q⟩⟩
theorem Ga{es:List ag}{k:Nat}{pos:Pos}{n:Nat}{h:List D->aD->Option aD}(hc:X.calm=true)(hh:SGs X B es h)
  (hn:(fx es X.env).length=n:=by rfl) (hst:(fx es X.env).findIdx? (·.1)=none:=by rfl):SG X B (.Tuple es k pos) (xO n h) :=
 PG.imp (ahZ hc hh hn hst) fun v σ H Q ⟨ρ,G,d,s,r,ρ',e,q⟩=>by
  cases d with
  |tup ds =>
   unfold xO at e;dsimp only at e;by_cases hl:ds.length=n
   ·simp only[if_pos hl]at e;obtain⟨a,vs,rfl,q1,rr⟩:=bV.mp r;exact⟨a,vs,rfl,Same.oV s.en.gh q1,by rw[<- rr.length];exact hl,ρ,G,ds,s,rr,ρ',e,q⟩
   ·simp only[if_neg hl]at e;cases e
  |_=>cases e
noncomputable def oO(o:Option aD):Ou:=match o with|some ρ=>.nx ρ|none=>.no
theorem aiA{tg e:ag}{pos:Pos}{f:aD->Rs D}{h:Tg}(he:SE X B W e f)(hg:SG X B tg h)(hs:m8 [tg] e pos.line X.env=pure false:=by rfl)(hw:m9 [tg] e X.env=pure none:=by rfl)
  (h1:(fx [tg] X.env).map (·.2)=[assign tg X.env]:=by rfl):SS X B W (.Assign [tg] e pos) (fun ρ=>oR (f ρ) ρ fun d=>oO (h d ρ)) :=
 PS.imp (Ub he hg hs hw h1) fun De σ H ⟨ρ,G,s,p⟩=>⟨ρ,G,s,lN s p fun d v H' G' _ e r q=>by
  cases e1:h d ρ with
  |none=>rw[e1]at q;exact q.elim
  |some ρ'=>rw[e1]at q;exact⟨ρ,G',d,s.ext e,r,ρ',e1,fun σ' s'=>q σ' H' G' s' (.refl _)⟩⟩
theorem aiB{i:Nat}{x:Str}{e:ag}{pos pos':Pos}{f:aD->Rs D}(hN:X.N.Nodup)(hi:X.N[i]?=some x)(hx:Loc X.env.scope x)(he:SE X B W e f)(hs:dC e (some (.Name x pos')) pos.line X.env=pure false:=by rfl)(hf:X.fn x=true∨X.env.scope.names.lookup x=some .local:=by first|exact .inl rfl|exact .inr rfl|assumption) :
  SS X B W (.Assign [.Name x pos'] e pos) (fun ρ=>oR (f ρ) ρ fun d=>.nx (ρ.set i (.fz d))) :=
 PS.imp (KZ hN hi hx he hs hf) fun De σ H ⟨ρ,G,s,p⟩=>⟨ρ,G,s,lN s p fun d v H' G' _ e r q=>q _ H' G' ((s.ext e).set r) (.refl _)⟩
theorem SR.aiC(h:SR K B σ H ρ G){i:Nat}{z:Sl}{o:HO}{p:ae}(w:z.own=true)(r:xJ K G p z o)(hp:H p=none)(hz:∀ds,z≠.op ds:=by intro _ h;cases h):SR K B (σ.set i (some (.ref p))) (upd H p o) (ρ.set i z) G:=by
 have x:=aeX (o:=o) h.en.gh h.en.tp (fun xs e=>by subst e;exact r.tup) hp;have h':=h.ext x;have xQ:∀{j:Nat}{y:Sl},(ρ.set i z)[j]?=some y->(i=j/\y=z/\i < ρ.length)∨(i≠j/\ρ[j]?=some y):=fun {j y} q=>by
  by_cases e:i=j
  ·subst e;have hl:i < ρ.length:=by have:=(dq.mp q).1;simpa using this
   rw[dt hl]at q;cases q;exact .inl ⟨rfl,rfl,hl⟩
  ·rw[c8 e]at q;exact .inr ⟨e,q⟩
 refine⟨h'.en,by simp[h.len],fun j d q=>?_,fun j y q wy=>?_,fun j k y y' a q1 w1 q2 w2 q3 q4=>?_,fun j ds a q1 q2=>?_,h'.co⟩
 ·rcases xQ q with ⟨_,e,_⟩|⟨e,q⟩
  ·rw[<- e]at w;cases w
  ·rw[c8 e];exact h'.fz j d q
 ·rcases xQ q with ⟨e,e2,hl⟩|⟨e,q⟩
  ·subst e;subst e2;exact⟨p,o,dt (by rw[<- h.len];exact hl),aV,h.en.gh.free hp,h.en.hh.free hp,r⟩
  ·rw[c8 e];exact h'.own j y q wy
 ·have fresh:∀{l:Nat}{y:Sl},ρ[l]?=some y->y.own=true->σ[l]?≠some (some (.ref p)):=fun {l y} q wy z=>by
   obtain⟨a,vs',h1,h2,_⟩:=h.own l y q wy;rw[h1]at z;have:a=p:=by injection z with z;injection z with z;injection z
   rw[this,hp]at h2;cases h2
  rcases xQ q1 with ⟨e1,_,l1⟩|⟨n1,z1⟩
  ·rcases xQ q2 with ⟨e2,_⟩|⟨n2,z2⟩
   ·exact e1.symm.trans e2
   ·subst e1;rw[dt (by rw[<- h.len];exact l1)]at q3;have:a=p:=by injection q3 with z;injection z with z;injection z with z;exact z.symm
    subst this;rw[c8 n2]at q4;exact(fresh z2 w2 q4).elim
  ·rcases xQ q2 with ⟨e2,_,l2⟩|⟨n2,z2⟩
   ·subst e2;rw[dt (by rw[<- h.len];exact l2)]at q4;have:a=p:=by injection q4 with z;injection z with z;injection z with z;exact z.symm
    subst this;rw[c8 n1]at q3;exact(fresh z1 w1 q3).elim
   ·rw[c8 n1]at q3;rw[c8 n2]at q4;exact h.ap j k y y' a z1 w1 z2 w2 q3 q4
 ·rcases xQ q1 with ⟨_,e,_⟩|⟨e,q⟩
  ·exact absurd e.symm (hz ds)
  ·rw[c8 e]at q2;exact h.tie j ds a q q2
theorem SR.ahb(h:SR K B σ H ρ G){i:Nat}{ds:List D}{vs:List V}{p:ae}(r:bH K G ds vs)(hp:H p=none):SR K B (σ.set i (some (.ref p))) (upd H p (.lst vs)) (ρ.set i (.ow ds)) G:=h.aiC rfl ⟨vs,rfl,r⟩ hp
theorem SR.QC(h:SR K B σ H ρ G){i:Nat}{y z:Sl}{o:HO}{a:ae}(q:ρ[i]?=some y)(wy:y.own=true)(ha:σ[i]?=some (some (.ref a)))(wz:z.own=true)(r:xJ K G a z o)(hz:∀ds,z=.op ds->∃es,y=.op es:=by intro _ h;cases h):SR K B σ (upd H a o) (ρ.set i z) G:=by
 obtain⟨a',o0,e1,h2,h3,h4,h5⟩:=h.own i y q wy;have ea:a'=a:=by rw[e1]at ha;injection ha with z;injection z with z;injection z
 subst ea;have hl:i < ρ.length:=(dq.mp q).1;have xQ:∀{j:Nat}{x:Sl},(ρ.set i z)[j]?=some x->(i=j/\x=z)∨(i≠j/\ρ[j]?=some x):=fun {j x} q=>by
  by_cases e:i=j
  ·subst e;rw[dt hl]at q;cases q;exact .inl ⟨rfl,rfl⟩
  ·rw[c8 e]at q;exact .inr ⟨e,q⟩
 have ne:∀b o,G b=some o->b≠a':=fun b o z w=>by rw[w,h3]at z;cases z
 refine⟨⟨h.en.gg,fun b o z=>?_,fun b o z=>?_,fun b xs z=>?_,h.en.nw⟩,by simp[h.len],fun j d z'=>?_,fun j x z' wx=>?_,fun j k x x' c z1 w1 z2 w2 z3 z4=>?_,fun j ds c z1 z2=>?_,h.co.upd h2 h5.tab⟩
 ·rw[aQ (aR z h4)];exact h.en.hh b o z
 ·rw[aQ (ne b o z)];exact h.en.gh b o z
 ·by_cases w:b=a'
  ·subst w;rw[aV]at z;cases z;exact r.tup.elim
  ·rw[aQ w]at z;exact h.en.tp b xs z
 ·rcases xQ z' with ⟨_,e⟩|⟨_,z'⟩
  ·rw[<- e]at wz;cases wz
  ·exact h.fz j d z'
 ·rcases xQ z' with ⟨e,e2⟩|⟨e,z'⟩
  ·subst e;subst e2;exact⟨a',o,ha,aV,h3,h4,r⟩
  ·obtain⟨b,us,w1,w2,w3,w4,w5⟩:=h.own j x z' wx;have hne:b≠a':=fun w=>by subst w;exact e (h.ap i j y x b q wy z' wx ha w1)
   exact⟨b,us,w1,by rw[aQ hne];exact w2,w3,w4,w5⟩
 ·rcases xQ z1 with ⟨e1,_⟩|⟨_,z1⟩ <;> rcases xQ z2 with ⟨e2,_⟩|⟨_,z2⟩
  ·exact e1.symm.trans e2
  ·subst e1;exact h.ap i k y x' c q wy z2 w2 z3 z4
  ·subst e2;exact h.ap j i x y c z1 w1 q wy z3 z4
  ·exact h.ap j k x x' c z1 w1 z2 w2 z3 z4
 ·rcases xQ z1 with ⟨e1,e2⟩|⟨_,z1⟩
  ·subst e1;obtain⟨es,e3⟩:=hz ds e2.symm;rw[e3]at q;exact h.tie i es c q z2
  ·exact h.tie j ds c z1 z2
theorem SR.write(h:SR K B σ H ρ G){i:Nat}{ds es:List D}{vs:List V}{a:ae}(q:ρ[i]?=some (.ow ds))(ha:σ[i]?=some (some (.ref a)))(r:bH K G es vs):SR K B σ (upd H a (.lst vs)) (ρ.set i (.ow es)) G:=h.QC q rfl ha rfl ⟨vs,rfl,r⟩
noncomputable def Jw(i:Nat)(ρ:aD):aD:=match ρ[i]? with|some (.ow ds)=>ρ.set i (.fz (.lst ds))|_=>ρ
theorem SR.Jw(h:SR K B σ H ρ G)(i:Nat):∃G',Same G G'/\SR K B σ H (Jw i ρ) G':=by
 unfold Vl.Jw;split
 ·rename_i ds q;obtain⟨a,vs,e1,h2,h3,h4,h5⟩:=h.ow i ds q;have hl:i < ρ.length:=(dq.mp q).1;have gg:Same G (upd G a (.lst vs)):=fun b o z=>by rw[aQ (aR z h3)];exact z
  refine⟨upd G a (.lst vs),gg,⟨h.en.gg.trans gg,h.en.hh,fun b o z=>?_,fun b xs z=>?_,fun b o z w=>?_⟩,by simp[h.len],fun j d z=>?_,fun j fs z wz=>?_,fun j k fs gs c z1 w1 z2 w2 z3 z4=>?_,fun j es c z1 z2=>?_,h.co⟩
  ·by_cases w:b=a
   ·subst w;rw[aV]at z;cases z;exact h2
   ·rw[aQ w]at z;exact h.en.gh b o z
  ·by_cases w:b=a
   ·subst w;rw[h2]at z;cases z
   ·rw[aQ w];exact h.en.tp b xs z
  ·rw[aQ (aR z h4)];exact h.en.nw b o z w
  ·by_cases e:i=j
   ·subst e;rw[dt hl]at z;cases z;exact⟨_,e1,bO.mpr ⟨a,vs,rfl,.of aV,h5.mono gg⟩⟩
   ·rw[c8 e]at z;obtain⟨v,w1,w2⟩:=h.fz j d z;exact⟨v,w1,w2.mono gg⟩
  ·by_cases e:i=j
   ·subst e;rw[dt hl]at z;cases z;cases wz
   ·rw[c8 e]at z;obtain⟨b,us,w1,w2,w3,w4,w5⟩:=h.own j fs z wz;have hne:b≠a:=fun w=>by subst w;exact e (h.ap i j _ fs b q rfl z wz e1 w1)
    exact⟨b,us,w1,w2,by rw[aQ hne];exact w3,w4,w5.mono gg⟩
  ·have nj:i≠j:=fun e=>by subst e;rw[dt hl]at z1;cases z1;cases w1
   have nk:i≠k:=fun e=>by subst e;rw[dt hl]at z2;cases z2;cases w2
   rw[c8 nj]at z1;rw[c8 nk]at z2;exact h.ap j k fs gs c z1 w1 z2 w2 z3 z4
  ·have nj:i≠j:=fun e=>by subst e;rw[dt hl]at z1;cases z1
   rw[c8 nj]at z1;exact h.tie j es c z1 z2
 ·exact⟨G,.refl _,h⟩
theorem afe{st:List aS}{g:aD->Ou}(i:Nat)(h:Ba X B W st g):Ba X B W st (fun ρ=>g (Jw i ρ)) :=
 Qh.imp h fun De σ H ⟨ρ,G,s,p⟩=>let ⟨G',gg,s'⟩:=s.Jw i;⟨_,G',s',fP.same p gg⟩
theorem aiD{i:Nat}{x:Str}{es:List ag}{pos pos' lp:Pos}{f:aD->Rs (List D)}(hN:X.N.Nodup)(hi:X.N[i]?=some x)(hx:Loc X.env.scope x)(he:SA X B W es f)(hs:dC (.List es lp) (some (.Name x pos')) pos.line X.env=pure false:=by rfl)(hf:X.fn x=true∨X.env.scope.names.lookup x=some .local:=by first|exact .inl rfl|exact .inr rfl|assumption) :
  SS X B W (.Assign [.Name x pos'] (.List es lp) pos) (fun ρ=>oR (f ρ) ρ fun ds=>if ds.length<=1000 then .nx (ρ.set i (.ow ds)) else .no):=by
 refine PS.imp (KZ hN hi hx (Cq he) hs hf) fun De σ H ⟨ρ,G,s,p⟩=>⟨ρ,G,s,?_⟩
 dsimp only at p;cases e:f ρ with
 |ok ds =>
  rw[e]at p;have p':fP X.K B W G (if ds.length<=1000 then .nx (ρ.set i (.ow ds)) else .no) De:=p;by_cases hl:ds.length<=1000
  ·rw[if_pos hl]at p';exact fun vs H' G' x r=>⟨by rw[<- r.length];exact xK hl,fun c hc=>p' _ _ G' ((s.ext x).ahb r hc) x.gg⟩
  ·rw[if_neg hl]at p';exact p'.elim
 |ex c n=>rw[e]at p;exact fun H' G' x=>p σ H' G' (s.ext x) x.gg
 |no=>rw[e]at p;exact p
theorem YJ{i:Nat}{x:Str}{e:ag}{pos p1 p2 cp:Pos}{f:aD->Rs D}(hv:PE X (.Name x p1) (Yr i))(he:SE X B W e f)
  (hst:a8 [e] X.env=[(false,a7 e X.env)]) {pe:PE X (.Call (.Attribute (.Name x p1) "append" p2) [e] [] cp) (tBM X.K "list" Wq (Yr i) (Qj (tF X.K B W f) abn))}
  (hs:dC (.Call (.Attribute (.Name x p1) "append" p2) [e] [] cp) none pos.line X.env=pure false:=by rfl) :
  SS X B W (.Expr (.Call (.Attribute (.Name x p1) "append" p2) [e] [] cp) pos) (fun ρ=>match ρ[i]? with|some (.ow ds)=>oR (f ρ) ρ fun d=>if ds.length < 1000000 then .nx (ρ.set i (.ow (ds++[d]))) else .no|_=>.no):=by
 refine PS.imp (Eu pe hs) fun De σ H mF=>?_;obtain⟨ρ,G,s,p⟩:=mF;dsimp only at p;cases q:ρ[i]? with
 |none=>rw[q]at p;exact p.elim
 |some z =>
  rw[q]at p;cases z with
  |no=>exact p.elim
  |fz d=>exact p.elim
  |od _=>exact p.elim
  |op _=>exact p.elim
  |ow ds =>
   obtain⟨a,vs,e1,h2,h3,h4,h5⟩:=s.ow i ds q;refine⟨_,e1,.inl ⟨rfl,vs,.of h2⟩,ρ,G,s,lN s p fun d v H' G' _ x r p'=>?_⟩;by_cases hl:ds.length < 1000000
   ·rw[if_pos hl]at p';have s':=s.ext x;refine⟨a,vs,v,rfl,rfl,x.hh _ _ h2,by rw[<- h5.length];exact dn hl (by rw[e_];decide),?_⟩;exact p' σ _ G' (s'.write q e1 ((h5.mono x.gg).append (.one r))) (.refl _)
   ·rw[if_neg hl]at p';exact p'.elim
end
noncomputable def jA(h:Tg)(gb:aD->Ou):List D->aD->Ou
 | [],ρ=>.nx ρ
 |d::ds,ρ=>match h d ρ with
  |none=>.no
  |some ρ1=>match gb ρ1 with
   | .nx ρ2=>jA h gb ds ρ2
   | .ct ρ2=>jA h gb ds ρ2
   | .bk ρ2=>.nx ρ2
   |o=>o
noncomputable def WF:Wi:=fun _ _ _ _=>False
section
variable{X:Cx}{K:ai}{B:Bs}{W:Wi}{σ:St}{G G' H:Hp}{ρ:aD}{De De':Ends}
theorem Bd{h:Tg}{gb:aD->Ou}{d:D}{ds:List D}{v:V}{Pv:St->Hp->Prop}(s:SR K B σ H ρ G)(r:Rep K G d v)(p:fP K B W G (jA h gb (d::ds) ρ) De)
  (hP:∀σ' H' ρ' G',SR K B σ' H' ρ' G'->Same G G'->fP K B W G' (jA h gb ds ρ') De->Pv σ' H') :
  tG K B h v σ H fun σ2 H2=>tS K B W gb { De with nx:=Pv,ct:=Pv,bk:=De.nx } σ2 H2:=by
 unfold jA at p;cases e:h d ρ with
 |none=>rw[e]at p;exact p.elim
 |some ρ1 =>
  rw[e]at p;refine⟨ρ,G,d,s,r,ρ1,e,fun σ1 s1=>⟨ρ1,G,s1,?_⟩⟩;dsimp only at p;cases e2:gb ρ1 with
  |nx ρ2=>rw[e2]at p;exact fun σ' H' G' s' q=>hP σ' H' ρ2 G' s' q (fP.same p q)
  |ct ρ2=>rw[e2]at p;exact fun σ' H' G' s' q=>hP σ' H' ρ2 G' s' q (fP.same p q)
  |bk ρ2=>rw[e2]at p;exact p
  |rt d=>rw[e2]at p;exact p
  |ex c n ρ2=>rw[e2]at p;exact p
  |no=>rw[e2]at p;exact p
  |rx d ρ2=>rw[e2]at p;exact p
  |rl ds=>rw[e2]at p;exact p
noncomputable def WK(h:Tg)(gb:aD->Ou)(f:aD->Rs D):aD->Ou:=fun ρ=>oR (f ρ) ρ fun d=>match d with|.lst ds=>jA h gb ds ρ|_=>.no
noncomputable def QD(h:Tg)(gb:aD->Ou)(f:aD->Rs D):aD->Ou:=fun ρ=>oR (f ρ) ρ fun d=>match d with|.tup ds=>jA h gb ds ρ|_=>.no
noncomputable def JQ(h:Tg)(gb:aD->Ou)(f:aD->Rs D):aD->Ou:=fun ρ=>oR (f ρ) ρ fun d=>match d with|.int n=>if-(2 ^ 62)<=n/\n < 2 ^ 62 then jA h gb ((b7 n.toNat).map fun(i:Nat)=>.int i) ρ else .no|_=>.no
theorem afg{tg iter:ag}{body:List aS}{pos:Pos}{f:aD->Rs D}{h:Tg}{gb:aD->Ou}(hp:ls (ar X.prog X.w) X.A X.env X.xe)(hc:X.calm=true)(hi:SE X B W iter f)(hg:SG X B tg h)(hb:Ba X B W body gb)
  (hs:∀x,ir iter X.env x=pure x:=by intro _;rfl):SS X B W (.For tg iter body [] pos) (WK h gb f):=by
 refine PS.imp (Fx hp hc (Wj hi) hg hb hs) fun De σ H mF=>?_;obtain⟨ρ,G,s,p⟩:=mF;refine⟨ρ,G,s,lN s p fun d v H1 G1 _ e r p1=>?_⟩;cases d with
 |lst ds =>
  obtain⟨a,vs,rfl,q,rr⟩:=bO.mp r;refine⟨a,rfl,⟨vs,e.gh.seq q⟩,abf (fun i σ H=>∃ρ G,SR X.K B σ H ρ G/\nu X.K G a vs/\bH X.K G ds vs/\fP X.K B W G (jA h gb (ds.drop i) ρ) De) ⟨ρ,G1,s.ext e,q,rr,by simpa using p1⟩ (fun i σ H _ ⟨ρ,G,s,q,_⟩=>s.en.gh.seq q) ?_ ?_⟩
  ·rintro i x σ2 H2 hx ⟨ρ2,G2,s2,q2,r2,p2⟩;obtain⟨d,hd,rd⟩:=r2.get' hx;have hl:=(dq.mp hd).1;rw[i6 hl,(dq.mp hd).2]at p2;exact Bd s2 rd p2 fun σ' H' ρ' G' s' q' p'=>⟨ρ',G',s',q'.seq q2,r2.mono q',p'⟩
  ·rintro σ2 H2 ⟨ρ2,G2,s2,q2,r2,p2⟩;rw[<- r2.length,pT]at p2;exact p2 σ2 H2 G2 s2 (.refl _)
 |_=>exact p1.elim
theorem WL{tg iter:ag}{body:List aS}{pos:Pos}{f:aD->Rs D}{h:Tg}{gb:aD->Ou}(hp:ls (ar X.prog X.w) X.A X.env X.xe)(hc:X.calm=true)(hi:SE X B W iter f)(hg:SG X B tg h)(hb:Ba X B W body gb)
  (hs:∀x,ir iter X.env x=pure x:=by intro _;rfl):SS X B W (.For tg iter body [] pos) (QD h gb f):=by
 refine PS.imp (Fx hp hc (abd hi) hg hb hs) fun De σ H mF=>?_;obtain⟨ρ,G,s,p⟩:=mF;refine⟨ρ,G,s,lN s p fun d v H1 G1 _ e r p1=>?_⟩;cases d with
 |tup ds =>
  obtain⟨a,vs,rfl,q,rr⟩:=bV.mp r;refine⟨a,rfl,⟨vs,Same.oV e.gh q⟩,aeG (fun i σ H=>∃ρ G,SR X.K B σ H ρ G/\qF X.K G a vs/\bH X.K G ds vs/\fP X.K B W G (jA h gb (ds.drop i) ρ) De) ⟨ρ,G1,s.ext e,q,rr,by simpa using p1⟩ (fun i σ H _ ⟨ρ,G,s,q,_⟩=>Same.oV s.en.gh q) ?_ ?_⟩
  ·rintro i x σ2 H2 hx ⟨ρ2,G2,s2,q2,r2,p2⟩;obtain⟨d,hd,rd⟩:=r2.get' hx;have hl:=(dq.mp hd).1;rw[i6 hl,(dq.mp hd).2]at p2;exact Bd s2 rd p2 fun σ' H' ρ' G' s' q' p'=>⟨ρ',G',s',Same.oV q' q2,r2.mono q',p'⟩
  ·rintro σ2 H2 ⟨ρ2,G2,s2,q2,r2,p2⟩;rw[<- r2.length,pT]at p2;exact p2 σ2 H2 G2 s2 (.refl _)
 |_=>exact p1.elim
theorem Gb{h:Tg}{gb:aD->Ou}{lo:Int}{n:Nat}(s:SR K B σ H ρ G)(p:fP K B W G (jA h gb ((b7 n).map fun(i:Nat)=>.int (lo + i)) ρ) De) :
  ∃W0:Nat->Nat->St->Hp->Prop,(∃m,W0 0 m σ H)/\∀i m σ H,W0 i m σ H ->
   ((Itr lo n).stop i H/\De.nx σ H)∨((Itr lo n).go i H/\∃N:St->Hp->Prop,(∀σ' H',N σ' H'->∃m',m' < m/\W0 (i + 1) m' σ' H')/\∀x H',(Itr lo n).yld i H x H'->tG K B h x σ H' fun σ2 H2=>tS K B W gb { De with nx:=N,ct:=N,bk:=De.nx } σ2 H2):=by
 refine Yv (fun i σ H=>∃ρ G,SR K B σ H ρ G/\fP K B W G (jA h gb (((b7 n).map fun(i:Nat)=>D.int (lo + i)).drop i) ρ) De) ⟨ρ,G,s,by simpa using p⟩ ?_ ?_
 ·rintro i σ2 H2 hi ⟨ρ2,G2,s2,p2⟩;have hl:i < ((b7 n).map fun(i:Nat)=>D.int (lo + i)).length:=by simpa using hi
  rw[i6 hl]at p2;rw[show((b7 n).map fun(i:Nat)=>D.int (lo + i))[i]=D.int (lo + i) by simp]at p2;exact Bd s2 (bN.mpr rfl) p2 fun σ' H' ρ' G' s' q' p'=>⟨ρ',G',s',p'⟩
 ·rintro σ2 H2 ⟨ρ2,G2,s2,p2⟩;rw[l5 (by simp)]at p2;exact p2 σ2 H2 G2 s2 (.refl _)
theorem Li{tg e:ag}{body:List aS}{pos p1 p2:Pos}{f:aD->Rs D}{h:Tg}{gb:aD->Ou}(hp:ls (ar X.prog X.w) X.A X.env X.xe) (hc:X.calm=true) (hm:X.mg "range"=none) (hi:SE X B W e f) (hg:SG X B tg h) (hb:Ba X B W body gb)
  (hgl:Gl X "range":=by rfl) (hst:a8 [e] X.env=[(false,a7 e X.env)]:=by rfl)
  (hs:∀x,ir (.Call (.Name "range" p1) [e] [] p2) X.env x=pure x:=by intro _;rfl):SS X B W (.For tg (.Call (.Name "range" p1) [e] [] p2) body [] pos) (JQ h gb f):=by
 refine PS.imp (Fx hp hc (Jx hgl hm (eZ hi kZ (by rw[hst];rfl)) hst) hg hb hs) fun De σ H mF=>?_;obtain⟨ρ,G,s,p⟩:=mF;refine⟨ρ,G,s,lN s p fun d v H1 G1 _ e r p1=>?_⟩;cases d with
 |int n =>
  dsimp only at p1;by_cases c:-(2 ^ 62)<=n/\n < 2 ^ 62
  ·rw[if_pos c]at p1;refine⟨n,by rw[bN.mp r],c.1,c.2,Gb (s.ext e) ?_⟩;simpa using p1
  ·rw[if_neg c]at p1;exact p1.elim
 |_=>exact p1.elim
noncomputable def aiF:Ou->Ou
 | .ex _ _ _=>.no
 |o=>o
theorem YK{o:Ou}(p:fP K B W G (aiF o) De):fP K B WF G o De:=by
 cases o with
 |ex c n ρ=>exact p.elim
 |_=>exact p
theorem PS.nox{st:aS}{t:TS}(h:PS X.nox st t):PS X st t:=fun pins s σ H D I hw =>
 eK (h pins s σ H D (I.wish _) hw) (fun _ _ q=>q.rA) fun _ _ z=>dy z
theorem aiG{st:aS}{g:aD->Ou}(h:SS X.nox B WF st g):SS X B W st (fun ρ=>aiF (g ρ)) :=
 PS.imp (PS.nox h) fun De σ H ⟨ρ,G,s,p⟩=>⟨ρ,G,s,YK p⟩
noncomputable def zig(n:Int):Nat:=if 0<=n then 2 * n.toNat else 2 * (-n).toNat + 1
noncomputable def yX(c:Str)(n:Int):aa:=.str c (zig n)
noncomputable def RP(K:ai)(G H:Hp)(Q:VK)(E:XK)(r:Rs D):Prop:=match r with
 | .ok d=>∀v H' G',Ext G H G' H'->Rep K G' d v->Q v H'
 | .ex c n=>∀H' G',Ext G H G' H'->E (yX c n) none H'
 | .no=>False
noncomputable def spV(K:ai)(k:Nat)(g:List D->Rs D):Sp:=fun vs H Q E=>vs.length=k/\∃G ds,Ex0 K G H/\bH K G ds vs/\RP K G H Q E (g ds)
noncomputable def jk:Ou->Rs D
 | .nx _=>.ok .non
 | .rt d=>.ok d
 | .ex c n _=>.ex c n
 |_=>.no
noncomputable def sU{α:Type}:Rs α->Rs α
 | .ex _ _=>.no
 |o=>o
noncomputable def aP(N:List Str)(ds:List D):aD:=ds.map .fz++hW (N.length - ds.length) .no
theorem QF{N:List Str}{ds:List D}{vs:List V}(e:Ex0 K G H)(r:bH K G ds vs):SR K ⟨G,H,0⟩ (L2.start N vs) H (aP N ds) G:=by
 have abI:∀(i:Nat) (z:Sl),(aP N ds)[i]?=some z->z.own=true->False:=fun i z q w=>by
  unfold aP at q;by_cases hi:i < (ds.map Sl.fz).length
  ·rw[f9 hi,df]at q;cases e1:ds[i]? with
   |none=>rw[e1]at q;cases q
   |some d=>rw[e1]at q;cases q;cases w
  ·rw[gu (by lia),j5]at q;split at q <;> cases q;cases w
 refine⟨e.toExt,?_,fun i d q=>?_,fun i z q w=>(abI i z q w).elim,fun i j z z' a q w=>(abI i z q w).elim,fun i ds a q=>(abI i _ q rfl).elim,e.co⟩
 ·unfold aP L2.start;simp[r.length]
 ·unfold aP at q;unfold L2.start;by_cases hi:i < (ds.map Sl.fz).length
  ·rw[f9 hi,df]at q;cases e1:ds[i]? with
   |none=>rw[e1]at q;cases q
   |some d' =>
    rw[e1]at q;cases q;obtain⟨v,h1,h2⟩:=r.get e1;refine⟨v,?_,h2⟩;rw[f9 (by rw[b_,<- r.length];simpa using hi),df,h1];rfl
  ·rw[gu (by lia),j5]at q;split at q <;> cases q
theorem abJ{o:Ou}{Q:VK}{E:XK}(h:RP K B.1 B.2 Q E (jk o)):fP K B (fun c n _ H'=>E (yX c n) none H') G o { nx:=fun _ H'=>Q .non H',rt:=Q }:=by
 cases o with
 |nx ρ'=>exact fun σ' H' G' s q=>h .non H' G' s.en (sI.mpr rfl)
 |rt d=>exact fun v H' G' x q r=>h v H' G' x r
 |ex c n ρ'=>exact fun σ' H' G' s q=>h H' G' s.en
 |bk _=>exact h.elim
 |ct _=>exact h.elim
 |no=>exact h.elim
 |rx _ _=>exact h.elim
 |rl _=>exact h.elim
section
variable{P:aE}{w:ay}{mg:Str->Option aa}{base:aw}{x qual:Str}{st:aS}{f:ae}{fd:cz}{N ps:List Str}{k:Nat}
end
end
theorem Lj{prog:aE}{w:ay}{A:aT}{s:af}{R:Result->af->Prop}{elt target iter:ag}{ifs:List ag}{scope:Scope}{pos:Pos}{it acc:aa}{env:Env}(J:Nat->af->Prop)
  (turn:∀k t,J k t->az (ar prog w) A (fy it) (fun o t1=>match o with
   |none=>R (.ok .next) t1
   |some x=>az (ar prog w) A (oS target it x) (fun _ t2=>az (ar prog w) A (assign target env x) (fun _ t3 =>
     az (ar prog w) A (forIn ifs true fun c go=>if go=true then do { let y <- isTrue c env (a7 c env);pure (ForInStep.yield y) } else pure (ForInStep.yield go)) (fun yes t4 =>
      if yes=true then az (ar prog w) A (a7 elt env) (fun y t5 =>
       az (ar prog w) A (call (.builtin "list.append") [acc,y]) (fun _ t6=>∃j,j < k/\J j t6) (fun _ _=>False) t5) (notedBy (ar prog w) A env fun x t'=>R (.error x) t') t4
      else ∃j,j < k/\J j t4) (fun _ _=>False) t3) (fun _ _=>False) t2) (fun _ _=>False) t1) (fun _ _=>False) t)
  (n:Nat) (h:J n s):fg (ar prog w) A (.compLoop (.ListComp elt [⟨target,iter,ifs,0⟩] scope pos) 0 it acc env) R s:=by
 refine codeAny_loop rfl J (fun k t hJ=>?_) n h;show az _ A (Sem.onRaise (compTurn (.ListComp elt [⟨target,iter,ifs,0⟩] scope pos) 0 it acc env) (fun x=>do l6 x env;theTreesLotGoes x)) _ _ t;refine wpAny_noted ?_;rw[compTurn_list];refine ah (wpAny_standAt (ah (eK (turn k t hJ) (fun o t1 g1=>?_) fun _ _ z=>z.elim)));cases o with
 |none=>exact a9 g1
 |some x =>
  refine ah (eK g1 (fun _ t2 g2=>?_) fun _ _ z=>z.elim);refine ah (eK g2 (fun _ t3 g3=>ah (eK g3 (fun yes t4 g4=>?_) fun _ _ z=>z.elim)) fun _ _ z=>z.elim);cases yes with
  |true=>exact ah (ah (eK g4 (fun y t5 g5=>ah (eK g5 (fun _ t6 g6=>a9 (a9 ⟨rfl,g6⟩)) fun _ _ z=>z.elim)) fun _ _ z=>z))
  |false=>exact a9 ⟨rfl,g4⟩
noncomputable abbrev qH(X:Cx)(N:List Str)(s₀:af)(H₀:Hp)(sc:Scope)(cl:List (Str×ae))(C:ae)(ex:List ae)(pins:List (ae×Obj)):Cx where
 prog:=X.prog
 w:=X.w
 K:=X.K
 mg:=X.mg
 base:=X.base
 A:=X.A
 N:=N
 s₀:=s₀
 H₀:=H₀
 env:=compEnvC sc cl C X.env
 outer:=X.stack
 stack:=X.stack
 ex:=ex
 fn:=fun _=>false
 calm:=X.calm
 pn:=X.pn++pins
 xe:=fun _ _=>False
noncomputable def qe(sc:Scope)(env:Env):List (Str×ae):=sc.names.foldl (fun cs y=>if y.2 == .free then (y.1,(env.cells.lookup y.1).getD 0)::cs else cs) []
theorem DY{sc:Scope}{env:Env}(h:∀y∈sc.names,y.2=.free->∃c,env.cells.lookup y.1=some c):closureFor sc env=pure (qe sc env):=by
 unfold closureFor qe;have key:∀(l:List (Str×et)) (cs:List (Str×ae)),(∀y∈l,y.2=.free->∃c,env.cells.lookup y.1=some c) ->
   (forIn l cs (fun(x:Str×et) (r:List (Str×ae))=>if (x.2 == et.free)=true then do let a <- cellOf env x.1;pure (ForInStep.yield ((x.1,a)::r)) else pure (ForInStep.yield r)):Sem (List (Str×ae))) =
    pure (l.foldl (fun cs y=>if y.2 == .free then (y.1,(env.cells.lookup y.1).getD 0)::cs else cs) cs):=by
  intro l
  induction l with
  |nil=>intro cs _;rfl
  |cons y l ih =>
   intro cs hl;rw[ue,j9];by_cases hk:(y.2 == et.free)=true
   ·obtain⟨c,hc⟩:=hl y eR (by simpa using hk);rw[if_pos hk,if_pos hk];unfold cellOf;rw[hc];exact ih _ fun z hz=>hl z (el _ hz)
   ·rw[if_neg hk,if_neg hk];exact ih _ fun z hz=>hl z (el _ hz)
 have:=key sc.names [] h;simp only[]at this ⊢;rw[this];rfl
theorem abK{sc:Scope}{env:Env}:∀y∈qe sc env,(∃k∈sc.names,k.1=y.1/\k.2=.free)/\y.2=(env.cells.lookup y.1).getD 0:=by
 unfold qe;have key:∀(l:List (Str×et)) (cs:List (Str×ae)) (y:Str×ae),y∈l.foldl (fun cs y=>if y.2 == .free then (y.1,(env.cells.lookup y.1).getD 0)::cs else cs) cs ->
   y∈cs∨((∃k∈l,k.1=y.1/\k.2=.free)/\y.2=(env.cells.lookup y.1).getD 0):=by
  intro l
  induction l with
  |nil=>intro cs y h;exact .inl h
  |cons z l ih =>
   intro cs y h;rw[j9]at h;rcases ih _ y h with h|⟨⟨k,hk,e⟩,e2⟩
   ·by_cases hz:(z.2 == et.free)=true
    ·rw[if_pos hz]at h;rcases bq.mp h with e|h
     ·subst e;exact .inr ⟨⟨z,eR,rfl,by simpa using hz⟩,rfl⟩
     ·exact .inl h
    ·rw[if_neg hz]at h;exact .inl h
   ·exact .inr ⟨⟨k,el _ hk,e⟩,e2⟩
 intro y hy;rcases key sc.names [] y hy with h|h
 ·cases h
 ·exact h
theorem QG{sc:Scope}{env:Env}{n:Str}(h:(n,et.free)∈sc.names):∃c,(qe sc env).lookup n=some c:=by
 have key:∀(l:List (Str×et)) (cs:List (Str×ae)),((n,et.free)∈l∨∃c,cs.lookup n=some c)->∃c,(l.foldl (fun cs y=>if y.2 == .free then (y.1,(env.cells.lookup y.1).getD 0)::cs else cs) cs).lookup n=some c:=by
  intro l
  induction l with
  |nil =>
   intro cs h;rcases h with h|h
   ·cases h
   ·exact h
  |cons z l ih =>
   intro cs h;rw[j9];refine ih _ ?_;rcases h with h|⟨c,hc⟩
   ·rcases bq.mp h with e|h
    ·subst e;refine .inr ⟨(env.cells.lookup n).getD 0,?_⟩;rw[if_pos (by rfl),List.lookup_cons_self]
    ·exact .inl h
   ·right;by_cases hz:(z.2 == et.free)=true
    ·rw[if_pos hz];by_cases e:n=z.1
     ·subst e;exact⟨_,List.lookup_cons_self⟩
     ·exact⟨c,by rw[fI,show(n == z.1)=false by simpa using e];exact hc⟩
    ·rw[if_neg hz];exact⟨c,hc⟩
 exact key sc.names [] (.inl h)
section
variable{X:Cx}{pins:List (ae×Obj)}{σ:St}{H:Hp}{s:af}
theorem rC{sc:Scope}{env:Env}{x:Str}{k:et}(h:(relabel sc env).names.lookup x=some k):(∃k',sc.names.lookup x=some k'/\(k'=k∨(k'=.free/\k=.cell))):=by
 have key:∀l:List (Str×et),bX x (l.map fun(n,k)=>if (k == .free && env.scope.kind == .function && env.kindOf n == some .cell) then (n,et.cell) else (n,k))=some k ->
   ∃k',l.lookup x=some k'/\(k'=k∨(k'=.free/\k=.cell)):=by
  intro l
  induction l with
  |nil=>intro h;cases h
  |cons y l ih =>
   intro h;obtain⟨n,kk⟩:=y;rw[c6]at h;by_cases e:(x == n)=true
   ·refine⟨kk,by rw[fI,e],?_⟩;dsimp only at h;split at h
    ·rename_i hc;rw[fI,e]at h;have h':et.cell=k:=dk h;exact .inr ⟨by simp only[fN,beq_iff_eq]at hc;exact hc.1.1,h'.symm⟩
    ·rw[fI,e]at h;exact .inl (dk h)
   ·have e':(x == n)=false:=by simpa using e
    obtain⟨k',a,b⟩:=ih (by
     dsimp only at h;split at h <;> (rw[fI,e']at h;exact h))
    exact⟨k',by rw[fI,e'];exact a,b⟩
 exact key sc.names h
structure Ip (X:Cx)(sc:Scope)(N:List Str)(nt:Nat)(caps:List Nat):Prop where
 kind:sc.kind=.function
 abL:∀y∈sc.names,y.2≠.cell
 fr:∀y∈sc.names,y.2=.free->X.env.kindOf y.1=some .cell∨X.env.kindOf y.1=some .free
 len:N.length=nt + caps.length
 cap:∀(j i:Nat) (x:Str),caps[j]?=some i->N[nt + j]?=some x->X.N[i]?=some x/\sc.names.lookup x=some .free
theorem Ip.cells{sc:Scope}{N:List Str}{nt:Nat}{caps:List Nat}(c:Ip X sc N nt caps)(I:Inv X pins σ H s):∀y∈sc.names,y.2=.free->∃a,X.env.cells.lookup y.1=some a :=
 fun y hy hf=>I.ok.has y.1 (c.fr y hy hf)
theorem Ip.cl{sc:Scope}{N:List Str}{nt:Nat}{caps:List Nat}(c:Ip X sc N nt caps)(I:Inv X pins σ H s){x:Str}{a:ae}(h:(qe sc X.env).lookup x=some a):X.env.cells.lookup x=some a:=by have hm:=i5 h;obtain⟨⟨k,hk,e1,e2⟩,e3⟩:=abK _ hm;obtain⟨b,hb⟩:=c.cells I k hk e2;rw[e1]at hb;dsimp only at e3 hb;rw[hb]at e3;rw[hb,e3];rfl
noncomputable def xR(nt:Nat)(caps:List Nat)(σ:St):St:=hW nt none++caps.map fun i=>(σ[i]?).getD none
theorem Uu{sc:Scope}{N:List Str}{nt:Nat}{caps:List Nat}{fp:List ae}{h':aw}{tk:Nat}(c:Ip X sc N nt caps)(I:Inv X pins σ H s)(hfp:∀b∈fp,tQ X pins H b/\b < s.heap.objs.size)
  (hn:h'.Ns s.heap.objs.size fun _=>none) (hk:∀b o,s.heap.get? b=some o->h'.get? b=some o) :
  Inv (qH X N s H sc (qe sc X.env) s.heap.objs.size fp pins) [] (xR nt caps σ) H { s with heap:=h',toks:=tk }:=by
 have clX:∀{x:Str}{a:ae},(qe sc X.env).lookup x=some a->X.env.cells.lookup x=some a:=fun h=>c.cl I h;have stk:∀b,b≠X.env.locals->b∉X.fs->b∉Al X.stack:=fun b h1 h2 h3=>(bq.mp (I.Fv b h3)).elim h1 h2;refine⟨⟨I.ok.mod,c.kind,I.ok.glob,I.ok.blt,bj _,fun x y a h1 h2=>I.ok.inj x y a (clX h1) (clX h2),fun x hx=>?_,fun x a hf=>absurd (show false=true from hf) sL,I.ok.hd,I.ok.frames,.inl rfl,fun b hb=>⟨cq (hfp b hb).2,fun x a ha=>(hfp b hb).1.2.2.2.2.1 x a (clX ha)⟩,
  fun b o e=>I.bs b o e,ck I.ok.bsz I.sz,fun b o e hb=>?_,fun b hb=>stk b (hfp b hb).1.2.1 (hfp b hb).1.2.2.1,I.stack,I.KQ⟩,
  rfl,I.bare,Un.kept hk,⟨_,hn,fun i x v h1 h2 h3=>?_⟩,fun x a ha=>?_,I.hok.fresh (bj _),fun x a ha=>I.xr x a (clX ha),fun p hp=>?_,I.hok.kept hk,?_⟩
 ·-- has
  have hx':(relabel sc X.env).names.lookup x=some .cell∨(relabel sc X.env).names.lookup x=some .free:=hx;have:sc.names.lookup x=some .free:=by
   rcases hx' with hx'|hx'
   ·obtain⟨k',h1,h2⟩:=rC hx';rcases h2 with h2|⟨h2,_⟩
    ·subst h2;exact(c.abL _ (i5 h1) rfl).elim
    ·rw[h1,h2]
   ·obtain⟨k',h1,h2⟩:=rC hx';rcases h2 with h2|⟨h2,e⟩
    ·rw[h1,h2]
    ·cases e
  exact QG (i5 this)
 ·-- Qe
  obtain⟨_,_,_,h4,_⟩:=(hfp b hb).1;rcases h4 with h4|h4
  ·exact I.ok.Qe b o e h4
  ·exact absurd (dn (bE e) (ck I.ok.bsz h4)) (eJ _)
 ·-- loc
  unfold xR at h2;by_cases hi:i < (hW nt (none:Option V)).length
  ·rw[f9 hi,j5]at h2;split at h2 <;> cases h2
  ·rw[gu (by lia),df]at h2;rw[ny]at h2 hi;cases e:caps[i - nt]? with
   |none=>rw[e]at h2;cases h2
   |some k =>
    rw[e]at h2;have h2':(σ[k]?).getD none=some v:=dk h2;have hs:σ[k]?=some (some v):=by
     cases e3:σ[k]? with
     |none=>rw[e3]at h2';cases h2'
     |some z=>rw[e3]at h2';exact congrArg some h2'
    obtain⟨hX,hl0⟩:=c.cap (i - nt) k x e (by rw[show nt + (i - nt)=i by lia];exact h1);have hf:(x,et.free)∈sc.names:=i5 hl0;obtain⟨m,_,hl⟩:=I.loc;have hkind:=c.fr _ hf rfl;obtain⟨u,r,l⟩:=hl k x v hX hs (by rcases hkind with q|q;exact .inr (.inl q);exact .inr (.inr q));refine⟨u,r,.inr ⟨?_,?_⟩⟩
    ·have h3':(relabel sc X.env).names.lookup x=some .local∨(relabel sc X.env).names.lookup x=some .cell∨(relabel sc X.env).names.lookup x=some .free:=h3;rcases h3' with q|q|q
     ·obtain⟨k',a1,a2⟩:=rC q;exfalso;rw[hl0]at a1;cases a1;rcases a2 with a2|⟨_,a2⟩ <;> cases a2
     ·exact .inl q
     ·exact .inr q
    ·obtain⟨cc,hcc⟩:=QG (env:=X.env) hf;refine⟨cc,hcc,?_⟩;rcases l with ⟨q,_⟩|⟨_,c2,hc2,z⟩
     ·rcases hkind with q'|q' <;> (rw[q]at q';cases q')
     ·rw[clX hcc]at hc2;cases hc2;obtain⟨o,ho,hd⟩:=z;exact⟨o,hk _ _ ho,hd⟩
 ·obtain⟨v,o,ho,hd⟩:=I.cell x a (clX ha);exact⟨v,o,hk _ _ ho,hd⟩
 ·rw[fh]at hp;obtain⟨e,n,ne,nf,d⟩:=I.pin p hp;exact⟨hk _ _ e,n,cq (bE e),stk _ ne nf,d⟩
 ·unfold xR;rw[cx,ny,b_];exact c.len.symm
end
theorem Inv.moved{X:Cx}{pins:List (ae×Obj)}{σ:St}{H:Hp}{s:af}{h':aw}{t':Nat}(I:Inv X pins σ H s)(ch:List ae)
  (hch:∀b∈ch,X.s₀.heap.get? b=none/\b≠X.env.locals/\(∀x c,X.env.cells.lookup x=some c->c≠b)/\(∀p∈X.pn++pins,p.1≠b)/\H b=none)
  (keep:∀b o,b∉Al X.stack->b∉ch->s.heap.get? b=some o->h'.get? b=some o)
  (slot:∀b o,b∈Al X.stack->s.heap.get? b=some o->∃sl,h'.get? b=some { o with slots:=sl }):Inv X pins σ H { s with heap:=h',toks:=t' }:=by
 have sub:=I.Fv;have sup:∀b∈X.fs,b∈Al X.stack:=fun b hb=>by
  rcases I.ok.stk with e|⟨e,hf⟩
  ·rw[e];exact hb
  ·rw[e];unfold Al;rw[m6,hf];exact el _ hb
 have neL:∀b o,X.s₀.heap.get? b=some o->b≠X.env.locals:=fun b o e=>cq (dn (bE e) I.ok.above);have Wf:∀b o,X.s₀.heap.get? b=some o->b∉ch:=fun b o e z=>by rw[(hch b z).1]at e;cases e
 have any:∀b o,b∉ch->s.heap.get? b=some o->∃sl,h'.get? b=some { o with slots:=sl }:=fun b o hc e=>by
  by_cases hb:b∈Al X.stack
  ·exact slot b o hb e
  ·exact⟨o.slots,keep b o hb hc e⟩
 have lch:X.env.locals∉ch:=fun z=>(hch _ z).2.1 rfl;have cch:∀x c,X.env.cells.lookup x=some c->c∉ch:=fun x c e z=>(hch c z).2.2.1 x c e rfl;have cellK:∀x c v,X.env.cells.lookup x=some c->s.heap.IsCell c v->h'.IsCell c v:=fun x c v e ⟨o,ho,hd⟩=>by obtain⟨sl,q⟩:=any c o (cch x c e) ho;exact⟨_,q,hd⟩
 refine⟨I.ok,I.os,I.bare,⟨fun b o e n hb hx=>?_,fun b o e n hb hx=>?_,I.base.free,fun b o e hx=>?_,I.base.tups,I.base.Fq,I.base.Ij⟩,?_,fun x c e=>?_,I.free,I.xr,fun p hp=>?_,fun b o e=>?_,I.len⟩
 ·exact keep b o (fun z=>(bq.mp (sub b z)).elim (neL b o e) hb) (Wf b o e) (I.base.keep b o e n hb hx)
 ·obtain⟨sl,q⟩:=I.base.slot b o e n hb hx;obtain⟨sl',q'⟩:=slot b _ (sup b hb) q;exact⟨sl',q'⟩
 ·obtain⟨o',q⟩:=I.base.there b o e hx;obtain⟨sl,q'⟩:=any b o' (Wf b o e) q;exact⟨_,q'⟩
 ·obtain⟨m,⟨o,es,ep,ho,r⟩,hl⟩:=I.loc;obtain⟨sl,q⟩:=any _ o lch ho;refine⟨m,⟨_,es,ep,q,r⟩,fun i x v h1 h2 h3=>?_⟩;obtain⟨u,ru,l⟩:=hl i x v h1 h2 h3;refine⟨u,ru,?_⟩;rcases l with l|⟨k,c,e,z⟩
  ·exact .inl l
  ·exact .inr ⟨k,c,e,cellK x c _ e z⟩
 ·obtain⟨v,z⟩:=I.cell x c e;exact⟨v,cellK x c v e z⟩
 ·obtain⟨e,n,ne,nf,d⟩:=I.pin p hp;exact⟨keep _ _ (fun z=>(bq.mp (sub _ z)).elim ne nf) (fun z=>(hch _ z).2.2.2.1 p hp rfl) e,n,ne,nf,d⟩
 ·have tr:∀c u,H c=some u->c∉Al X.stack/\c∉ch:=fun c u z=>⟨fun w=>(by rw[I.KQ c w]at z;cases z),fun w=>(by rw[(hch c w).2.2.2.2]at z;cases z)⟩
  refine(I.hok b o e).stay (fun c u hc q=>?_) (fun _ q=>q) (fun _ _ q=>q) fun _ _ q=>q;rcases hc with hc|hc
  ·subst hc;exact keep c u (tr c _ e).1 (tr c _ e).2 q
  ·exact keep c u (tr c _ hc).1 (tr c _ hc).2 q
noncomputable def Tr(h:aw)(H:Hp)(old:aw)(av:List ae)(ea:ae)(vs:Array aa):Prop:=∃T oT ts x,vs[1]?=some (.ref T)/\T≠ea/\h.get? T=some oT/\oT.data=.fields ts/\ts[3]?=some x/\H T=none/\old.get? T=none/\T∉av
noncomputable def XFl(H:Hp)(old:aw)(od:Option ae)(c:Str)(n:Int):Prop:=n=0∨∃d i,n=2 * i + 1/\od=some d/\H d=some (.xd [(abv c,.int i)])/\old.get? d=none
theorem XFl.old{H:Hp}{old alm:aw}{od:Option ae}{c:Str}{n:Int}(h:XFl H old od c n)(k:∀b,old.get? b=none->alm.get? b=none):XFl H alm od c n:=h.imp id fun⟨d,i,h1,h2,h3,h4⟩=>⟨d,i,h1,h2,h3,k _ h4⟩
noncomputable def YL(K:ai)(old:aw)(av:List ae)(ea:ae)(c:Str)(n:Int)(h:aw)(H:Hp)(tr:Bool):Prop :=
 ∃C oe vs a0,j8 K bb c=some (some (.ref C))/\h.get? ea=some oe/\oe.cls=.ref C/\oe.data=.fields vs/\vs[0]?=some a0/\H ea=none/\old.get? ea=none/\ea∉av/\XFl H old oe.dict c n /\
  (if tr=true then Tr h H old av ea vs else vs[1]?=some .none)
noncomputable def wZ(P:aE)(w:ay)(K:ai):Yz:=fun outer H s E e s'=>∃ea c n H',e=.ref ea/\s'.os=s.os/\PyProof.Rows.AllBare s'.gens/\Un (Al outer) [] H H' s.heap s'.heap/\Cj P w H' s'.heap/\YL K s.heap [] ea c n s'.heap H' true/\E (yX c n) none H'
noncomputable def abM(X:Cx)(W:Wi):Prop:=∀pins σ H s ea c n tr,Inv X pins σ H s->YL X.K X.s₀.heap ((X.pn++pins).map (·.1)) ea c n s.heap H tr->W c n σ H->X.xe (.ref ea) s
section
variable{X:Cx}{pins:List (ae×Obj)}{σ:St}{H:Hp}{s:af}{ea:ae}{c:Str}{n:Int}{tr:Bool}
theorem aiH(I:Inv X pins σ H s){b:ae}{o:Obj}{vs:Array aa}(e:s.heap.get? b=some o)(d:o.data=.fields vs)(hold:X.s₀.heap.get? b=none)(hn:H b=none)(hp:∀p∈X.pn++pins,p.1≠b) :
  X.s₀.heap.get? b=none/\b≠X.env.locals/\(∀x c,X.env.cells.lookup x=some c->c≠b)/\(∀p∈X.pn++pins,p.1≠b)/\H b=none:=by
 refine⟨hold,fun z=>?_,fun x c hc z=>?_,hp,hn⟩
 ·obtain⟨m,⟨o',es,ep,ho,hd,_⟩,_⟩:=I.loc;rw[<- z,e]at ho;cases ho;rw[d]at hd;cases hd
 ·obtain⟨v,o',ho,hd⟩:=I.cell x c hc;rw[z,e]at ho;cases ho;rw[d]at hd;cases hd
theorem Gd{P:aE}{w:ay}{H:Hp}{h:aw}{a:ae}{o:HO}(x:mV P w H h a o):∃u,h.get? a=some u:=by
 induction o with
 |lst xs=>obtain⟨z,its,n,r,e⟩:=x;exact⟨_,e⟩
 |tup xs=>obtain⟨z,its,r,ob,e,c⟩:=x;exact⟨_,e⟩
 |dK kvs=>obtain⟨z,y,vs,r,ob,es,ep,e,c⟩:=x;exact⟨_,e⟩
 |dT kvs=>obtain⟨z,y,xs,r,ob,es,ep,e,c⟩:=x;exact⟨_,e⟩
 |set S n=>obtain⟨ob,es,ep,t,e,c⟩:=x;exact⟨_,e⟩
 |ins C dx fs=>obtain⟨d,z,ne,e,_⟩:=x;exact⟨_,e⟩
 |own y=>obtain⟨ob,e⟩:=x;exact⟨_,e⟩
 |xd fs=>obtain⟨mA,⟨od,es,ep,e,c⟩,r⟩:=x;exact⟨_,e⟩
 |rng lo hi=>obtain⟨t,u,v,e⟩:=x;exact⟨_,e⟩
 |Jw ob u ih=>obtain⟨e,q⟩:=x;exact⟨_,e⟩
 |tbl ps=>exact⟨_,(show h.get? a=some { cls:=.none,data:=.fields ps } from x)⟩
 |tab q=>obtain⟨_,e,_⟩:=x;exact⟨_,e⟩
 |cod q=>obtain⟨_,_,_,e,_⟩:=x;exact⟨_,e⟩
 |met f y=>exact⟨_,(show h.get? a=some (oP (.ref f) (.ref y)) from x)⟩
 |ext φ=>obtain⟨p,⟨o,e⟩,st⟩:=x;exact⟨_,e⟩
theorem JR(I:Inv X pins σ H s){ch:List ae}{h':aw}{t':Nat}(hch:∀b∈ch,∃o vs,s.heap.get? b=some o/\o.data=.fields vs/\X.s₀.heap.get? b=none/\H b=none/\b∉(X.pn++pins).map (·.1))
  (st:(kA s.heap (Al X.stack++ch)).StaysIn h') (up:s.heap.UpToSlots h'):Inv X pins σ H { s with heap:=h',toks:=t' }:=by
 refine Inv.moved I ch (fun b hb=>?_) (fun b o h1 h2 e=>st b o (si _ e (by rw[dA];exact fun z=>z.elim h1 h2))) (fun b o hb e=>?_)
 ·obtain⟨o,vs,e,d,h1,h2,h3⟩:=hch b hb;exact aiH I e d h1 h2 fun p hp z=>h3 (dQ.mpr ⟨p,hp,z⟩)
 ·obtain⟨_,o',ho,hnf⟩:=I.stack.mem hb;rw[e]at ho;cases ho;exact up b o e hnf
theorem afh(I:Inv X pins σ H s)(hex:X.ex=[]){ch:List ae}{h':aw}{T:ae}{oT:Obj}{ts:Array aa}(hch:∀b∈ch,∃o vs,s.heap.get? b=some o/\o.data=.fields vs/\X.s₀.heap.get? b=none/\H b=none/\b∉(X.pn++pins).map (·.1))
  (up:s.heap.UpToSlots h') (hT:h'.get? T=some oT) (dT:oT.data=.fields ts) (hn:(kA s.heap (Al X.stack++ch)).get? T=none) :
  H T=none/\X.s₀.heap.get? T=none/\T∉(X.pn++pins).map (·.1):=by
 by_cases hc:T∈ch
 ·obtain⟨o,vs,e,d,h1,h2,h3⟩:=hch T hc;exact⟨h2,h1,h3⟩
 have hf:T∉Al X.stack:=fun z=>by obtain⟨_,o',ho,hnf⟩:=I.stack.mem z;obtain⟨sl,q⟩:=up T o' ho hnf;rw[hT]at q;cases q;exact hnf ts dT
 have hs:s.heap.get? T=none:=by
  cases e:s.heap.get? T with
  |none=>rfl
  |some o=>rw[si _ e (by rw[dA];exact fun z=>z.elim hf hc)]at hn;cases hn
 refine⟨?_,?_,fun z=>?_⟩
 ·cases e:H T with
  |none=>rfl
  |some u =>
   obtain⟨o,z⟩:=Gd (I.hok T u e);rw[hs]at z;cases z
 ·cases e:X.s₀.heap.get? T with
  |none=>rfl
  |some o =>
   obtain⟨o',q⟩:=I.base.there T o e (by rw[hex];simp);rw[hs]at q;cases q
 ·obtain⟨p,hp,e⟩:=dQ.mp z;have:=(I.pin p hp).1;rw[e,hs]at this;cases this
end
section
variable{X:Cx}{pins:List (ae×Obj)}{σ:St}{H:Hp}{s:af}{ea:ae}{c:Str}{n:Int}{tr:Bool}
theorem abN(I:Inv X pins σ H s)(F:YL X.K X.s₀.heap ((X.pn++pins).map (·.1)) ea c n s.heap H tr) :
  ∃ch:List ae,ea∈ch/\(∀b∈ch,∃o vs,s.heap.get? b=some o/\o.data=.fields vs/\X.s₀.heap.get? b=none/\H b=none/\b∉(X.pn++pins).map (·.1)) /\
   ∃C oe vs a0,j8 X.K bb c=some (some (.ref C))/\s.heap.get? ea=some oe/\oe.cls=.ref C/\oe.data=.fields vs/\vs[0]?=some a0/\XFl H X.s₀.heap oe.dict c n/\X.s₀.heap.get? ea=none/\H ea=none/\ea∉(X.pn++pins).map (·.1) /\
    (if tr=true then ∃T oT ts x,vs[1]?=some (.ref T)/\T∈ch/\T≠ea/\s.heap.get? T=some oT/\oT.data=.fields ts/\ts[3]?=some x else vs[1]?=some .none):=by
 obtain⟨C,oe,vs,a0,h1,h2,h3,h4,h5,h6,h7,h8,h9,h10⟩:=F;cases tr with
 |false =>
  refine⟨[ea],by simp,fun b hb=>?_,C,oe,vs,a0,h1,h2,h3,h4,h5,h9,h7,h6,h8,h10⟩;obtain rfl:b=ea:=by simpa using hb
  exact⟨oe,vs,h2,h4,h7,h6,h8⟩
 |true =>
  rw[if_pos rfl]at h10;obtain⟨T,oT,ts,x,t1,t2,t3,t4,t5,t6,t7,t8⟩:=h10;refine⟨[ea,T],by simp,fun b hb=>?_,C,oe,vs,a0,h1,h2,h3,h4,h5,h9,h7,h6,h8,?_⟩
  ·rcases bq.mp hb with rfl|hb
   ·exact⟨oe,vs,h2,h4,h7,h6,h8⟩
   ·obtain rfl:b=T:=by simpa using hb
    exact⟨oT,ts,t3,t4,t7,t6,t8⟩
  ·rw[if_pos rfl];exact⟨T,oT,ts,x,t1,by simp,t2,t3,t4,t5⟩
theorem YM(o:Obj)(f):(o.mapFields f).dict=o.dict:=by unfold i7;split <;> rfl
theorem WM{M:Model}{A:aT}{base:aw}{env:Env}{outer:List Env}{L e:ae}{oe:Obj}{vs:Array aa}{hd0 a0:aa}{b0:Bool}{Q:Unit->af->Prop}{E:aa->af->Prop}(hfr:A.frames=some (env::outer))(hl:s.heap.FunFrames base (env::outer))(hf:env.frame=some L)
  (he:s.heap.get? e=some oe) (hkb:base.StaysIn s.heap) (hen:base.get? e=none) (hd:oe.data=.fields vs) (hsz:1 < vs.size) (h0:vs[0]?=some a0)
  (k:∀h',ui base (env::outer) e oe.cls a0 (cy L) s.heap h'->(∀o',h'.get? e=some o'->o'.dict=oe.dict)->Q () { s with heap:=h' }) :
  az M A (frameOf env >>= fun fr=>entryPlaceOf L b0 >>= fun pl=>EntryCells.newEntry hd0 fr .none (cy L) .none pl >>= fun t=>setField (.ref e) 1 t) Q E s:=by
 have ahO:e∉(env::outer).filterMap (·.frame):=fun z=>by obtain⟨_,o,ho,nf⟩:=hl.mem z;rw[he]at ho;cases ho;exact nf vs hd
 refine ah (wpAny_frameOf_fun hfr hl hf fun g ⟨_,g2,g3⟩=>ah (wpAny_entryPlaceOf fun pl hpl=>?_));unfold EntryCells.newEntry newFields;refine ah (i8 ?_ (hpl.sizeOk5 _ _ _ _ _));generalize hT:({ cls:=.type "traceback",dict:=none,data:=_ }:Obj)=oT;have eg:g.get? e=some oe:=(g2 e ahO).trans he;have kb:base.StaysIn g:=fun b o z=>(g2 b fun w=>by rw[(hl.mem w).1]at z;cases z).trans (hkb b o z);have ep:=cm (h:=g) oT eg;refine j_ ep hd hsz ?_;have ne:g.objs.size≠e:=kC (bE eg);have dat:=kN hd (·.setIfInBounds 1 (aa.ref g.objs.size));have self:=hZ (i7 (·.setIfInBounds 1 (aa.ref g.objs.size))) ep (nE dat);have other:∀b o,b≠e->g.get? b=some o->((g.push oT).update e (i7 (·.setIfInBounds 1 (aa.ref g.objs.size)))).get? b=some o:=fun b o z w =>
  (f_ _ _ (br z)).trans (cm _ w)
 have new:((g.push oT).update e (i7 (·.setIfInBounds 1 (aa.ref g.objs.size)))).get? g.objs.size=some oT :=
  (f_ _ _ (br ne)).trans (cK g (by rw[<- hT];rfl))
 have apart:∀b o,s.heap.get? b=some o->(∀ws,o.data≠.fields ws)->b≠e:=fun b o z nf w=>by rw[w,he]at z;cases z;exact nf vs hd
 refine k _ ⟨fun b o z=>other b o (fun w=>by rw[w,hen]at z;cases z) (kb b o z),hl.of_keeps fun b o z nf=>?_,?_,fun b o z nf=>?_⟩ fun o' z=>?_
 ·obtain⟨sl,w⟩:=g3 b o z;exact⟨_,other b _ (apart b o z nf) w,rfl⟩
 ·refine⟨_,_,g.objs.size,oT,_,self,⟨Obj.cls_mapFields _ _,by rw[uj (by decide)];exact h0⟩,dat,by simp[hsz],kb.fresh,ne,new,by rw[<- hT],?_⟩
  first|(simp;done)|(rcases hpl with rfl|⟨_,_,_,_,_,_,_,rfl⟩ <;> simp)
 ·obtain⟨sl,w⟩:=g3 b o z;exact⟨sl,other b _ (apart b o z nf) w⟩
 ·rw[self]at z;cases z;exact YM _ _
theorem abO{M:Model}{A:aT}{base:aw}{env:Env}{outer:List Env}{L e:ae}{cls a0 fl:aa}{Q:Unit->af->Prop}{E:aa->af->Prop}(hfr:A.frames=some (env::outer))(hl:s.heap.FunFrames base (env::outer))(hf:env.frame=some L)
  {od:Option ae}(ht:s.heap.TracedAtW base e cls a0 fl) (hod:∀o',s.heap.get? e=some o'->o'.dict=od) (hkb:base.StaysIn s.heap) (hen:base.get? e=none) (h:∀h',ui base (env::outer) e cls a0 (cy L) s.heap h'->(∀o',h'.get? e=some o'->o'.dict=od)->Q () { s with heap:=h' }):az M A (l6 (.ref e) env) Q E s:=by
 by_cases c:fl=cy L
 ·subst c;exact wpAny_noteFrame_againW hf ht (h s.heap ⟨hkb,hl,ht,fun b o hb _=>⟨o.slots,hb⟩⟩ hod)
 obtain⟨oe,vs,T,oT,ts,he,⟨hcls,h0⟩,hd,h1,hnT,hTe,hT,hdT,h3⟩:=ht;subst hcls;unfold l6;simp only[hf];refine ah (eM he hd h1 ?_);rw[if_pos (show(aa.ref T != aa.none)=true from by simp)];refine ah (eM hT hdT h3 ?_);rw[if_neg (show ¬((fl == cy L)=true) from by simpa using c)];refine ah (j_ hT hdT (fR.mp h3).1 ?_);have other:∀b,b≠T->(s.heap.update T (i7 (·.setIfInBounds 3 aa.none))).get? b=s.heap.get? b:=fun b hb=>f_ _ _ (br hb);have noRecord:∀b o,s.heap.get? b=some o->(∀vs,o.data≠.fields vs)->b≠T:=fun b o hb hnf q=>by rw[q,hT]at hb;injection hb with hb;subst hb;exact hnf ts hdT
 refine WM hfr (hl.of_keeps fun b o hb hnf=>⟨o,(other b (noRecord b o hb hnf)).trans hb,rfl⟩) hf ((other e (br hTe)).trans he)
  (fun b o hbo=>(other b fun q=>by rw[q,hnT]at hbo;cases hbo).trans (hkb b o hbo)) hen hd (fR.mp h1).1 h0
  fun h' ⟨x1,x2,x3,x4⟩ x5=>h h' ⟨x1,x2,x3,fun b o hb hnf=>x4 b o ((other b (noRecord b o hb hnf)).trans hb) hnf⟩ fun o' e'=>(x5 o' e').trans (hod _ he)
theorem abP{M:Model}{Q:Unit->af->Prop}{E:aa->af->Prop}{outer:List Env}{L:ae}(hst:X.stack=X.env::outer)(hf:X.env.frame=some L)(hex:X.ex=[])(I:Inv X pins σ H s)(F:YL X.K X.s₀.heap ((X.pn++pins).map (·.1)) ea c n s.heap H tr)
  (hQ:∀h',Inv X pins σ H { s with heap:=h' }->YL X.K X.s₀.heap ((X.pn++pins).map (·.1)) ea c n h' H true->s.heap.UpToSlots h'->Q () { s with heap:=h' }):az M X.A (l6 (.ref ea) X.env) Q E s:=by
 obtain⟨ch,he,hch,C,oe,vs,a0,h1,h2,h3,h4,h5,h9,h7,h6,h8,h10⟩:=abN I F;have hfr:X.A.frames=some (X.env::outer):=by rw[<- hst];exact I.ok.frames
 have hl:s.heap.FunFrames (kA s.heap (Al X.stack++ch)) (X.env::outer):=by have:=PySem.W.funFrames_hide (as:=Al X.stack++ch) I.stack fun env he b hb=>oQ _ (jI.mpr ⟨env,he,hb⟩);rw[hst]at this ⊢;exact this
 have hkb:(kA s.heap (Al X.stack++ch)).StaysIn s.heap:=fun b o e=>sq _ e;have hn:∀b∈ch,(kA s.heap (Al X.stack++ch)).get? b=none:=fun b hb=>sC _ (f7 _ hb);have jk:∀h',ui (kA s.heap (Al X.stack++ch)) (X.env::outer) ea oe.cls a0 (cy L) s.heap h'->(∀o',h'.get? ea=some o'->o'.dict=oe.dict)->Q () { s with heap:=h' }:=fun h' ⟨k1,_,k2,k3⟩ kd=>by have I':=JR (t':=s.toks) I hch k1 k3;obtain⟨oe',vs',T,oT,ts,e1,⟨e2,e3⟩,e4,e5,e6,e7,e8,e9,e10⟩:=k2;obtain⟨n1,n2,n3⟩:=afh I hex hch k3 e8 e9 e6;refine hQ h' I' ⟨C,oe',vs',a0,h1,e1,e2.trans h3,e4,e3,h6,h7,h8,by rw[kd _ e1];exact h9,?_⟩ k3;rw[if_pos rfl];exact⟨T,oT,ts,_,e5,e7,e8,e9,e10,n1,n2,n3⟩
 cases tr with
 |false =>
  rw[if_neg (by decide)]at h10;unfold l6;simp only[hf];refine ah (eM h2 h4 h10 ?_);rw[if_neg (by decide)];exact WM hfr hl hf h2 hkb (hn _ he) h4 (fR.mp h10).1 h5 jk
 |true =>
  rw[if_pos rfl]at h10;obtain⟨T,oT,ts,x,t1,t0,t2,t3,t4,t5⟩:=h10;exact abO hfr hl hf ⟨oe,vs,T,oT,ts,h2,⟨rfl,h5⟩,h4,t1,hn _ t0,t2,t3,t4,t5⟩ (fun o' e'=>by rw[h2]at e';cases e';rfl) hkb (hn _ he) jk
theorem abQ{M:Model}{A:aT}{fr:Option ae}{Q:Unit->af->Prop}{E:aa->af->Prop}(I:Inv X pins σ H s)(F:YL X.K X.s₀.heap ((X.pn++pins).map (·.1)) ea c n s.heap H true)
  (hQ:∀h',Inv X pins σ H { s with heap:=h' }->YL X.K X.s₀.heap ((X.pn++pins).map (·.1)) ea c n h' H true->Q () { s with heap:=h' }) :
  az M A (setFlight (.ref ea) fr) Q E s:=by
 obtain⟨ch,he,hch,C,oe,vs,a0,h1,h2,h3,h4,h5,h9,h7,h6,h8,h10⟩:=abN I F;rw[if_pos rfl]at h10;obtain⟨T,oT,ts,x,t1,t0,t2,t3,t4,t5⟩:=h10;have sz:3 < ts.size:=(fR.mp t5).1;obtain⟨_,_,_,_,n2,n1,n3⟩:=hch T t0;have other:∀b,b≠T->(s.heap.update T (i7 (·.setIfInBounds 3 (fr.elim aa.none fun f=>cy f)))).get? b=s.heap.get? b:=fun b hb=>f_ _ _ (br hb);unfold setFlight;refine ah (eM h2 h4 t1 ?_);rw[if_pos (show(aa.ref T != aa.none)=true from by simp)];refine j_ t3 t4 sz (hQ _ (JR (t':=s.toks) I hch (fun b o e=>?_) fun b o e hn=>⟨o.slots,(other b fun q=>?_).trans e⟩) ⟨C,oe,vs,a0,h1,(other ea (br t2)).trans h2,h3,h4,h5,h6,h7,h8,h9,?_⟩)
 ·refine(other b fun q=>?_).trans (sq _ e);rw[q,sC _ (f7 _ t0)]at e;cases e
 ·rw[q,t3]at e;cases e;exact hn _ t4
 ·rw[if_pos rfl];exact⟨T,_,_,_,t1,t2,hZ _ t3 (nE (kN t4 _)),kN t4 _,Array.getElem?_setIfInBounds_self_of_lt sz,n1,n2,n3⟩
theorem afi{M:Model}{Q:Unit->af->Prop}{E:aa->af->Prop}{outer:List Env}{L:ae}(hst:X.stack=X.env::outer)(hf:X.env.frame=some L)(hex:X.ex=[])(I:Inv X pins σ H s)(F:YL X.K X.s₀.heap ((X.pn++pins).map (·.1)) ea c n s.heap H tr)
  (hQ:∀h',Inv X pins σ H { s with heap:=h' }->YL X.K X.s₀.heap ((X.pn++pins).map (·.1)) ea c n h' H true->Q () { s with heap:=h' }):az M X.A (leaving X.env (.ref ea)) Q E s:=by
 unfold leaving;exact ah (abP hst hf hex I F fun h' I' F' _=>abQ I' F' hQ)
end
section
variable{P:aE}{w:ay}{K:ai}{mg:Str->Option aa}{base:aw}{x qual:Str}{st:aS}{f:ae}{fd:cz}{N ps:List Str}{k:Nat}
theorem yM{scope:Scope}{cdv:aa}{A:aT}{outer:List Env}{s:af}{H:Hp}{E:XK}:abM (tR (wZ P w K) P w K mg base N qual scope f cdv A outer s H E) (fun c n _ H'=>E (yX c n) none H'):=by intro pins σ H1 s1 ea c n tr I F w1;refine afi (L:=s.heap.objs.size) (outer:=outer) rfl rfl rfl I F fun h' I' F'=>?_;obtain⟨C,oe,vs,a0,h1,h2,h3,h4,h5,h6,h7,h8,h9,h10⟩:=F';refine⟨ea,c,n,H1,rfl,I'.os,I'.bare,I'.base,I'.hok,⟨C,oe,vs,a0,h1,h2,h3,h4,h5,h6,h7,by simp,h9,?_⟩,w1⟩;rw[if_pos rfl]at h10 ⊢;obtain⟨T,oT,ts,x,t1,t2,t3,t4,t5,t6,t7,t8⟩:=h10;exact⟨T,oT,ts,x,t1,t2,t3,t4,t5,t6,t7,by simp⟩
end
theorem afj{a b:Int}(h:zig a=zig b):a=b:=by unfold zig at h;split at h <;> split at h <;> lia
theorem WQ{c c':Str}{n n':Int}(h:yX c n=yX c' n'):c=c'/\n=n':=by unfold yX at h;injection h with h1 h2;exact⟨h1,afj h2⟩
noncomputable def uo(X:Cx)(W:Wi):Prop:=∀(pins:List (ae×Obj)) (σ:St) (H:Hp) (s:af) (e:aa) (s':af),Inv X pins σ H s ->
 wZ X.prog X.w X.K X.stack H s (fun v _ H'=>∃c n,v=yX c n/\W c n σ H') e s'->X.xe e s'
theorem jm{X:Cx}:uo X WF:=fun pins σ H s e s' I ⟨ea,c,n,H',_,_,_,_,_,_,_,_,_,w⟩=>w.elim
theorem abR{X:Cx}{pins:List (ae×Obj)}{σ:St}{H H':Hp}{s:af}{ea:ae}{c:Str}{n:Int}{h:aw}(I:Inv X pins σ H s)(hex:X.ex=[])(F:YL X.K s.heap [] ea c n h H' true):YL X.K X.s₀.heap ((X.pn++pins).map (·.1)) ea c n h H' true:=by
 obtain⟨C,oe,vs,a0,h1,h2,h3,h4,h5,h6,h7,h8,h9,h10⟩:=F;have old:∀b,s.heap.get? b=none->X.s₀.heap.get? b=none:=fun b hb=>by
  cases q:X.s₀.heap.get? b with
  |none=>rfl
  |some o =>
   obtain⟨o',z⟩:=I.base.there b o q (by rw[hex];simp);rw[hb]at z;cases z
 have aln:∀b,s.heap.get? b=none->b∉(X.pn++pins).map (·.1):=fun b hb z=>by obtain⟨p,hp,e⟩:=dQ.mp z;have:=(I.pin p hp).1;rw[e,hb]at this;cases this
 refine⟨C,oe,vs,a0,h1,h2,h3,h4,h5,h6,old _ h7,aln _ h7,h9.old old,?_⟩;rw[if_pos rfl]at h10 ⊢;obtain⟨T,oT,ts,x,t1,t2,t3,t4,t5,t6,t7,t8⟩:=h10;exact⟨T,oT,ts,x,t1,t2,t3,t4,t5,t6,old _ t7,aln _ t7⟩
theorem Bf{X:Cx}{W:Wi}(hp:abM X W)(hex:X.ex=[]):uo X W:=by intro pins σ H s e s' I ⟨ea,c,n,H',e1,os,bare,un,hok,F,c0,n0,e2,w⟩;subst e1;obtain⟨rfl,rfl⟩:=WQ e2;exact hp pins σ H' s' ea c n true (I.call' (ch:=[]) os un hok bare (fun b z=>absurd z (by simp))) (abR I hex F) w
section
variable{P:aE}{w:ay}{K:ai}{mg:Str->Option aa}{base:aw}{x qual:Str}{st:aS}{f:ae}{fd:cz}{N ps:List Str}{k:Nat}
theorem alo{g:aD->Ou}(F:Fun K x qual st f fd)(S:aX N ps (aC st))
  (hb:∀(cdv:aa) (A:aT) (outer:List Env) (s:af) (H:Hp) (E:XK) (B:Bs),jP k (A.deeper (kP qual (aC st) s.heap.objs.size f cdv))->(∀b,s.heap.get? b=none->B.2 b=none) ->
   Ba (tR (wZ P w K) P w K mg base N qual (aC st) f cdv A outer s H E) B (fun c n _ H'=>E (yX c n) none H') (cM st) g) :
  nD P w K mg base (wZ P w K) (k + 1) f fd ps (spV K ps.length fun ds=>jk (g (aP N ds))):=by
 obtain⟨oc,od,kV,doc,pm,an,cdv,ct,osl,rfl,lk,hcd⟩:=F.ex;refine Wn lk hcd S (fun vs H Q E h=>h.1) fun A outer s H vs Q E hr hok h=>?_;obtain⟨_,G,ds,e,r,h⟩:=h;dsimp only at h;exact⟨_,hb cdv A outer s H E ⟨G,H,0⟩ hr (fun b n=>by
  cases z:H b with
  |none=>exact z
  |some u=>obtain⟨o,w⟩:=Gd (hok _ _ z);rw[n]at w;cases w),aP N ds,G,QF e r,abJ (B:=⟨G,H,0⟩) h⟩
theorem alp{g:aD->Ou}(F:Fun K x qual st f fd)(S:aX N ps (aC st))
  (hb:∀(cdv:aa) (A:aT) (outer:List Env) (s:af) (H:Hp) (E:XK) (B:Bs),jP k (A.deeper (kP qual (aC st) s.heap.objs.size f cdv)) ->
   Ba (tR (wZ P w K) P w K mg base N qual (aC st) f cdv A outer s H E) B (fun c n _ H'=>E (yX c n) none H') (cM st) g) :
  nD P w K mg base (wZ P w K) (k + 1) f fd ps (spV K ps.length fun ds=>jk (g (aP N ds))):=alo F S fun cdv A outer s H E B hr _=>hb cdv A outer s H E B hr
end
noncomputable def bA(n:Nat)(g:List D->Rs D):List D->Rs D:=fun ds=>if ds.length=n then g ds else .no
section
variable{X:Cx}{B:Bs}{W:Wi}
theorem afk{x:Str}{p pos:Pos}{e:ag}{es:List ag}{fs:aD->Rs (List D)}{f:ae}{fd:cz}{ps:List Str}{k n:Nat}{g:List D->Rs D}(F:nD X.prog X.w X.K X.mg X.base (wZ X.prog X.w X.K) k f fd ps (spV X.K n g))(hr:jP k X.A)(hg:Gl X x)(hm:X.mg x=some (.ref f))(hk:iF X.K (.ref f)=true)(hb:Binds X.K fd ps [])
  (hx:uo X W) (ha:SA X B W (e::es) fs) (hdb:wk x:=by decide) (he:a8 (e::es) X.env=(false,a7 e X.env)::a8 es X.env:=by rfl) (hpl:(cE pos (a8 es X.env)).any (·.1)=false:=by rfl) :
  SE X B W (.Call (.Name x p) (e::es) [] pos) (fA fs (bA n g)):=by
 intro pins s σ H Q I h;refine kK (Am I hg hm ?_ hdb);have h2:tAF X.K B W fs σ H fun vs H1=>spV X.K n g vs H1 Q fun v _ H'=>∃c n,v=yX c n/\W c n σ H':=by
  obtain⟨ρ,G,s,p⟩:=h;refine⟨ρ,G,s,?_⟩;unfold fA at p;cases e:fs ρ with
  |ex c n=>rw[e]at p;exact p
  |no=>rw[e]at p;exact p
  |ok ds =>
   rw[e]at p;intro vs H1 G1 x r;have p:=Post.ext x p;unfold bA at p;dsimp only[Rs.bind]at p;by_cases hl:ds.length=n
   ·rw[if_pos hl]at p;refine⟨by rw[<- r.length];exact hl,G1,ds,(s.ext x).ex0,r,?_⟩;cases e1:g ds with
    |ok d=>rw[e1]at p;exact p
    |ex c n=>rw[e1]at p;exact fun H' G' y=>⟨c,n,rfl,p H' G' y⟩
    |no=>rw[e1]at p;exact p.elim
   ·rw[if_neg hl]at p;exact p.elim
 refine tf (h₀:=X.base) I.ok.mod.Yp hk (nq (ha pos pins s σ H _ I h2) fun us s1 ⟨vs,H1,I1,r,q⟩=>⟨I1.xu,?_⟩) he hpl;have hl:(us++[]).length=ps.length:=by rw[fh,<- r.length];exact F.len _ _ _ _ q
 have hbb:=hb s1 us I1.xu hl;rw[fh]at hbb;refine kH (i4 (F.run X.A X.stack s1 H1 ⟨us,[]⟩ us vs Q _ hr I1.env0 hbb r q) fun r s' hq=>?_);cases r with
 |error e=>exact hx pins σ H1 s1 e s' I1 hq
 |ok fl =>
  cases fl with
  |ret u=>exact I1.after hq
  |next=>exact dy hq
  |brk=>exact dy hq
  |cont=>exact dy hq
end
noncomputable def Yl(K:ai)(J:It)(ds:List D)(G:Hp):Prop:=∀(i:Nat) (G1 H1:Hp),Same G G1->Ext G1 H1 G1 H1 ->
 (∀d,ds[i]?=some d->J.go i H1/\∀x H2,J.yld i H1 x H2->∃G2,Ext G1 H1 G2 H2/\Rep K G2 d x)/\(ds.length<=i->J.stop i H1)
noncomputable def WR(K:ai)(W:Wi)(σ:St)(G H:Hp)(r:Rs (List D))(R:It->Hp->Prop):Prop :=
 match r with
 | .ok ds=>∀J H' G',Ext G H G' H'->Yl K J ds G'->R J H'
 | .ex c n=>∀H' G',Ext G H G' H'->W c n σ H'
 | .no=>False
noncomputable def tI(K:ai)(B:Bs)(W:Wi)(f:aD->Rs (List D)):TI:=fun σ H R=>∃ρ G,SR K B σ H ρ G/\WR K W σ G H (f ρ) R
noncomputable def SI(X:Cx)(B:Bs)(W:Wi)(tg iter:ag)(f:aD->Rs (List D)):Prop:=PI X tg iter (tI X.K B W f)
noncomputable def asL:D->Rs (List D)
 | .lst ds=>.ok ds
 |_=>.no
noncomputable def asT:D->Rs (List D)
 | .tup ds=>.ok ds
 |_=>.no
section
variable{X:Cx}{K:ai}{B:Bs}{W:Wi}{σ:St}{G H:Hp}{ρ:aD}{tg iter:ag}{f:aD->Rs D}
theorem PI.imp{t t':TI}(h:PI X tg iter t)(i:∀σ H R,t' σ H R->t σ H R):PI X tg iter t':=fun pins s σ H R I q=>h pins s σ H R I (i σ H R q)
theorem aiJ{a:ae}{ds:List D}{vs:List V}(q:qF K G a vs)(r:bH K G ds vs):Yl K (Itt K a) ds G:=by intro i G1 H1 gg e;have q1:=Same.oV e.gh (Same.oV gg q);refine⟨fun d hd=>?_,fun hl=>⟨vs,q1,by rw[<- r.length];exact hl⟩⟩;obtain⟨v,hv,rv⟩:=r.get hd;refine⟨⟨vs,v,q1,hv⟩,fun x H2 y=>?_⟩;obtain⟨e2,y⟩:=y;subst e2;have:=y vs q1;rw[hv]at this;cases this;exact⟨G1,e,rv.mono gg⟩
theorem WW{as:D->Rs (List D)}{r:Rs D}{R:It->Hp->Prop}{Q:VK}(p:WR K W σ G H (r.bind as) R)(h:∀d v H' G' ds,as d=.ok ds->Ext G H G' H'->Rep K G' d v->(∀J Wu G'',Ext G' H' G'' Wu->Yl K J ds G''->R J Wu)->Q v H')(hn:∀d c n,as d≠.ex c n):Post K W σ G H r Q:=by
 cases r with
 |ok d =>
  intro v H' G' e rv;have p':WR K W σ G H (as d) R:=p;cases e1:as d with
  |ok ds=>rw[e1]at p';exact h d v H' G' ds e1 e rv fun J Wu G'' e' y=>p' J Wu G'' (e.trans e') y
  |ex c n=>exact(hn d c n e1).elim
  |no=>rw[e1]at p';exact p'.elim
 |ex c n=>exact p
 |no=>exact p
theorem afl(hi:SE X B W iter f):SI X B W tg iter (fun ρ=>(f ρ).bind asL):=by
 refine PI.imp (Wj hi) fun σ H R ⟨ρ,G,s,p⟩=>⟨ρ,G,s,WW p (fun d v H' G' ds e1 e rv k=>?_) (fun d c n z=>by cases d <;> cases z)⟩
 cases d with
 |lst es =>
  cases e1;obtain⟨a,vs,rfl,q,rr⟩:=bO.mp rv;refine⟨a,rfl,⟨vs,e.gh.seq q⟩,k _ H' G' (.refl e.gh e.tp) ?_⟩;intro i G1 H1 gg e';have q1:=e'.gh.seq (gg.seq q);refine⟨fun d hd=>?_,fun hl=>⟨vs,q1,by rw[<- rr.length];exact hl⟩⟩;obtain⟨v,hv,rv⟩:=rr.get hd;refine⟨⟨vs,v,q1,hv⟩,fun x H2 y=>?_⟩;obtain⟨e2,y⟩:=y;subst e2;have:=y vs q1;rw[hv]at this;cases this;exact⟨G1,e',rv.mono gg⟩
 |_=>cases e1
theorem aiK(hi:SE X B W iter f):SI X B W tg iter (fun ρ=>(f ρ).bind asT):=by
 refine PI.imp (abd hi) fun σ H R ⟨ρ,G,s,p⟩=>⟨ρ,G,s,WW p (fun d v H' G' ds e1 e rv k=>?_) (fun d c n z=>by cases d <;> cases z)⟩
 cases d with
 |tup es =>
  cases e1;obtain⟨a,vs,rfl,q,rr⟩:=bV.mp rv;exact⟨a,rfl,⟨vs,Same.oV e.gh q⟩,k _ H' G' (.refl e.gh e.tp) (aiJ q rr)⟩
 |_=>cases e1
noncomputable def Uv(ρ:aD):Prop:=∀(i:Nat) (z:Sl),ρ[i]?=some z->z.own=true->False
noncomputable def zV(h:Tg):Prop:=∀d ρ ρ',Uv ρ->h d ρ=some ρ'->Uv ρ'
noncomputable def kJ(nt:Nat)(caps:List Nat)(ρ:aD):aD:=hW nt .no++caps.map fun i=>match ρ[i]? with|some (.fz d)=>.fz d|_=>.no
noncomputable def jr(h:Tg)(ft:aD->Rs Bool)(fe:aD->Rs D):List D->aD->Rs (List D)
 | [],_=>.ok []
 |d::ds,ρ=>match h d ρ with
  |none=>.no
  |some ρ1=>(ft ρ1).bind fun b=>if b=true then (fe ρ1).bind fun y=>(jr h ft fe ds ρ1).bind fun ys=>.ok (y::ys) else jr h ft fe ds ρ1
theorem vo{nt:Nat}{caps:List Nat}{ρ:aD}:Uv (kJ nt caps ρ):=fun i z q w=>by
 unfold kJ at q;by_cases hi:i < (hW nt Sl.no).length
 ·rw[f9 hi,j5]at q;split at q <;> cases q;cases w
 ·rw[gu (by lia),df]at q;cases e:caps[i - (hW nt Sl.no).length]? with
  |none=>rw[e]at q;cases q
  |some k =>
   rw[e]at q;have q':(match ρ[k]? with|some (.fz d)=>Sl.fz d|_=>.no)=z:=dk q;split at q' <;> (subst q';cases w)
theorem afm{nt:Nat}{caps:List Nat}{p:ae}(s:SR K B σ H ρ G)(hp:H p=none):SR K ⟨G,H,0⟩ (xR nt caps σ) (upd H p (.lst [])) (kJ nt caps ρ) G:=by
 refine⟨yL s.en.gh s.en.tp hp,by simp[xR,kJ],fun i d q=>?_,fun i z q w=>(vo i z q w).elim,fun i j z z' a q w=>(vo i z q w).elim,fun i ds a q=>(vo i _ q rfl).elim,s.co.same (yL s.en.gh s.en.tp hp).hh⟩;unfold kJ at q;unfold xR;by_cases hi:i < nt
 ·rw[f9 (by simpa using hi),j5]at q;split at q <;> cases q
 ·rw[gu (by simpa using hi),df,ny]at q;rw[gu (by simpa using hi),df,ny];cases e:caps[i - nt]? with
  |none=>rw[e]at q;cases q
  |some k =>
   rw[e]at q;have q':(match ρ[k]? with|some (.fz d)=>Sl.fz d|_=>.no)=.fz d:=dk q;cases e2:ρ[k]? with
   |none=>rw[e2]at q';cases q'
   |some z =>
    rw[e2]at q';cases z with
    |fz d' =>
     cases q';obtain⟨v,h1,h2⟩:=s.fz k _ e2;exact⟨v,by simp[h1],h2⟩
    |no=>cases q'
    |ow _=>cases q'
    |od _=>cases q'
    |op _=>cases q'
theorem SR.off{p:ae}{vs us:List V}(s:SR K B σ H ρ G)(hn:Uv ρ)(hp:H p=some (.lst vs))(g:G p=none)(b:B.2 p=none):SR K B σ (upd H p (.lst us)) ρ G:=by
 refine⟨⟨s.en.gg,fun c o z=>?_,fun c o z=>?_,fun c xs z=>?_,s.en.nw⟩,s.len,s.fz,fun i z q w=>(hn i z q w).elim,fun i j z z' a q w=>(hn i z q w).elim,fun i ds a q=>(hn i _ q rfl).elim,s.co.upd hp (fun _ z=>by cases z)⟩
 ·rw[aQ (aR z b)];exact s.en.hh c o z
 ·rw[aQ (aR z g)];exact s.en.gh c o z
 ·by_cases w:c=p
  ·subst w;rw[aV]at z;cases z
  ·rw[aQ w]at z;exact s.en.tp c xs z
noncomputable def qI(h:Tg)(ft:aD->Rs Bool)(fe:aD->Rs D)(nt:Nat)(caps:List Nat)(f:aD->Rs (List D)):aD->Rs D:=fun ρ =>
 (f ρ).bind fun ds=>sU ((jr h ft fe ds (kJ nt caps ρ)).bind fun ys=>if ys.length<=1000000 then .ok (.lst ys) else .no)
noncomputable def CK(h:Tg)(ft:aD->Rs Bool)(fe:aD->Rs D)(nt:Nat)(caps:List Nat)(f:aD->Rs (List D)):aD->Rs D:=fun ρ =>
 (f ρ).bind fun ds=>match jr h ft fe ds (kJ nt caps ρ) with
  | .ok ys=>if ys.length<=1000000 then .ok (.lst ys) else .no
  | .ex c n=>if ds.length<=1000000 then .ex c n else .no
  | .no=>.no
theorem JT{h:Tg}{ft:aD->Rs Bool}{fe:aD->Rs D}:∀{ds:List D}{ρ:aD},jr h (fun ρ=>sU (ft ρ)) (fun ρ=>sU (fe ρ)) ds ρ=sU (jr h ft fe ds ρ)
 | [],_=>rfl
 |d::ds,ρ=>by
  unfold jr;cases h d ρ with
  |none=>rfl
  |some ρ1 =>
   have ih:=JT (h:=h) (ft:=ft) (fe:=fe) (ds:=ds) (ρ:=ρ1);dsimp only;generalize jr h (fun ρ=>sU (ft ρ)) (fun ρ=>sU (fe ρ)) ds ρ1=x at ih ⊢;generalize jr h ft fe ds ρ1=y at ih ⊢;subst ih;cases ft ρ1 with
   |ok b =>
    cases b with
    |true =>
     cases fe ρ1 with
     |ok z=>cases y <;> rfl
     |_=>rfl
    |false=>rfl
   |_=>rfl
theorem afn{h:Tg}{ft:aD->Rs Bool}{fe:aD->Rs D}{nt:Nat}{caps:List Nat}{f:aD->Rs (List D)}:qI h ft fe nt caps f=CK h (fun ρ=>sU (ft ρ)) (fun ρ=>sU (fe ρ)) nt caps f:=funext fun ρ=>by
 unfold qI CK;cases f ρ with
 |ok ds =>
  dsimp only[Rs.bind];rw[JT];cases jr h ft fe ds (kJ nt caps ρ) with
  |ok ys=>show sU (if ys.length<=1000000 then _ else _)=if ys.length<=1000000 then _ else _;by_cases c:ys.length<=1000000 <;> simp only[c,if_true,if_false] <;> rfl
  |_=>rfl
 |_=>rfl
theorem abS{α:Type}{r:Rs α}{c:Str}{n:Int}(e:sU r=.ex c n):False:=by cases r <;> cases e
theorem afo{e:ag}{f:aD->Rs D}(h:SE X.nox B WF e f):SE X B W e (fun ρ=>sU (f ρ)) :=
 fun pins s σ H Q I ⟨ρ,G,sr,p⟩=>PE.nox h pins s σ H Q I ⟨ρ,G,sr,by dsimp only at p;cases e:f ρ <;> (rw[e]at p;first|exact p|exact p.elim)⟩
theorem afp{e:ag}{f:aD->Rs Bool}(h:ST X B WF e f):ST X B WF e (fun ρ=>sU (f ρ)) :=
 fun pins s σ H Q I ⟨ρ,G,sr,p⟩=>h pins s σ H Q I ⟨ρ,G,sr,by dsimp only at p;cases e:f ρ <;> (rw[e]at p;first|exact p|exact p.elim)⟩
noncomputable def Px(X:Cx)(W:Wi):Prop:=abM X W/\X.ex=[]/\∃outer L,X.stack=X.env::outer/\X.env.frame=some L
theorem afq{old h h':aw}{av:List ae}{ea C:ae}{c:Str}{n:Int}{tr:Bool}{m:Str->Option aa}(F:YL K old av ea c n h H tr)(hn:h.Ns C m)(hs:dP C h h'):YL K old av ea c n h' H tr:=by
 have ne:∀b o (vs:Array aa),h.get? b=some o->o.data=.fields vs->h'.get? b=some o:=fun b o vs e d=>(hs.2 b fun z=>by
  obtain⟨o',es,ep,ho,hd,_⟩:=hn;rw[z,ho]at e;cases e;rw[hd]at d;cases d).trans e
 obtain⟨D,oe,vs,a0,h1,h2,h3,h4,h5,h6,h7,h8,h9,h10⟩:=F;refine⟨D,oe,vs,a0,h1,ne _ _ _ h2 h4,h3,h4,h5,h6,h7,h8,h9,?_⟩;cases tr with
 |false=>exact h10
 |true =>
  rw[if_pos rfl]at h10 ⊢;obtain⟨T,oT,ts,x,t1,t2,t3,t4,t5⟩:=h10;exact⟨T,oT,ts,x,t1,t2,ne _ _ _ t3 t4,t4,t5⟩
theorem Lk{prog:aE}{w:ay}{A:aT}{E:aa->af->Prop}{s:af}{env:Env}{Q:Bool->af->Prop}(h:Q true s) :
  az (ar prog w) A (forIn ([]:List ag) true fun c r=>if r=true then do let ok <- isTrue c env (a7 c env);pure (ForInStep.yield ok) else pure (ForInStep.yield r)) Q E s:=by
 simp only[uk];exact a9 h
theorem YQ{elt:ag}{ifs:List ag}{sc:Scope}{pos:Pos}{N:List Str}{nt:Nat}{caps:List Nat}{h:Tg}{ft:aD->Rs Bool}{fe:aD->Rs D}{fi:aD->Rs (List D)}
  (c:Ip X sc N nt caps) (hc:X.calm=true) (hnames:∀y∈sc.names,y.2=.local->sc.names.lookup y.1=some .local) (hi:SI X B W tg iter fi) (hno:zV h)
  (ht:∀s₀ H₀ C ex pins B',SG (qH X N s₀ H₀ sc (qe sc X.env) C ex pins) B' tg h)
  (hif:(ifs=[]/\ft=fun _=>.ok true)∨∃c,ifs=[c]/\(∀ρ c n,ft ρ≠.ex c n)/\∀s₀ H₀ C ex pins B',ST (qH X N s₀ H₀ sc (qe sc X.env) C ex pins) B' WF c ft)
  (he:∀s₀ H₀ C ex pins B' E W',uo ((qH X N s₀ H₀ sc (qe sc X.env) C ex pins).wish E) W'->SE ((qH X N s₀ H₀ sc (qe sc X.env) C ex pins).wish E) B' W' elt fe)
  (hx:(∀ρ c n,fe ρ≠.ex c n)∨Px X W) (hs:∀x,ir iter X.env x=pure x)
  {use:Option (aa->Sem Unit)}{QQ:aa->af->Prop}{pins:List (ae×Obj)}{s:af}{σ:St}{H G:Hp}{ρ:aD}(I:Inv X pins σ H s) (sr:SR X.K B σ H ρ G)
  (p:match CK h ft fe nt caps fi ρ with
   | .ok d=>∀(D' C:ae) (H' G':Hp) (s5:af) (fl:Flow),Ext G H G' H'->Rep X.K G' d (.ref D')->(∃m,s5.heap.Ns C m)->tQ X pins H' C->(∀h',dP C s5.heap h'->Inv X pins σ H' { s5 with heap:=h' })->compPost (ar X.prog X.w) X.A X.xe use QQ (.ref D') C (.ok fl) s5
   | .ex c n=>∀H' G',Ext G H G' H'->W c n σ H'
   | .no=>False) :
  az (ar X.prog X.w) X.A (comprehension (.ListComp elt [⟨tg,iter,ifs,0⟩] sc pos) sc X.env (firstIterPos [⟨tg,iter,ifs,0⟩] pos) (newList []) (firstAsync [⟨tg,iter,ifs,0⟩]) (firstIter [⟨tg,iter,ifs,0⟩] X.env) use) QQ X.xe s:=by
 refine wpAny_comprehension_free (use:=use) (cl:=qe sc X.env) rfl hs (DY (c.cells I)) c.kind hnames ?_;show az (ar X.prog X.w) X.A (a7 iter X.env) _ X.xe s
 let PP:List D->Rs (List D)->Prop:=fun ds r=>match r with
  | .ok YS=>YS.length<=1000000/\∀(D' C:ae) (H' G':Hp) (s5:af) (fl:Flow),Ext G H G' H'->Rep X.K G' (.lst YS) (.ref D')->(∃m,s5.heap.Ns C m)->tQ X pins H' C->(∀h',dP C s5.heap h'->Inv X pins σ H' { s5 with heap:=h' })->compPost (ar X.prog X.w) X.A X.xe use QQ (.ref D') C (.ok fl) s5
  | .ex c n=>ds.length<=1000000/\∀H' G',Ext G H G' H'->W c n σ H'
  | .no=>False
 refine eK (hi pins s σ H (fun J H2=>∃G2 ds,Ext G H G2 H2/\Yl X.K J ds G2/\PP ds (jr h ft fe ds (kJ nt caps ρ))) I ⟨ρ,G,sr,?_⟩) (fun v s1 h1=>eK h1 (fun itv s2 h2=>?_) fun _ _ z=>z) fun _ _ z=>z
 ·unfold CK at p;cases e:fi ρ with
  |ok ds =>
   rw[e]at p;dsimp only[Rs.bind]at p;refine fun J H' G' x y=>⟨G',ds,x,y,?_⟩
   cases e:jr h ft fe ds (kJ nt caps ρ) with
   |ok YS =>
    rw[e]at p;by_cases hl:YS.length<=1000000
    ·simp only[if_pos hl]at p;exact⟨hl,p⟩
    ·simp only[if_neg hl]at p
   |ex c n =>
    rw[e]at p;by_cases hl:ds.length<=1000000
    ·simp only[if_pos hl]at p;exact⟨hl,p⟩
    ·simp only[if_neg hl]at p
   |no=>rw[e]at p;exact p.elim
  |ex c n=>rw[e]at p;exact p
  |no=>rw[e]at p;exact p
 obtain⟨it,fp,tn,J,H2,e,I2,T,st2,f2,G2,ds,x2,yl,hPP⟩:=h2;subst e;refine i8 (wpAny_newFunctionEnv c.abL (by intro y hy;simp at hy) (fun h₁ hns₁ hsb₁=>?_) c.kind);have hD2:H2 s2.heap.objs.size=none:=I2.fresh;have I3:=I2.alc (ys:=[]) (its:=[]) (t':=s2.toks) .nil (by simp);have sr2:SR X.K B σ H2 ρ G2:=sr.ext x2;have fpl:∀b∈fp,b < s2.heap.objs.size:=fun b hb=>by obtain⟨o,ho,_⟩:=T.obj 0 _ st2 b hb;exact bE ho
 have hk:∀b o,(s2.heap.push { cls:=.type "list",data:=.seq ([]:List aa).toArray }).get? b=some o->h₁.get? b=some o:=fun b o z =>
  (hsb₁.2 b (cq (bE z))).trans (cm _ z)
 have alq:∀b∈fp,tQ X pins (upd H2 s2.heap.objs.size (.lst [])) b/\b < (s2.heap.push { cls:=.type "list",data:=.seq ([]:List aa).toArray }).objs.size:=fun b hb=>by
  obtain⟨g1,g2⟩:=f2 b hb;refine⟨⟨?_,g2⟩,?_⟩
  ·rw[aQ (cq (fpl b hb))];exact g1
  ·rw[gr];exact nI (fpl b hb)
 have IY:=Uu (h':=h₁) (tk:=s2.toks + ([]:List (Str×aa)).length) c I3 alq hns₁ hk;generalize hC:(s2.heap.push { cls:=.type "list",data:=.seq ([]:List aa).toArray }).objs.size=C at *;have srY:=afm (nt:=nt) (caps:=caps) sr2 hD2;have stk:∀b,b≠X.env.locals->b∉X.fs->b∉Al X.stack:=fun b h1 h2 h3=>(bq.mp (I2.Fv b h3)).elim h1 h2;have hCl:s2.heap.objs.size + 1=C:=by rw[<- hC,gr]
 have stat:∀{H':Hp},(∀b∈fp,H' b=none)->∀b∈fp,tQ (qH X N { s2 with heap:=s2.heap.push { cls:=.type "list",data:=.seq ([]:List aa).toArray },toks:=s2.toks } (upd H2 s2.heap.objs.size (.lst [])) sc (qe sc X.env) C fp pins) [] H' b:=fun {H'} hn b hb=>by
  obtain⟨_,g2,g3,g4,g5,g6⟩:=f2 b hb;refine⟨hn b hb,?_,stk b g2 g3,.inl hb,fun x a ha=>g5 x a (c.cl I2 ha),fun p hp=>?_⟩
  ·show b≠C;exact cq (hCl▸nI (fpl b hb))
  ·rw[fh]at hp;exact g6 p hp
 let Y:=qH X N { s2 with heap:=s2.heap.push { cls:=.type "list",data:=.seq ([]:List aa).toArray },toks:=s2.toks } (upd H2 s2.heap.objs.size (.lst [])) sc (qe sc X.env) C fp pins
 let D':=s2.heap.objs.size
 have toX:∀{σ5:St}{H5:Hp}{s5:af},Inv Y [] σ5 H5 s5->∀h',dP C s5.heap h'->Inv X pins σ H5 { s5 with heap:=h' }:=fun {σ5 H5 s5} I5 h' hs'=>by
  have ne:∀b o,(s2.heap.push { cls:=.type "list",data:=.seq ([]:List aa).toArray }).get? b=some o->b≠C:=fun b o e z=>by have:=bE e;rw[hC,z]at this;exact eJ _ this
  have U:=I5.base;refine I3.call' (ch:=fp) (s':={ s5 with heap:=h' }) I5.os ⟨fun b o e n hb hx=>?_,fun b o e n hb hx=>?_,U.free,fun b o e hx=>?_,U.tups,U.Fq,U.Ij⟩ (fun b o e=>?_) I5.bare fun b hb=>?_
  ·exact(hs'.2 b (ne b o e)).trans (U.keep b o e n hb hx)
  ·obtain⟨sl,q⟩:=U.slot b o e n hb hx;exact⟨sl,(hs'.2 b (ne b o e)).trans q⟩
  ·obtain⟨o',q⟩:=U.there b o e hx;exact⟨o',(hs'.2 b (ne b o e)).trans q⟩
  ·have fC:H5 C=none:=I5.free;refine(I5.hok b o e).stay (fun c' u' hc' q=>(hs'.2 c' ?_).trans q) (fun _ q=>q) (fun _ _ q=>q) fun _ _ q=>q;rintro rfl;rcases hc' with rfl|hc'
   ·rw[fC]at e;cases e
   ·rw[fC]at hc';cases hc'
  ·obtain⟨_,g2,_,g4,g5,g6⟩:=f2 b hb;exact⟨g4,g2,g5,g6⟩
 have hfx:∀ρ c n,ft ρ≠.ex c n:=by
  rcases hif with ⟨_,e2⟩|⟨_,_,h,_⟩
  ·subst e2;exact fun _ _ _ z=>nomatch z
  ·exact h
 let Jn:Nat->af->Prop:=fun n s4=>∃(i:Nat) (ρ':aD) (σ':St) (H' G':Hp) (yds:List D) (yvs:List V),Inv Y [] σ' H' s4/\tn i s4.heap/\(∀b∈fp,H' b=none)/\SR X.K ⟨G2,H2,0⟩ σ' H' ρ' G'/\Uv ρ'/\H' D'=some (.lst yvs)/\G' D'=none /\
  bH X.K G' yds yvs/\i<=ds.length/\n=ds.length - i/\yds.length<=i/\PP ds ((jr h ft fe (ds.drop i) ρ').bind fun r=>.ok (yds++r))
 have loop:∀(n:Nat) (s4:af),Jn n s4->fg (ar X.prog X.w) X.A (.compLoop (.ListComp elt [⟨tg,iter,ifs,0⟩] sc pos) 0 (.ref it) (.ref D') Y.env) (compPost (ar X.prog X.w) X.A X.xe use QQ (.ref D') C) s4:=by
  intro n0 s40 h0;refine Lj (J:=Jn) ?_ n0 h0;rintro n s4 ⟨i,ρ',σ',H',G',yds,yvs,I4,JV,fr4,sr4,no4,hD4,hG4,ry4,hi4,rfl,hyi,hcd⟩;by_cases hlt:i < ds.length
  ·obtain⟨yes,_⟩:=yl i G' H' sr4.en.gg sr4.Qt;obtain⟨go,yields⟩:=yes ds[i] (by simp[hlt]);rw[i6 hlt]at hcd;unfold jr at hcd;cases eh:h ds[i] ρ' with
   |none=>rw[eh]at hcd;exact hcd.elim
   |some ρ1 =>
    rw[eh]at hcd;dsimp only at hcd;refine nq (T.item Y rfl rfl rfl hc i [] s4 σ' H' (fun _ _=>False) I4 (stat fr4) JV go) fun r s5 mF=>?_;obtain⟨u,hr,h5⟩:=mF;subst hr;refine nq h5 fun _ s6 mF=>?_;obtain⟨x,H6,I6,r6,y6,st6,fr6⟩:=mF;obtain⟨G6,e6,anE⟩:=yields x H6 y6;have sr6:=sr4.ext e6;have I6':=I6.pinned (stat fr6) (T.obj _ _ st6);refine nq (ht _ _ _ _ _ ⟨G2,H2,0⟩ _ s6 σ' H6 x u (fun σ7 H7=>H7=H6/\SR X.K ⟨G2,H2,0⟩ σ7 H6 ρ1 G6) I6' r6 ⟨ρ',G6,ds[i],sr6,anE,ρ1,eh,fun σ7 z=>⟨rfl,z⟩⟩) fun _ s7 mF=>?_;obtain⟨σ7,H7,I7,eH7,sr7⟩:=mF;subst eH7;have no7:=hno _ _ _ no4 eh;have again:∀{σ8:St}{H8:Hp}{s8:af},Inv Y ([]++Ck fp s6.heap) σ8 H8 s8->Inv Y [] σ8 H8 s8/\tn (i + 1) s8.heap/\∀b∈fp,H8 b=none:=fun {σ8 H8 s8} I8=>by refine⟨I8.Ao,T.keep _ _ _ st6 fun b hb o e=>(I8.pin (b,o) (f7 _ (f7 _ (vd hb e)))).1,fun b hb=>?_⟩;obtain⟨o,e,d⟩:=T.obj _ _ st6 b hb;exact(I8.pin (b,o) (f7 _ (f7 _ (vd hb e)))).2.1
    obtain⟨b,hb,hcd⟩:∃b,ft ρ1=.ok b/\PP ds ((if b=true then (fe ρ1).bind fun y=>(jr h ft fe (ds.drop (i + 1)) ρ1).bind fun ys=>.ok (y::ys) else jr h ft fe (ds.drop (i + 1)) ρ1).bind fun r=>.ok (yds++r)):=by
     cases e:ft ρ1 with
     |ok b=>rw[e]at hcd;exact⟨b,rfl,hcd⟩
     |ex c n=>exact(hfx _ _ _ e).elim
     |no=>rw[e]at hcd;exact hcd.elim
    have test:az (ar X.prog X.w) X.A (forIn ifs true fun c r=>if r=true then do let ok <- isTrue c Y.env (a7 c Y.env);pure (ForInStep.yield ok) else pure (ForInStep.yield r)) (TP Y ([]++Ck fp s6.heap) σ7 fun b' H8=>b'=b/\∃G8,Ext G6 H7 G8 H8) (fun _ _=>False) s7:=by
     rcases hif with ⟨e1,e2⟩|⟨cc,e1,_,hst⟩
     ·subst e1 e2;cases hb;exact Lk ⟨H7,I7,rfl,G6,sr7.Qt⟩
     ·subst e1;refine wpAny_tests_one (hst _ _ _ _ _ ⟨G2,H2,0⟩ _ s7 σ7 H7 _ I7 ⟨ρ1,G6,sr7,?_⟩);rw[hb];exact fun H8 G8 e8=>⟨rfl,G8,e8⟩
    refine nq test fun ok s8 mF=>?_;obtain⟨H8,I8,eb,G8,e8⟩:=mF;subst eb;have sr8:=sr7.ext e8;have hD8:H8 D'=some (.lst yvs):=e8.hh _ _ (e6.hh _ _ hD4);have hG8:G8 D'=none:=e8.nw _ _ (e6.hh _ _ hD4) (e6.nw _ _ hD4 hG4);have ry8:=(ry4.mono e6.gg).mono e8.gg;cases ok with
    |true =>
     rw[if_pos rfl]at hcd ⊢
     let W1:Wi:=fun c n _ H9=>fe ρ1=.ex c n/\∃G9,Ext G8 H8 G9 H9
     let E1:aa->af->Prop:=fun e s'=>∃Fw σ' H' s1,Inv Y Fw σ' H' s1/\wZ X.prog X.w X.K X.stack H' s1 (fun v _ Wu=>∃c n,v=yX c n/\W1 c n σ' Wu) e s'
     refine eK (he _ _ _ _ _ ⟨G2,H2,0⟩ E1 W1 (fun Fw σ' H' s1 e s' I1 q=>⟨Fw,σ',H',s1,I1.rA,q⟩) _ s8 σ7 H8 (fun v H9=>∃y G9,fe ρ1=.ok y/\Ext G8 H8 G9 H9/\Rep X.K G9 y v) (I8.wish E1) ⟨ρ1,G8,sr8,?_⟩) (fun u9 s9 ⟨v9,H9,I9,r9,y,G9,hy,e9,anJ⟩=>?_) (fun e s' q=>?_)
     ·cases e:fe ρ1 with
      |ok y=>exact fun v H9 G9 e9 r=>⟨y,G9,rfl,e9,r⟩
      |ex c n=>exact fun H9 G9 e9=>⟨e,G9,e9⟩
      |no=>rw[e]at hcd;exact hcd.elim
     rotate_left
     ·obtain⟨Fw,σ',H1,s1,I1,ea,c',n,H9,e1,os,bare,un,hok,F,c0,n0,e2,efe,G9,x9⟩:=q;subst e1;obtain⟨rfl,rfl⟩:=WQ e2;rcases hx with hx|⟨hp,hex,outer,L,hst,hf⟩
      ·exact(hx _ _ _ efe).elim
      rw[efe]at hcd;have J1:Inv Y [] σ' H1 s1:=I1.KR fun p z=>absurd z (by simp);have J9:Inv Y [] σ' H9 s':=J1.call' (ch:=[]) os un hok bare (fun b z=>absurd z (by simp));obtain⟨m,hm,_⟩:=J9.loc;have fpk:tQ X pins H9 C:=I3.Uc (o_ hC) J9.free;show az _ X.A (l6 (.ref ea) X.env) _ _ s';refine abP hst hf hex (toX J9 s'.heap (.refl C _)) (abR (toX J1 s1.heap (.refl C _)) hex F) fun h' K2 F2 up=>?_;have jk:∃m,h'.Ns C m/\∀h'',dP C h' h''->∀cenv:Env,cenv.locals=C->az (ar X.prog X.w) X.A (passOn "comprehension.variables-let-go" (.ref ea) cenv:Sem aa) (fun _ _=>False) X.xe { s' with heap:=h'' }:=⟨m,up.ns hm,fun h'' hs cenv _=>by
       have K3:=K2.turned (t':=s'.toks) (fun b o hb e=>(hs.2 b hb).trans e) fpk.1 fpk.2.1 fpk.2.2.2.1 fpk.2.2.2.2.1 fpk.2.2.2.2.2;have F3:=afq F2 (up.ns hm) hs;obtain⟨_,oe,vs,a0,_,g2,_,g4,_,_,_,_,_,g10⟩:=id F3;rw[if_pos rfl]at g10;obtain⟨T,_,_,_,t1,_⟩:=g10;unfold passOn;refine ah (eM g2 g4 t1 ?_);rw[if_neg (show ¬((aa.ref T == aa.none)=true) from by simp)];have go:az (ar X.prog X.w) X.A (do setFlight (.ref ea) cenv.frame;throw (.ref ea):Sem aa) (fun _ _=>False) X.xe { s' with heap:=h'' }:=ah (abQ K3 F3 fun h3 K4 F4=>uv (hp pins σ H9 _ ea c' n true K4 F4 (hcd.2 H9 G9 (x2.trans (sr8.en.trans x9)))))
       first|exact go|exact ah (a9 go)⟩
      cases use <;> exact jk
     rw[hy]at hcd;have Uw:PP ds ((jr h ft fe (ds.drop (i + 1)) ρ1).bind fun r=>.ok ((yds++[y])++r)):=by
      cases e:jr h ft fe (ds.drop (i + 1)) ρ1 with
      |ok ys=>rw[e]at hcd;dsimp only[Rs.bind]at hcd ⊢;rw[h_];exact hcd
      |ex c n=>rw[e]at hcd;exact hcd
      |no=>rw[e]at hcd;exact hcd
     have hD9:=e9.hh _ _ hD8;have hG9:=e9.nw _ _ hD8 hG8;have ryl:=ry8.length;have hYl:yds.length < 1000000:=by
      cases e:jr h ft fe (ds.drop (i + 1)) ρ1 with
      |ok ys =>
       rw[e]at Uw;have:=Uw.1;simp only[cx,bu]at this;lia
      |ex c n=>rw[e]at Uw;have:=Uw.1;lia
      |no=>rw[e]at Uw;exact Uw.elim
     refine nq (Cr (X:=Y) _ s9 σ7 H9 (.ref D') [v9] (.ref D') [u9] (fun _ H10=>H10=upd H9 D' (.lst (yvs++[v9]))) I9.rA rfl (.cons r9 .nil) ⟨D',yvs,v9,rfl,rfl,hD9,by rw[<- ryl];exact dn hYl (by rw[e_];decide),rfl⟩) fun _ s10 mF=>?_;obtain⟨_,H10,I10,_,e10⟩:=mF;subst e10;obtain⟨J1,J2,J3⟩:=again I10;refine⟨ds.length - (i + 1),by lia,i + 1,ρ1,σ7,_,G9,yds++[y],yvs++[v9],J1,J2,J3,(sr8.ext e9).off no7 hD9 hG9 hD2,no7,aV,hG9,(ry8.mono e9.gg).append (.one anJ),hlt,rfl,by rw[cx];exact Nat.succ_le_succ hyi,Uw⟩
    |false =>
     rw[if_neg (by simp)]at hcd ⊢;obtain⟨J1,J2,J3⟩:=again I8;exact⟨ds.length - (i + 1),by lia,i + 1,ρ1,σ7,H8,G8,yds,yvs,J1,J2,J3,sr8,no7,hD8,hG8,ry8,hlt,rfl,Nat.le_succ_of_le hyi,hcd⟩
  ·have ei:i=ds.length:=by lia
   subst ei;obtain⟨_,no⟩:=yl ds.length G' H' sr4.en.gg sr4.Qt;rw[pT]at hcd;dsimp only[jr,Rs.bind]at hcd;rw[fh]at hcd;have hQ:=hcd.2;refine nq (T.done Y rfl rfl rfl hc ds.length [] s4 σ' H' (fun _ _=>False) I4 (stat fr4) JV (no (bj _))) fun r s5 mF=>?_;obtain⟨hr,I5⟩:=mF;subst hr;obtain⟨m,hm,_⟩:=I5.loc;have fC0:H' C=none:=I5.free;refine hQ D' C H' (upd G' D' (.lst yvs)) s5 _ ?_ ?_ ⟨m,hm⟩ (I3.Uc (o_ hC) fC0) (toX I5)
   ·have gg:Same G' (upd G' D' (.lst yvs)):=fun b o z=>by rw[aQ (aR z hG4)];exact z
    refine⟨(x2.gg.trans sr4.en.gg).trans gg,x2.hh.trans sr4.en.hh,fun b o z=>?_,fun b xs z=>?_,fun b o z w=>?_⟩
    ·by_cases e:b=D'
     ·subst e;rw[aV]at z;cases z;exact hD4
     ·rw[aQ e]at z;exact sr4.en.gh b o z
    ·by_cases e:b=D'
     ·subst e;rw[hD4]at z;cases z
     ·rw[aQ e];exact sr4.en.tp b xs z
    ·have z2:=x2.hh b o z;rw[aQ (aR z2 hD2)];exact sr4.en.nw b o z2 (x2.nw b o z w)
   ·have gg:Same G' (upd G' D' (.lst yvs)):=fun b o z=>by rw[aQ (aR z hG4)];exact z
    exact bO.mpr ⟨D',yvs,rfl,.of aV,ry4.mono gg⟩
 have first:∀tk,Jn ds.length { s2 with heap:=h₁,toks:=tk }:=fun tk=>by have IY':Inv Y [] (xR nt caps σ) (upd H2 s2.heap.objs.size (.lst [])) { s2 with heap:=h₁,toks:=tk }:=IY.tok tk;refine⟨0,kJ nt caps ρ,xR nt caps σ,upd H2 D' (.lst []),G2,[],[],IY',T.keep _ _ _ st2 fun b hb o e=>hk b o (cm _ e),fun b hb=>(alq b hb).1.1,srY,vo,aV,sr2.en.gh.free hD2,bI.mpr rfl,eD _,rfl,bj _,by cases e:jr h ft fe ds (kJ nt caps ρ) <;> (rw[e]at hPP;simpa[e,Rs.bind] using hPP)⟩
 exact codeAny_compStart_list (loop _ _ (first _)) (T.self _ 0 _ _ _ (T.keep _ _ _ st2 fun b hb o e=>hk b o (cm _ e)) (loop _ _ (first _)))
theorem abT{elt:ag}{ifs:List ag}{sc:Scope}{pos:Pos}{N:List Str}{nt:Nat}{caps:List Nat}{h:Tg}{ft:aD->Rs Bool}{fe:aD->Rs D}{fi:aD->Rs (List D)}
  (c:Ip X sc N nt caps) (hc:X.calm=true) (hnames:∀y∈sc.names,y.2=.local->sc.names.lookup y.1=some .local) (hi:SI X B W tg iter fi) (hno:zV h)
  (ht:∀s₀ H₀ C ex pins B',SG (qH X N s₀ H₀ sc (qe sc X.env) C ex pins) B' tg h)
  (hif:(ifs=[]/\ft=fun _=>.ok true)∨∃c,ifs=[c]/\(∀ρ c n,ft ρ≠.ex c n)/\∀s₀ H₀ C ex pins B',ST (qH X N s₀ H₀ sc (qe sc X.env) C ex pins) B' WF c ft)
  (he:∀s₀ H₀ C ex pins B' E W',uo ((qH X N s₀ H₀ sc (qe sc X.env) C ex pins).wish E) W'->SE ((qH X N s₀ H₀ sc (qe sc X.env) C ex pins).wish E) B' W' elt fe)
  (hx:(∀ρ c n,fe ρ≠.ex c n)∨Px X W)
  (hs:∀x,ir iter X.env x=pure x:=by intro _;rfl) :
  SE X B W (.ListComp elt [⟨tg,iter,ifs,0⟩] sc pos) (CK h ft fe nt caps fi):=by
 intro pins s σ H Q I hw;obtain⟨ρ,G,sr,p⟩:=hw;rw[eval_ListComp];refine YQ c hc hnames hi hno ht hif he hx hs I sr ?_;cases e:CK h ft fe nt caps fi ρ with
 |ok d =>
  rw[e]at p;intro D' C H' G' s5 fl x r ⟨m,hm⟩ _ IX;exact⟨m,hm,fun h' hs'=>⟨.ref D',H',IX h' hs',rfl,p _ _ _ x r⟩⟩
 |ex c n=>rw[e]at p;exact p
 |no=>rw[e]at p;exact p
theorem afs{elt:ag}{ifs:List ag}{sc:Scope}{pos:Pos}{N:List Str}{nt:Nat}{caps:List Nat}{h:Tg}{ft:aD->Rs Bool}{fe:aD->Rs D}{fi:aD->Rs (List D)}
  (c:Ip X sc N nt caps) (hc:X.calm=true) (hnames:∀y∈sc.names,y.2=.local->sc.names.lookup y.1=some .local) (hi:SI X B W tg iter fi) (hno:zV h)
  (ht:∀s₀ H₀ C ex pins B',SG (qH X N s₀ H₀ sc (qe sc X.env) C ex pins) B' tg h)
  (hif:(ifs=[]/\ft=fun _=>.ok true)∨∃c,ifs=[c]/\∀s₀ H₀ C ex pins B',ST (qH X N s₀ H₀ sc (qe sc X.env) C ex pins) B' WF c ft)
  (he:∀s₀ H₀ C ex pins B',SE (qH X N s₀ H₀ sc (qe sc X.env) C ex pins) B' WF elt fe)
  (hs:∀x,ir iter X.env x=pure x:=by intro _;rfl) :
  SE X B W (.ListComp elt [⟨tg,iter,ifs,0⟩] sc pos) (qI h ft fe nt caps fi):=by
 rw[afn];exact abT c hc hnames hi hno ht (hif.imp (fun⟨a,b⟩=>⟨a,by rw[b];rfl⟩) fun⟨c,a,b⟩=>⟨c,a,fun _ _ _=>abS,fun s₀ H₀ C ex pins B'=>afp (b s₀ H₀ C ex pins B')⟩) (fun s₀ H₀ C ex pins B' E W' _=>afo (he s₀ H₀ C ex pins B')) (.inl fun _ _ _=>abS) hs
end
section
variable{X:Cx}{K:ai}{B:Bs}{W:Wi}{σ:St}{G H:Hp}{ρ:aD}{a b:ag}{pos p:Pos}{fa fb:aD->Rs D}
noncomputable def alu(K:ai)(n:Nat):R2:=fun x y H Q=>∃d d',Rep K H d x/\Rep K H d' y/\nA d<=n/\nA d'<=n/\Q (.bl (wX d d')) H
noncomputable def alv(K:ai)(n:Nat):R2:=fun x y H Q=>∃d d',Rep K H d x/\Rep K H d' y/\nA d<=n/\nA d'<=n/\Q (.bl (!wX d d')) H
theorem abU{n:Nat}(hu:X.A.units + n < b9):Ak X (iA .Eq) (alu X.K n):=by intro pins s σ H x y v u Q I rx ry ⟨d,d',r,r',hd,hd',q⟩;exact aiu I hd hd' hu r r' rx ry X.prog X.w X.xe _ ⟨.bl _,H,I,rfl,q⟩
theorem aiL{n:Nat}(hu:X.A.units + n < b9):Ak X (iA .NotEq) (alv X.K n):=by intro pins s σ H x y v u Q I rx ry ⟨d,d',r,r',hd,hd',q⟩;exact abC I hd hd' hu r r' rx ry X.prog X.w X.xe _ ⟨.bl _,H,I,rfl,q⟩
noncomputable def su:D->D->Rs D:=fun x y=>if nA x<=8/\nA y<=8 then .ok (.bl (wX x y)) else .no
noncomputable def gNe:D->D->Rs D:=fun x y=>if nA x<=8/\nA y<=8 then .ok (.bl (!wX x y)) else .no
theorem abV:Wv K (alu K 8) su:=by
 intro B W σ ρ G H x y v u Q s rx ry p;unfold su at p;by_cases h:nA x<=8/\nA y<=8
 ·rw[if_pos h]at p;exact⟨x,y,rx.mono s.en.gh,ry.mono s.en.gh,h.1,h.2,Post.ok s p (fG.mpr rfl)⟩
 ·rw[if_neg h]at p;exact p.elim
theorem aiM:Wv K (alv K 8) gNe:=by
 intro B W σ ρ G H x y v u Q s rx ry p;unfold gNe at p;by_cases h:nA x<=8/\nA y<=8
 ·rw[if_pos h]at p;exact⟨x,y,rx.mono s.en.gh,ry.mono s.en.gh,h.1,h.2,Post.ok s p (fG.mpr rfl)⟩
 ·rw[if_neg h]at p;exact p.elim
theorem gM{k:Nat}(hr:jP k X.A):X.A.units + 8 < b9:=by have:=hr.un;lia
theorem WX(hu:X.A.units + 8 < b9)(ha:SE X B W a fa)(hb:SE X B W b fb):SE X B W (.Compare a [.Eq] [b] pos) (bW su fa fb):=Us (abU hu) abV ha hb (zP _)
theorem lg(hu:X.A.units + 8 < b9)(ha:SE X B W a fa)(hb:SE X B W b fb):ST X B W (.Compare a [.Eq] [b] pos) (fT (bW su fa fb)):=FT (abU hu) abV ha hb (zP _)
theorem abW(hu:X.A.units + 8 < b9)(ha:SE X B W a fa)(hb:SE X B W b fb):ST X B W (.Compare a [.NotEq] [b] pos) (fT (bW gNe fa fb)):=FT (aiL hu) aiM ha hb (zP _)
noncomputable def gLt:=gI0 fun i j=>D.bl (decide (i < j))
noncomputable def gGt:=gI0 fun i j=>D.bl (decide (j < i))
noncomputable def gGe:=gI0 fun i j=>D.bl (decide (j<=i))
theorem ahd(ha:SE X B W a fa)(hb:SE X B W b fb):SE X B W (.Compare a [.Gt] [b] pos) (bW gGt fa fb):=Us agT (Cv fun _ _ _=>fG.mpr rfl) ha hb (zP _)
theorem abY(ha:SE X B W a fa)(hb:SE X B W b fb):ST X B W (.Compare a [.Lt] [b] pos) (fT (bW gLt fa fb)):=FT akS (Cv fun _ _ _=>fG.mpr rfl) ha hb (zP _)
theorem abZ(ha:SE X B W a fa)(hb:SE X B W b fb):ST X B W (.Compare a [.Gt] [b] pos) (fT (bW gGt fa fb)):=FT agT (Cv fun _ _ _=>fG.mpr rfl) ha hb (zP _)
theorem alx(ha:SE X B W a fa)(hb:SE X B W b fb):ST X B W (.Compare a [.GtE] [b] pos) (fT (bW gGe fa fb)):=FT akT (Cv fun _ _ _=>fG.mpr rfl) ha hb (zP _)
inductive Ty where
 |int|bool|str|tuple|list|dict
noncomputable def Ty.nm:Ty->String
 | .int=>"int"|.bool=>"bool"|.str=>"str"|.tuple=>"tuple"|.list=>"list"|.dict=>"dict"
noncomputable def isD:D->Ty->Bool
 | .int _,.int=>true
 | .bl _,.bool=>true
 | .bl _,.int=>true
 | .str _,.str=>true
 | .tup _,.tuple=>true
 | .lst _,.list=>true
 |_,_=>false
noncomputable def tyD:D->String
 | .non=>"NoneType"|.bl _=>"bool"|.int _=>"int"|.str _=>"str"|.tup _=>"tuple"|.lst _=>"list"|.JG _ _=>""|.JH _ _=>""|.fn _=>""|.obj _ _ _=>""
noncomputable def isX:D->Bool
 | .JG _ _=>true
 | .JH _ _=>true
 | .fn _=>true
 | .obj _ _ _=>true
 |_=>false
theorem ahe(d:D)(t:Ty)(hx:isX d=false):PySem.W.kitOne K (.type (tyD d)) (.type t.nm)=some (isD d t):=by
 cases d <;> first|(cases hx;done)|(cases t <;> kernel_rfl)
theorem aiN{pins:List (ae×Obj)}{s:af}{A:aT}{E Q:aa->af->Prop}{d:D}{v:V}{u:aa}{t:Ty}(I:Inv X pins σ H s)(hx:isX d=false)(r:Rep X.K H d v)(rv:RelV v u)(h:∀tk,Q (.bool (isD d t)) { s with toks:=tk }) :
  az (ar X.prog X.w) A (call (.builtin "isinstance") [u,.type t.nm]) Q E s:=by
 have e:=ahe (K:=X.K) d t hx;cases d with
 |non=>rw[sI.mp r]at rv;cases rv;exact l8 PySem.W.kitx_none I.xu True.intro e (fun z=>nomatch z) h
 |bl y=>rw[fG.mp r]at rv;cases rv;exact l8 PySem.W.kitx_bool I.xu True.intro e (fun z=>nomatch z) h
 |int i=>rw[bN.mp r]at rv;obtain⟨t,rfl⟩:=rv;exact l8 PySem.W.kitx_int I.xu True.intro e (fun z=>nomatch z) h
 |str i=>rw[pq.mp r]at rv;obtain⟨t,rfl⟩:=rv;exact l8 PySem.W.kitx_str I.xu True.intro e (fun z=>nomatch z) h
 |tup ds =>
  obtain⟨a,vs,rfl,q,_⟩:=bV.mp r;cases rv;obtain⟨_,_,⟨o,h1,h2,_⟩,_⟩:=I.tuple q;exact l8 PySem.W.kitx_tuple I.xu ⟨o,h1,h2⟩ e (fun z=>nomatch z) h
 |lst ds =>
  obtain⟨a,vs,rfl,q,_⟩:=bO.mp r;cases rv;obtain⟨_,_,⟨o,n,h1,h2,_⟩,_⟩:=I.list q;exact l8 PySem.W.kitx_list I.xu ⟨o,h1,h2⟩ e (fun z=>nomatch z) h
 |JG c n=>cases hx
 |JH c n=>cases hx
 |fn c=>cases hx
 |obj c n ds=>cases hx
noncomputable def anL(K:ai)(t:Ty):List V->Hp->VK->Prop:=fun xs H Q=>∃v d,xs=[v,.ty t.nm]/\isX d=false/\Rep K H d v/\Q (.bl (isD d t)) H
theorem acd{t:Ty}:qG X (.builtin "isinstance") (anL X.K t):=by
 intro pins s σ H xs us Q I r ⟨v,d,e,hx,rd,q⟩;subst e;cases r with
 |cons r1 r2 =>
  cases r2 with
  |cons r3 r4 =>
   cases r4;cases r3;exact aiN I hx rd r1 fun tk=>⟨.bl _,H,I.tok tk,rfl,q⟩
noncomputable def WY(t:Ty):D->Rs D:=fun d=>if isX d=false then .ok (.bl (isD d t)) else .no
theorem aly{t:Ty}{x:Str}{e:ag}{p1 p2:Pos}{f:aD->Rs D}(hm:X.mg "isinstance"=none) (hmt:X.mg x=none) (he:SE X B W e f) (hv:gi x=some (.type t.nm)) (hg:Gl X "isinstance":=by rfl) (hgx:Gl X x:=by rfl)
  (hst:a8 [e,.Name x p2] X.env=[(false,a7 e X.env),(false,a7 (.Name x p2) X.env)]:=by rfl) (hst2:a8 [.Name x p2] X.env=[(false,a7 (.Name x p2) X.env)]:=by rfl) (hn:x≠"__name__":=by decide) (hd:wk x:=by decide) :
  SE X B W (.Call (.Name "isinstance" p1) [e,.Name x p2] [] pos) (fun ρ=>(f ρ).bind (WY t)):=by
 refine PE.imp (xH (acd (t:=t)) hg hm uA (eZ he (eZ (Wg (v:=.ty t.nm) hgx hmt hv rfl hn hd) kZ (by rw[hst2];rfl)) (by rw[hst,hst2])) (by decide) (by decide) (by rw[hst,hst2]) (by rw[hst2];rfl)) fun σ H Q h=>?_;obtain⟨ρ,G,s,p⟩:=sS (k:=fun _=>WY t) h;refine⟨ρ,G,s,p.mono fun v H1 ⟨ρ1,G1,d,s1,r,q⟩=>?_⟩;unfold WY at q;by_cases hx:isX d=false
 ·rw[if_pos hx]at q;exact⟨v,d,rfl,hx,r.mono s1.en.gh,Post.ok s1 q (fG.mpr rfl)⟩
 ·rw[if_neg hx]at q;exact q.elim
noncomputable def Ge:List D->Option (List Bool)
 | []=>some []
 | .bl b::ds=>(Ge ds).map (b::·)
 |_=>none
theorem Gf:∀{ds:List D}{vs:List V}{bs:List Bool},bH K G ds vs->Ge ds=some bs->vs=bs.map V.bl
 | [],_,bs,r,e=>by cases e;rw[bI.mp r];rfl
 | .bl b::ds,_,bs,r,e=>by
  obtain⟨v,vs',rfl,r1,r2⟩:=aW.mp r;simp only[Ge]at e;cases e1:Ge ds with
  |none=>rw[e1]at e;cases e
  |some cs=>rw[e1]at e;cases e;rw[fG.mp r1,Gf r2 e1];rfl
 | .non::_,_,_,_,e=>by cases e
 | .int _::_,_,_,_,e=>by cases e
 | .str _::_,_,_,_,e=>by cases e
 | .tup _::_,_,_,_,e=>by cases e
 | .lst _::_,_,_,_,e=>by cases e
 | .JG _ _::_,_,_,_,e=>by cases e
 | .JH _ _::_,_,_,_,e=>by cases e
 | .fn _::_,_,_,_,e=>by cases e
 | .obj _ _ _::_,_,_,_,e=>by cases e
theorem Gg:∀{bs:List Bool}{us:List aa},Vals (bs.map V.bl) us->us=bs.map aa.bool
 | [],_,.nil=>rfl
 |b::bs,_,.cons r t=>by rw[Gg t];cases r;rfl
theorem YT(bs:List Bool):(b7 bs.length).all (fun i=>bs.getD i false)=bs.all id:=by
 induction bs with
 |nil=>rfl
 |cons b bs ih =>
  rw[bu,l4,pk,List.all_map,pk,<- ih];simp[pM]
theorem QH{prog:aE}{w:ay}{A:aT}(bs:List Bool):TruthOf prog w A (fun i v=>(bs.map aa.bool).toArray[i]?=some v) fun i=>bs.getD i false:=by
 intro i v s Q E hP hQ;have hP':(bs.map aa.bool)[i]?=some v:=by simpa using hP
 rw[df]at hP';cases e:bs[i]? with
 |none=>rw[e]at hP';cases hP'
 |some b =>
  rw[e]at hP';cases hP';dsimp only at hQ;rw[gE,e]at hQ;exact ll hQ
theorem YW(hc:X.calm=true):qG X (.builtin "all") (fun xs H Q=>∃(p:ae) (bs:List Bool),xs=[.ref p]/\nu X.K H p (bs.map V.bl)/\Q (.bl (bs.all id)) H):=by
 intro pins s σ H xs us Q I r ⟨p,bs,e,q,k⟩;subst e;obtain⟨u,rfl,rx⟩:=r.one;cases rx;obtain⟨its,rv,pl,_⟩:=I.list q;have ei:=Gg rv;subst ei;refine call_all_walk (o3 pl.isList ?_);refine⟨_,_,_,_,_,_,fun i=>bs.getD i false,rfl,kD.list (by show X.A.handled=none;exact I.ok.hd hc) _ p (cq (by obtain⟨o,_,e,_⟩:=pl;exact bE e)) (bs.map aa.bool).toArray,⟨⟨_,cK _ rfl,rfl,rfl⟩,pl.isList.push _⟩,QH bs,fun h' tk hk=>?_⟩;have e:(b7 (bs.map aa.bool).toArray.size).all (fun i=>bs.getD i false)=bs.all id:=by rw[cv,b_];exact YT bs
 rw[e];refine⟨.bl _,H,I.kept (t':=tk) (h':=h') fun b o z=>hk b o ?_ (cm _ z),rfl,k⟩;intro hb;have:b=s.heap.objs.size:=by simpa using hb
 rw[this]at z;exact absurd (bE z) (eJ _)
noncomputable def QJ:List D->Rs D
 | [.lst ds]=>match Ge ds with|some bs=>.ok (.bl (bs.all id))|none=>.no
 |_=>.no
theorem aiO:uh K (fun xs H Q=>∃(p:ae) (bs:List Bool),xs=[.ref p]/\nu K H p (bs.map V.bl)/\Q (.bl (bs.all id)) H) QJ:=by
 intro B W σ ρ G H ds vs Q s r p;unfold QJ at p;split at p
 ·rename_i es;split at p
  ·rename_i bs e;obtain⟨v,vs',rfl,r1,r2⟩:=aW.mp r;obtain⟨a,us,rfl,q,rr⟩:=bO.mp r1;rw[bI.mp r2];have e2:=Gf rr e;subst e2;exact⟨a,bs,rfl,s.en.gh.seq q,Post.ok s p (fG.mpr rfl)⟩
  ·exact p.elim
 ·exact p.elim
end
section
variable{X:Cx}{pins:List (ae×Obj)}{σ:St}{H:Hp}{s:af}{ea:ae}{c:Str}{n:Int}{tr:Bool}
end
section
variable{X:Cx}{pins:List (ae×Obj)}{σ:St}{H:Hp}{s:af}{ea:ae}
end
end Vl
namespace Vl
open PySem PySem.Spec PySem.Calls PySem.W L2
section
variable{K:ai}
end
section
variable{X:Cx}{B:Bs}{W:Wi}
end
noncomputable def sG:aD->Ou:=fun ρ=>.nx ρ
noncomputable def bR(g k:aD->Ou):aD->Ou:=fun ρ=>ali (g ρ) k
noncomputable def iG(f:aD->Rs D):aD->Ou:=fun ρ=>oR (f ρ) ρ .rt
noncomputable def pZ(c:aD->Rs Bool)(a b:aD->Ou):aD->Ou:=fun ρ=>oR (c ρ) ρ fun x=>if x=true then a ρ else b ρ
noncomputable def afu(f:aD->Rs D)(h:Tg):aD->Ou:=fun ρ=>oR (f ρ) ρ fun d=>oO (h d ρ)
noncomputable def rD(i:Nat)(f:aD->Rs D):aD->Ou:=fun ρ=>oR (f ρ) ρ fun d=>.nx (ρ.set i (.fz d))
noncomputable def Gh(g:aD->Ou):aD->Ou:=fun ρ=>aiF (g ρ)
noncomputable def fB(f:aD->Rs D)(g:D->Rs D):aD->Rs D:=fun ρ=>(f ρ).bind g
noncomputable def fL(f:aD->Rs D)(g:D->Rs (List D)):aD->Rs (List D):=fun ρ=>(f ρ).bind g
section
variable{X:Cx}{B:Bs}{W:Wi}
theorem cC:Ba X B W [] sG:=aix
theorem aN{st:aS}{rest:List aS}{g k:aD->Ou}(h1:SS X B W st g)(h2:Ba X B W rest k):Ba X B W (st::rest) (bR g k):=afc h1 h2
theorem aO{st:aS}{g:aD->Ou}(h1:SS X B W st g):Ba X B W [st] g:=aiy h1
theorem cA{e:ag}{pos}{f:aD->Rs D}(h:SE X B W e f):SS X B W (.Return (some e) pos) (iG f):=aiz h
theorem dR{c:ag}{a b:List aS}{pos:Pos}{fc:aD->Rs Bool}{ga gb:aD->Ou}(hc:ST X B W c fc)(ha:Ba X B W a ga)(hb:Ba X B W b gb):SS X B W (.If c a b pos) (pZ fc ga gb):=alj hc ha hb
theorem aiP{tg e:ag}{pos:Pos}{f:aD->Rs D}{h:Tg}(he:SE X B W e f)(hg:SG X B tg h)(hs:m8 [tg] e pos.line X.env=pure false:=by rfl)(hw:m9 [tg] e X.env=pure none:=by rfl)
  (h1:(fx [tg] X.env).map (·.2)=[assign tg X.env]:=by rfl):SS X B W (.Assign [tg] e pos) (afu f h):=aiA he hg hs hw h1
theorem mO(i:Nat){x:Str}{e:ag}{pos pos':Pos}{f:aD->Rs D}(hN:X.N.Nodup)(he:SE X B W e f)(hi:X.N[i]?=some x:=by rfl)(hx:Loc X.env.scope x:=by first|exact Or.inl rfl|exact Or.inr rfl)(hs:dC e (some (.Name x pos')) pos.line X.env=pure false:=by rfl)(hf:X.fn x=true∨X.env.scope.names.lookup x=some .local:=by first|exact .inl rfl|exact .inr rfl|assumption) :
  SS X B W (.Assign [.Name x pos'] e pos) (rD i f):=aiB hN hi hx he hs hf
theorem xT{st:aS}{g:aD->Ou}(h:SS X.nox B WF st g):SS X B W st (Gh g):=aiG h
theorem rg(i:Nat){x:Str}{pos:Pos}(hN:X.N.Nodup)(hi:X.N[i]?=some x:=by rfl)(hx:Loc X.env.scope x:=by first|exact Or.inl rfl|exact Or.inr rfl)(hf:X.fn x=true∨X.env.scope.names.lookup x=some .local:=by first|exact .inl rfl|exact .inr rfl|assumption):SG X B (.Name x pos) (cj i) :=
 afd hN hi hx hf
theorem zj{t:Ty}{x:Str}{e:ag}{p1 p2 pos:Pos}{f:aD->Rs D}(hm:X.mg "isinstance"=none) (hmt:X.mg x=none) (he:SE X B W e f) (hv:gi x=some (.type t.nm)) (hg:Gl X "isinstance":=by rfl) (hgx:Gl X x:=by rfl)
  (hst:a8 [e,.Name x p2] X.env=[(false,a7 e X.env),(false,a7 (.Name x p2) X.env)]:=by rfl) (hst2:a8 [.Name x p2] X.env=[(false,a7 (.Name x p2) X.env)]:=by rfl) (hn:x≠"__name__":=by decide) (hd:wk x:=by decide) :
  SE X B W (.Call (.Name "isinstance" p1) [e,.Name x p2] [] pos) (fB f (WY t)):=aly hm hmt he hv hg hgx hst hst2 hn hd
theorem Bg{tg iter:ag}{f:aD->Rs D}(hi:SE X B W iter f):SI X B W tg iter (fL f asL):=afl hi
theorem aiQ{tg iter:ag}{f:aD->Rs D}(hi:SE X B W iter f):SI X B W tg iter (fL f asT):=aiK hi
theorem ace{e:ag}{p pos:Pos}{fa:aD->Rs D}(hc:X.calm=true) (hm:X.mg "all"=none) (ha:SE X B W e fa) (hg:Gl X "all":=by rfl) (he:a8 [e] X.env=[(false,a7 e X.env)]:=by rfl):SE X B W (.Call (.Name "all" p) [e] [] pos) (fA (ao fa aL) QJ) :=
 Az (YW hc) aiO hg hm rfl (aj ha au he) (by decide) (by decide) he rfl
end
noncomputable def qd(P:aE)(w:ay)(K:ai)(mg:Str->Option aa)(base:aw)(x:Str)(k n:Nat)(v:List D->Rs D):Prop :=
 ∃f fd ps,nD P w K mg base (wZ P w K) k f fd ps (spV K n v)/\mg x=some (.ref f)/\iF K (.ref f)=true/\Binds K fd ps []
theorem aiR{P:aE}{w:ay}{K:ai}{mg:Str->Option aa}{base:aw}{x:Str}{st:aS}{f:ae}{fd:cz}{N ps:List Str}{k:Nat}{g:aD->Ou}(F:Fun K x x st f fd)(hm:mg x=some (.ref f))(S:aX N ps (aC st))
  (hbi:∀(kV doc pm:aa) (an:Option ae) (cdv ct:aa) (us:List aa),us.length=ps.length->bindArgs (gx x x (iC st) (cM st) (aC st) .none kV doc pm an cdv ct) ⟨us,[]⟩=pure (ps.zip us))
  (hb:∀(cdv:aa) (A:aT) (outer:List Env) (s:af) (H:Hp) (E:XK) (B:Bs),jP k (A.deeper (kP x (aC st) s.heap.objs.size f cdv)) ->
   uo (tR (wZ P w K) P w K mg base N x (aC st) f cdv A outer s H E) (fun c n _ H'=>E (yX c n) none H') ->
   Ba (tR (wZ P w K) P w K mg base N x (aC st) f cdv A outer s H E) B (fun c n _ H'=>E (yX c n) none H') (cM st) g) :
  qd P w K mg base x (k + 1) ps.length (fun ds=>jk (g (aP N ds))) :=
 ⟨f,fd,ps,alp F S fun cdv A outer s H E B hr=>hb cdv A outer s H E B hr (Bf yM rfl),hm,F.kp,F.binds hbi⟩
section
variable{X:Cx}{B:Bs}{W:Wi}
theorem bG{x:Str}{p pos:Pos}{e:ag}{es:List ag}{fs:aD->Rs (List D)}{k n kr:Nat}{g:List D->Rs D}(O:qd X.prog X.w X.K X.mg X.base x k n g)(hr:jP kr X.A)(hx:uo X W)(ha:SA X B W (e::es) fs)(hg:Gl X x:=by rfl)(hdb:wk x:=by decide)
  (he:a8 (e::es) X.env=(false,a7 e X.env)::a8 es X.env:=by rfl) (hpl:(cE pos (a8 es X.env)).any (·.1)=false:=by rfl) (mW:k<=kr:=by decide):SE X B W (.Call (.Name x p) (e::es) [] pos) (fA fs (bA n g)):=by
 obtain⟨f,fd,ps,F,hm,hk,hb⟩:=O;exact afk F (hr.mono mW) hg hm hk hb hx ha hdb he hpl
end
theorem kO{K:c9}{Pr:ae->Bool->Prop}:∀(c:Str) (b:Bool) (C:ae),bX c ([]:List (Str×Bool))=some b->bz K bb c=some (some (.ref C))->Pr C b:=fun _ _ _ h=>nomatch h
theorem aJ{K:c9}{Pr:ae->Bool->Prop}{x:Str}{b₀:Bool}{D:ae}{l:List (Str×Bool)}(n:bz K bb x=some (some (.ref D)))(p:Pr D b₀)(h:∀(c:Str) (b:Bool) (C:ae),bX c l=some b->bz K bb c=some (some (.ref C))->Pr C b) :
  ∀(c:Str) (b:Bool) (C:ae),bX c ((x,b₀)::l)=some b->bz K bb c=some (some (.ref C))->Pr C b:=fun c b C e z=>by
 rw[fI]at e;split at e
 ·next q=>obtain rfl:=eq_of_beq q;rw[n]at z;cases z;cases e;exact p
 ·exact h c b C e z
section
variable{X:Cx}{B:Bs}{W:Wi}
end
end Vl
namespace Vl
open PySem PySem.Spec PySem.W L2
section
variable{X:Cx}{B:Bs}{W:Wi}{σ:L2.St}{H:Hp}{K:ai}
theorem acf(d:D)(hx:isX d=false):∀ts:List Ty,PySem.W.kitAny K (.type (tyD d)) (ts.map fun t=>.type t.nm)=some (ts.any (isD d))
 | []=>rfl
 |t::ts=>by
  rw[c6,uB];unfold PySem.W.kitAny;rw[ahe d t hx];cases isD d t with
  |true=>rfl
  |false=>rw[Bool.false_or];exact acf d hx ts
theorem afv{pins:List (ae×Obj)}{s:af}{A:aT}{E Q:aa->af->Prop}{d:D}{v:V}{u:aa}{ts:List Ty}{tp:ae}{dd:Option ae}{n:Nat}{sl:Array (Option aa)}(I:L2.Inv X pins σ H s)(hx:isX d=false)(r:Rep X.K H d v)(rv:RelV v u)
  (g:s.heap.get? tp=some ⟨.type "tuple",dd,.seq (ts.map fun t=>aa.type t.nm).toArray n,sl⟩) (h:∀tk,Q (.bool (ts.any (isD d))) { s with toks:=tk }) :
  az (ar X.prog X.w) A (call (.builtin "isinstance") [u,.ref tp]) Q E s:=by
 have e:=acf (K:=X.K) d hx ts;cases d with
 |non=>rw[sI.mp r]at rv;cases rv;exact l9 PySem.W.kitx_none I.xu True.intro g e (fun z=>nomatch z) h
 |bl y=>rw[fG.mp r]at rv;cases rv;exact l9 PySem.W.kitx_bool I.xu True.intro g e (fun z=>nomatch z) h
 |int i=>rw[bN.mp r]at rv;obtain⟨t,rfl⟩:=rv;exact l9 PySem.W.kitx_int I.xu True.intro g e (fun z=>nomatch z) h
 |str i=>rw[pq.mp r]at rv;obtain⟨t,rfl⟩:=rv;exact l9 PySem.W.kitx_str I.xu True.intro g e (fun z=>nomatch z) h
 |tup ds =>
  obtain⟨a,vs,rfl,q,_⟩:=bV.mp r;cases rv;obtain⟨_,_,⟨o,h1,h2,_⟩,_⟩:=I.tuple q;exact l9 PySem.W.kitx_tuple I.xu ⟨o,h1,h2⟩ g e (fun z=>nomatch z) h
 |lst ds =>
  obtain⟨a,vs,rfl,q,_⟩:=bO.mp r;cases rv;obtain⟨_,_,⟨o,n,h1,h2,_⟩,_⟩:=I.list q;exact l9 PySem.W.kitx_list I.xu ⟨o,h1,h2⟩ g e (fun z=>nomatch z) h
 |JG c n=>cases hx
 |JH c n=>cases hx
 |fn c=>cases hx
 |obj c n ds=>cases hx
theorem Xa:∀{ts:List Ty}{us:List aa},Vals (ts.map fun t=>V.ty t.nm) us->us=ts.map fun t=>aa.type t.nm
 | [],_,r=>by cases r;rfl
 |t::ts,_,r=>by
  cases r with
  |cons r1 r2=>rw[Xa r2];cases r1;rfl
theorem YX{ts:List Ty}:qG X (.builtin "isinstance") (fun xs H Q=>∃y d t,xs=[y,.ref t]/\H t=some (.tup (ts.map fun t=>V.ty t.nm))/\isX d=false/\Rep X.K H d y/\Q (.bl (ts.any (isD d))) H):=by
 intro pins s σ H xs us Q I r ⟨y,d,t,e,ht,hx,rd,q⟩;subst e;cases r with
 |cons r1 r2 =>
  cases r2 with
  |cons r3 r4 =>
   cases r4;cases r3;obtain⟨its,ri,⟨o,g1,g2,k,g3⟩,_⟩:=I.tuple (.of ht);obtain⟨oc,od,oe,ol⟩:=o;dsimp only at g2 g3;subst g2 g3;rw[Xa ri]at g1;exact afv I hx rd r1 g1 fun tk=>⟨.bl _,H,I.tok tk,rfl,q⟩
noncomputable def tTy(ts:List Ty):TA:=fun _ H Q=>Q (ts.map fun t=>V.ty t.nm) H
theorem acg:PA X [] (tTy []):=kZ
theorem EY{x:Str}{p:Pos}{t:Ty}{ts:List Ty}{es:List ag}(hm:X.mg x=none) (hv:gi x=some (.type t.nm)) (h:PA X es (tTy ts)) (hg:Gl X x:=by rfl) (hn:x≠"__name__":=by decide) (hd:wk x:=by decide)
  (hs:a8 (.Name x p::es) X.env=(false,a7 (.Name x p) X.env)::a8 es X.env:=by rfl):PA X (.Name x p::es) (tTy (t::ts)) :=
 eZ (Wg (v:=.ty t.nm) hg hm hv rfl hn hd) h hs
noncomputable def ach(ts:List Ty):D->Rs D:=fun d=>if isX d=false then .ok (.bl (ts.any (isD d))) else .no
theorem Xb{ts:List Ty}{e:ag}{es:List ag}{x1} {p1 p2 pos:Pos}{f:aD->Rs D}(hi:X.mg "isinstance"=none) (he:SE X B W e f) (hc:PA X es (tTy ts)) (hl:ts.length<=1000:=by simp) (hg:Gl X "isinstance":=by rfl)
  (hst:a8 [e,.Tuple es x1 p2] X.env=[(false,a7 e X.env),(false,a7 (.Tuple es x1 p2) X.env)]:=by rfl) (hst2:a8 [.Tuple es x1 p2] X.env=[(false,a7 (.Tuple es x1 p2) X.env)]:=by rfl) :
  SE X B W (.Call (.Name "isinstance" p1) [e,.Tuple es x1 p2] [] pos) (fB f (ach ts)):=by
 refine PE.imp (xH (YX (ts:=ts)) hg hi uA (eZ he (eZ (Um hc) kZ (by rw[hst2];rfl)) (by rw[hst,hst2])) (by decide) (by decide) (by rw[hst,hst2]) (by rw[hst2];rfl)) fun σ H Q h=>?_;obtain⟨ρ,G,s,p⟩:=sS (k:=fun _=>ach ts) h;refine⟨ρ,G,s,p.mono fun v H1 ⟨ρ1,G1,d,s1,r,q⟩=>?_⟩;unfold ach at q;by_cases hx:isX d=false
 ·rw[if_pos hx]at q;refine⟨by simpa using xK hl,fun a ha=>?_⟩;have x:=sO (xs:=ts.map fun t=>V.ty t.nm) s1.en.gh s1.en.tp ha;exact⟨v,d,a,rfl,aV,hx,(r.mono x.gg).mono (s1.ext x).en.gh,Post.ok (s1.ext x) (Post.ext x q) (fG.mpr rfl)⟩
 ·rw[if_neg hx]at q;exact q.elim
end
end Vl
namespace Vl
open PySem PySem.Spec PySem.Calls PySem.W L2
noncomputable def ahf(S sc:Scope)(NX N:List Str)(nt:Nat)(caps:List Nat):Bool :=
 decide (sc.kind=.function) && sc.names.all (fun y=>y.2 != .cell) && sc.names.all (fun y=>y.2 != .free || S.names.lookup y.1 == some .cell || S.names.lookup y.1 == some .free) && decide (N.length=nt + caps.length) &&
  (b7 caps.length).all fun j=>match caps[j]?,N[nt + j]? with|some i,some x=>NX[i]? == some x && sc.names.lookup x == some .free|_,_=>true
theorem vp{X:Cx}{sc:Scope}{N:List Str}{nt:Nat}{caps:List Nat}(S:Scope)(NX:List Str)(h:ahf S sc NX N nt caps=true)(hS:X.env.scope=S:=by rfl)(hX:X.N=NX:=by rfl):Ip X sc N nt caps:=by
 unfold ahf at h;simp only[fN,decide_eq_true_eq,uC,bne_iff_ne,uS,beq_iff_eq,ne_eq]at h;obtain⟨⟨⟨⟨h1,h2⟩,h3⟩,h4⟩,h5⟩:=h;refine⟨h1,fun y hy=>h2 y hy,fun y hy hf=>?_,h4,fun j i x e1 e2=>?_⟩
 ·have:=h3 y hy;unfold Env.kindOf;rw[hS];rcases this with (h|h)|h
  ·exact absurd hf h
  ·exact .inl h
  ·exact .inr h
 ·have:=h5 j (by rw[eW];exact(dq.mp e1).1);rw[e1,e2]at this;simp only[fN,beq_iff_eq]at this;rw[hX];exact this
theorem lO{i:Nat}:zV (cj i):=by
 intro d ρ ρ' no e j ds q;unfold cj at e;cases e;by_cases c:i=j
 ·subst c;have hl:i < ρ.length:=by have:=(dq.mp q).1;simpa using this
  rw[dt hl]at q;cases q;exact fun w=>by cases w
 ·rw[c8 c]at q;exact no j ds q
noncomputable def Fb(h:List D->aD->Option aD):Prop:=∀ds ρ ρ',Uv ρ->h ds ρ=some ρ'->Uv ρ'
theorem QK:Fb zU:=fun ds ρ ρ' no e=>by
 cases ds with
 |nil=>cases e;exact no
 |cons _ _=>cases e
theorem yN{h:Tg}{k:List D->aD->Option aD}(h1:zV h)(h2:Fb k):Fb (iD h k):=fun ds ρ ρ' no e=>by
 cases ds with
 |nil=>cases e
 |cons d ds =>
  simp only[iD]at e;cases e1:h d ρ with
  |none=>rw[e1]at e;cases e
  |some ρ1=>rw[e1]at e;exact h2 ds ρ1 ρ' (h1 d ρ ρ1 no e1) e
theorem QL{n:Nat}{k:List D->aD->Option aD}(h:Fb k):zV (xO n k):=fun d ρ ρ' no e=>by
 cases d with
 |tup ds =>
  simp only[xO]at e;split at e
  ·exact h ds ρ ρ' no e
  ·cases e
 |_=>cases e
theorem vq{X:Cx}{B:Bs}{W:Wi}{tg iter:ag}{elt:ag}{sc:Scope}{pos:Pos}{N:List Str}{nt:Nat}{caps:List Nat}{h:Tg}{fe:aD->Rs D}{fi:aD->Rs (List D)}
  (c:Ip X sc N nt caps) (hc:X.calm=true) (hnames:sc.names.all (fun y=>y.2 != .local || sc.names.lookup y.1 == some .local)=true) (hi:SI X B W tg iter fi) (hno:zV h)
  (ht:∀s₀ H₀ C ex pins B',SG (qH X N s₀ H₀ sc (qe sc X.env) C ex pins) B' tg h)
  (he:∀s₀ H₀ C ex pins B',SE (qH X N s₀ H₀ sc (qe sc X.env) C ex pins) B' WF elt fe)
  (hs:∀x,ir iter X.env x=pure x:=by intro _;rfl) :
  SE X B W (.ListComp elt [⟨tg,iter,[],0⟩] sc pos) (qI h (fun _=>.ok true) fe nt caps fi) :=
 afs c hc (fun y hy hl=>by
  have:=uC.mp hnames y hy;simp only[uS,bne_iff_ne,beq_iff_eq,ne_eq]at this;exact this.elim (fun z=>absurd hl z) id) hi hno ht (.inl ⟨rfl,rfl⟩) he hs
theorem aiS{l:lT}{k:Nat}{q:aE}{loose:List Str}{XP:(Str->Option aa)->aw->Prop}{YP:ay->aw->Prop}{d:DefRec}{K:Params->c9}{v:List D->Rs D}(hn:l.most=some 63)(hdf:d.params.defaults=[])(hr:jP k j6)
  (hY:∀(w:ay) (h:aw),YP w h->(K w.params).In h) (anM:∀w:ay,air (K w.params)=[]) (hv:∀ns:List Int,ns.length<=63->v [.lst (ns.map D.int)]=.ok (.bl true))
  (F:∀(w:ay) (mg:Str->Option aa) (fa:ae) (h:aw),(K w.params).In h->h.Ns bb mg->mg d.name=some (.ref fa) ->
   ∃fd:cz,(∀(s:af) (u:aa),i0 s fd ⟨[u],[]⟩ [("script",u)])/\∀base:aw,(K w.params).In base->base.Ns bb mg->nD l.prog w (K w.params) mg base (wZ l.prog w (K w.params)) k fa fd ["script"] (spV (K w.params) 1 v)) :
  WalkO q loose XP YP l.row.toRowW d [] (fun f vs=>PySem.call f vs):=by
 refine L2.aeT (n:=63) (k:=k) (x:="script") (CX:=fun w=>wZ l.prog w (K w.params)) (sp:=fun w=>spV (K w.params) 1 v) hn (by decide) hdf hr hY F (fun w H a ns hl _ hS=>?_) fun w H s e s' h=>?_
 ·refine⟨rfl,H,[.lst (ns.map D.int)],⟨.refl (.refl _) (fun _ _ e=>e),fun x m=>by rw[anM]at m;cases m⟩,bH.one (bO.mpr ⟨a,_,rfl,hS,JK ns⟩),?_⟩;rw[hv ns hl];exact fun u H' G' _ r=>fG.mp r
 ·obtain⟨_,_,_,_,_,_,_,_,_,_,z⟩:=h;exact z.elim
section
variable{ρ ρ1:aD}{d x y z:D}{f fa fb:aD->Rs D}{g k a b:aD->Ou}{r:Ou}{ds:List D}{fs:aD->Rs (List D)}{c c1 c2:aD->Rs Bool}{t u:Bool}{i j:Nat}
theorem aK(h:g ρ=.nx ρ1)(h2:k ρ1=r):bR g k ρ=r:=by unfold bR;rw[h];exact h2
theorem vA(h:g ρ=.rt d):bR g k ρ=.rt d:=by unfold bR;rw[h];rfl
theorem bw:fC d ρ=.ok d:=rfl
theorem aq(h:ρ[i]?=some (.fz d)):aF i ρ=.ok d:=by unfold aF;rw[h]
theorem aM{o:D->D->Rs D}{r:Rs D}(h1:fa ρ=.ok x)(h2:fb ρ=.ok y)(h3:o x y=r):bW o fa fb ρ=r:=by unfold bW;rw[h1];show(fb ρ).bind _=_;rw[h2];exact h3
theorem aG:aL ρ=.ok []:=rfl
theorem ak(h1:fa ρ=.ok x)(h2:fs ρ=.ok ds):ao fa fs ρ=.ok (x::ds):=by unfold ao;rw[h1];show(fs ρ).bind _=_;rw[h2];rfl
theorem cL{o:List D->Rs D}{r:Rs D}(h1:fs ρ=.ok ds)(h2:o ds=r):fA fs o ρ=r:=by unfold fA;rw[h1];exact h2
theorem rY{o:D->Rs D}{r:Rs D}(h1:fa ρ=.ok x)(h2:o x=r):fB fa o ρ=r:=by unfold fB;rw[h1];exact h2
theorem bK{n:Nat}{v:List D->Rs D}{r:Rs D}(hl:ds.length=n)(h:v ds=r):bA n v ds=r:=by unfold bA;rw[if_pos hl];exact h
theorem dZ(hl:ds.length<=1000):iR ds=.ok (.tup ds):=by unfold iR;rw[if_pos hl]
theorem gj(hl:ds.length<=1000):jY ds=.ok (.lst ds):=by unfold jY;rw[if_pos hl]
theorem fQ(h:fa ρ=.ok (.bl t)):fT fa ρ=.ok t:=by unfold fT;rw[h];rfl
theorem pK(h:c ρ=.ok t):Cy c ρ=.ok (!t):=by unfold Cy;rw[h];rfl
theorem Ux(h:c1 ρ=.ok true):Lg c1 c2 ρ=.ok true:=by unfold Lg;rw[h];rfl
theorem jt(h:c1 ρ=.ok false)(h2:c2 ρ=.ok t):Lg c1 c2 ρ=.ok t:=by unfold Lg;rw[h];exact h2
theorem Xc(h:c1 ρ=.ok false):Im c1 c2 ρ=.ok false:=by unfold Im;rw[h];rfl
theorem nF(h:c1 ρ=.ok true)(h2:c2 ρ=.ok t):Im c1 c2 ρ=.ok t:=by unfold Im;rw[h];exact h2
theorem gF(h:c ρ=.ok true)(h2:a ρ=r):pZ c a b ρ=r:=by unfold pZ;rw[h];exact h2
theorem aY(h:c ρ=.ok false)(h2:b ρ=r):pZ c a b ρ=r:=by unfold pZ;rw[h];exact h2
theorem rE(h:fa ρ=.ok x):rD i fa ρ=.nx (ρ.set i (.fz x)):=by unfold rD;rw[h];rfl
theorem ju(h:fa ρ=.ok x):iG fa ρ=.rt x:=by unfold iG;rw[h];rfl
theorem dM:sG ρ=.nx ρ:=rfl
theorem Dy(h:g ρ=.nx ρ1):Gh g ρ=.nx ρ1:=by unfold Gh;rw[h];rfl
theorem Uy{h:Tg}{n:Int}{N:Nat}(h1:fa ρ=.ok (.int n))(hb:n < 2 ^ 62)(hN:n=(N:Int))(h2:jA h g ((b7 N).map fun(i:Nat)=>.int i) ρ=r):JQ h g fa ρ=r:=by
 have hc:-(2 ^ 62)<=n/\n < 2 ^ 62:=⟨by subst hN;lia,hb⟩
 unfold JQ;rw[h1];simp only[oR];rw[if_pos hc,hN,kQ];exact h2
theorem aiT{h:Tg}(h1:fa ρ=.ok (.lst ds))(h2:jA h g ds ρ=r):WK h g fa ρ=r:=by unfold WK;rw[h1];exact h2
theorem aci{h:Tg}(h1:fa ρ=.ok (.tup ds))(h2:jA h g ds ρ=r):QD h g fa ρ=r:=by unfold QD;rw[h1];exact h2
theorem QM{h:Tg}(P:aD->Prop):∀{ds:List D}{ρ:aD},P ρ->(∀d∈ds,∀ρ,P ρ->∃ρ1 ρ',h d ρ=some ρ1/\g ρ1=.nx ρ'/\P ρ')->∃ρ',jA h g ds ρ=.nx ρ'/\P ρ'
 | [],ρ,p,_=>⟨ρ,rfl,p⟩
 |d::ds,ρ,p,st=>by obtain⟨ρ1,ρ2,e1,e2,p2⟩:=st d (by simp) ρ p;obtain⟨ρ',e,p'⟩:=QM (ds:=ds) P p2 fun d' hd=>st d' (by simp[hd]);refine⟨ρ',?_,p'⟩;simp only[jA,e1,e2];exact e
theorem xU{h:Tg}{ft:aD->Rs Bool}{fe:aD->Rs D}{nt:Nat}{caps:List Nat}{fi:aD->Rs (List D)}{ys:List D}(h1:fi ρ=.ok ds)(h2:jr h ft fe ds (kJ nt caps ρ)=.ok ys)(hl:ys.length<=1000000):qI h ft fe nt caps fi ρ=.ok (.lst ys):=by unfold qI;rw[h1];show sU ((jr h ft fe ds (kJ nt caps ρ)).bind _)=_;rw[h2];show sU (if ys.length<=1000000 then _ else _)=_;rw[if_pos hl];rfl
theorem v_l{o:D->Rs (List D)}(h1:fa ρ=.ok x)(h2:o x=.ok ds):fL fa o ρ=.ok ds:=by unfold fL;rw[h1];exact h2
variable{m n:Int}
theorem ahg(h:Ug m n):wY (.int m) (.int n)=.ok (.int (m * n)):=by simp[wY,gI,h]
theorem JW(h:0 < n):Io (.int m) (.int n)=.ok (.int (m % n)):=by simp[Io,gI,h]
theorem acj(h:CDB m n):Qy (.int m) (.int n)=.ok (.int (m / n)):=by simp[Qy,gI,h]
theorem ahh(h:abh m n):Qz (.int m) (.int n)=.ok (.int (m ^ n.toNat)):=by simp[Qz,gI,h]
theorem nG:iT (.int m) (.int n)=.ok (.int (m + n)):=rfl
theorem oW{a b:List D}(h:a.length + b.length<=1000000):iT (.lst a) (.lst b)=.ok (.lst (a++b)):=by simp only[iT];rw[if_pos h]
theorem zm:Vl.rZ (.int m) (.int n)=.ok (.int (m - n)):=rfl
theorem Uz:gLt (.int m) (.int n)=.ok (.bl (decide (m < n))):=rfl
theorem Ln:gGt (.int m) (.int n)=.ok (.bl (decide (n < m))):=rfl
theorem alB:gGe (.int m) (.int n)=.ok (.bl (decide (n<=m))):=rfl
theorem mH:su (.int m) (.int n)=.ok (.bl (decide (m=n))):=by simp[su,nA,wX];rfl
theorem alC:gNe (.int m) (.int n)=.ok (.bl (!decide (m=n))):=by simp[gNe,nA,wX];rfl
theorem anN(h1:nA x<=8)(h2:nA y<=8):su x y=.ok (.bl (wX x y)):=by unfold su;rw[if_pos ⟨h1,h2⟩]
end
end Vl
namespace Tb
open PySem
noncomputable def it:Nat->Nat->Nat
 | 0,x=>x
 |m + 1,x=>5 * it m x + 1
theorem acn(m n x:Nat):it (m + n) x=it m (it n x):=by
 induction m with
 |zero=>simp[it]
 |succ m ih=>rw[Nat.succ_add];simp only[it];rw[ih]
theorem aiU(k:Nat):∃w,w % 2=1/\∀y,it (2 ^ k) y=y + 2 ^ k * w * (4 * y + 1):=by
 induction k with
 |zero=>exact⟨1,rfl,fun y=>by simp[it];lia⟩
 |succ k ih =>
  obtain⟨w,hw,h⟩:=ih;refine⟨w * (1 + 2 ^ (k + 1) * w),?_,fun y=>?_⟩
  ·have e:2 ^ (k + 1)=2 * 2 ^ k:=by rw[dS];lia
   rw[e,Nat.mul_add,Nat.mul_one,u0];have:w * (2 * 2 ^ k * w) % 2=0:=by
    have:w * (2 * 2 ^ k * w)=2 * (w * 2 ^ k * w):=by grind
    rw[this];exact Nat.mul_mod_right _ _
   lia
  ·have e:2 ^ (k + 1)=2 ^ k + 2 ^ k:=by rw[dS];lia
   rw[e,acn,h,h]
   grind
theorem alD(k:Nat):∀x e:Nat,∃m,m < 2 ^ k/\it m x % 2 ^ k=e % 2 ^ k:=by
 induction k with
 |zero=>exact fun x e=>⟨0,by decide,by simp[Nat.mod_one]⟩
 |succ k ih =>
  intro x e;obtain⟨m,hm,he⟩:=ih x e;obtain⟨w,hw,hp⟩:=aiU k;have e2:2 ^ (k + 1)=2 ^ k * 2:=dS ..;by_cases c:it m x % 2 ^ (k + 1)=e % 2 ^ (k + 1)
  ·exact⟨m,by rw[e2];lia,c⟩
  ·refine⟨2 ^ k + m,by rw[e2];lia,?_⟩;rw[acn,hp];have pos:0 < 2 ^ k:=Nat.pos_of_ne_zero (by simp);generalize it m x=a at he c;obtain⟨q,hq⟩:∃q,w * (4 * a + 1)=2 * q + 1:=by
    refine⟨w * (4 * a + 1) / 2,?_⟩;have:w * (4 * a + 1) % 2=1:=by
     rw[u1];have:(4 * a + 1) % 2=1:=by lia
     rw[hw,this]
    lia
   have hq':2 ^ k * w * (4 * a + 1)=2 ^ k * 2 * q + 2 ^ k:=by rw[pV,hq];grind
   rw[hq',e2];rw[e2]at c;generalize 2 ^ k=M at *;have h1:(a + (M * 2 * q + M)) % (M * 2)=(a + M) % (M * 2):=by
    have:a + (M * 2 * q + M)=a + M + M * 2 * q:=by lia
    rw[this,p7]
   rw[h1];have a1:=Nat.mod_add_div a (M * 2);have b1:=Nat.mod_add_div e (M * 2);have al:=l_ a (show 0 < M * 2 by lia);have bl:=l_ e (show 0 < M * 2 by lia);generalize a % (M * 2)=ra at a1 al c;generalize e % (M * 2)=rb at b1 bl c ⊢;have ham:a % M=ra % M:=by rw[<- a1,pV,p7]
   have hbm:e % M=rb % M:=by rw[<- b1,pV,p7]
   have hrr:ra % M=rb % M:=by rw[<- ham,<- hbm];exact he
   have hA:(a + M) % (M * 2)=(ra + M) % (M * 2):=by
    rw[<- a1];have:ra + M * 2 * (a / (M * 2)) + M=ra + M + M * 2 * (a / (M * 2)):=by lia
    rw[this,p7]
   rw[hA];by_cases ha:ra < M
   ·have e3:ra % M=ra:=iL ha;have hb:¬rb < M:=fun z=>c (by rw[iL z]at hrr;lia);have e4:rb % M=rb - M:=by rw[p8 (by lia),iL (by lia)]
    rw[iL (by lia)];lia
   ·have e3:ra % M=ra - M:=by rw[p8 (by lia),iL (by lia)]
    have hb:rb < M:=Nat.lt_of_not_le fun z=>c (by
     have e4:rb % M=rb - M:=by rw[p8 (by lia),iL (by lia)]
     lia)
    have e4:rb % M=rb:=iL hb;rw[p8 (by lia),iL (by lia)];lia
end Tb
namespace Tb
open PySem PySem.SetTable
noncomputable def wu(t:bP):Nat->Probe->Probe
 | 0,p=>p
 |s + 1,p=>wu t s (t.advance p)
theorem yO(t:bP)(a b:Nat)(p:Probe):wu t (a + b) p=wu t b (wu t a p):=by
 induction a generalizing p with
 |zero=>simp[wu]
 |succ a ih=>rw[Nat.succ_add];simp only[wu];exact ih _
theorem uq(t:bP)(s:Nat)(p:Probe):wu t (s + 1) p=t.advance (wu t s p):=by rw[yO];rfl
noncomputable def wA(mask i pt:Nat)(d:Option Nat):Probe:={ j:=i,more:=runEnd mask i - i,i:=i,perturb:=pt,dummy:=d }
theorem aiV(mask i:Nat):runEnd mask i - i<=9:=by unfold runEnd;split <;> lia
theorem Xd(t:bP):∀(m:Nat) (p:Probe),m<=p.more->wu t m p={ p with j:=p.j + m,more:=p.more - m }:=by
 intro m
 induction m with
 |zero=>intro p _;simp[wu]
 |succ m ih =>
  intro p h;rw[uq,ih p (by lia)];unfold advance;simp only;rw[if_pos (by lia)];simp only[Probe.mk.injEq,and_true,true_and];lia
theorem Gi(t:bP)(p:Probe):wu t (p.more + 1) p=wA t.mask (leap t.mask p.i p.perturb).1 (leap t.mask p.i p.perturb).2 p.dummy:=by rw[uq,Xd t p.more p (bj _)];unfold advance wA;simp only[Nat.sub_self,eJ,gt_iff_lt,if_false]
noncomputable def lp(mask:Nat):Nat->Nat×Nat->Nat×Nat
 | 0,x=>x
 |n + 1,x=>leap mask (lp mask n x).1 (lp mask n x).2
theorem aiW(t:bP)(d:Option Nat)(i pt:Nat):∀n,∃s,s<=10 * n/\wu t s (wA t.mask i pt d)=wA t.mask (lp t.mask n (i,pt)).1 (lp t.mask n (i,pt)).2 d:=by
 intro n
 induction n with
 |zero=>exact⟨0,by lia,rfl⟩
 |succ n ih =>
  obtain⟨s,hs,e⟩:=ih;refine⟨s + ((wA t.mask (lp t.mask n (i,pt)).1 (lp t.mask n (i,pt)).2 d).more + 1),?_,?_⟩
  ·have:=aiV t.mask (lp t.mask n (i,pt)).1;simp only[wA];lia
  ·rw[yO,e,Gi];rfl
theorem alE(mask:Nat)(x:Nat×Nat):∀n,(lp mask n x).2=x.2 / 32 ^ n:=by
 intro n
 induction n with
 |zero=>simp[lp]
 |succ n ih=>simp only[lp,leap,ih];rw[Nat.div_div_eq_div_mul,dS]
theorem alF(mask:Nat)(x:Nat×Nat)(n:Nat):(lp mask (n + 1) x).1 < mask + 1:=l_ _ (by lia)
theorem aco(mask:Nat)(x:Nat×Nat)(a b:Nat):lp mask (a + b) x=lp mask b (lp mask a x):=by
 induction b with
 |zero=>rfl
 |succ b ih=>rw[Nat.add_succ];simp only[lp,ih]
theorem afw(mask i:Nat)(hi:i < mask + 1):∀n,lp mask n (i,0)=(it n i % (mask + 1),0):=by
 intro n
 induction n with
 |zero=>simp[lp,it,iL hi]
 |succ n ih =>
  simp only[lp,ih,leap,it,u2,Nat.zero_div,md,and_true];rw[Nat.mul_comm,u0,u1,Nat.mod_mod,<- u1,<- u0]
theorem acp{mask k:Nat}(hk:mask + 1=2 ^ k)(i pt:Nat)(hp:pt < 2 ^ 64){e:Nat}(he:e<=mask):∃n,n<=mask + 13/\(lp mask n (i,pt)).1=e:=by
 have h13:(lp mask 13 (i,pt)).2=0:=by rw[alE];exact Nat.div_eq_of_lt (nK hp (by decide))
 have hl:=alF mask (i,pt) 12;obtain⟨m,hm,e1⟩:=alD k (lp mask 13 (i,pt)).1 e;refine⟨13 + m,by lia,?_⟩;rw[aco];have e2:lp mask 13 (i,pt)=((lp mask 13 (i,pt)).1,0):=by rw[<- h13]
 rw[e2,afw _ _ hl,hk,e1,iL (by lia)]
theorem hit{t:bP}{k:Nat}(hk:t.mask + 1=2 ^ k)(p:Probe)(h9:p.more<=9)(hp:p.perturb < 2 ^ 64){e:Nat}(he:e<=t.mask):∃s,s<=10 * (t.mask + 14)/\(wu t s p).j=e:=by have hq:(leap t.mask p.i p.perturb).2 < 2 ^ 64:=j7 (Nat.div_le_self _ _) hp;obtain⟨n,hn,e1⟩:=acp hk (leap t.mask p.i p.perturb).1 (leap t.mask p.i p.perturb).2 hq he;obtain⟨s,hs,e2⟩:=aiW t p.dummy (leap t.mask p.i p.perturb).1 (leap t.mask p.i p.perturb).2 n;refine⟨p.more + 1 + s,by lia,?_⟩;rw[yO,Gi,e2];exact e1
theorem aiX(t:bP)(p:Probe)(h9:p.more<=9)(hp:p.perturb < 2 ^ 64):∀s,(wu t s p).more<=9/\(wu t s p).perturb < 2 ^ 64/\(wu t s p).dummy=p.dummy:=by
 intro s
 induction s with
 |zero=>exact⟨h9,hp,rfl⟩
 |succ s ih =>
  rw[uq];obtain⟨a,b,c⟩:=ih;unfold advance;split
  ·exact⟨by simp only;lia,b,c⟩
  ·exact⟨aiV _ _,j7 (Nat.div_le_self _ _) b,c⟩
theorem Xe(h:Int):bits h < 2 ^ 64:=by unfold bits;have:=ic h (show(0:Int) < 2 ^ 64 by decide);have:=gL h (show(2 ^ 64:Int)≠0 by decide);lia
noncomputable def pos(t:bP)(h:Int)(s:Nat):Nat:=(wu t s (t.probeStart h)).j
theorem Bh(t:bP)(h:Int)(s:Nat):(wu t s (t.probeStart h)).more<=9/\(wu t s (t.probeStart h)).perturb < 2 ^ 64/\(wu t s (t.probeStart h)).dummy=none :=
 aiX t _ (aiV _ _) (Xe h) s
theorem afx{t:bP}{k:Nat}(hk:t.mask + 1=2 ^ k)(h:Int)(s0:Nat){e:Nat}(he:e<=t.mask):∃s,s0<=s/\s<=s0 + 10 * (t.mask + 14)/\pos t h s=e:=by obtain⟨a,b,_⟩:=Bh t h s0;obtain⟨s,hs,e1⟩:=hit hk (wu t s0 (t.probeStart h)) a b he;exact⟨s0 + s,by lia,by lia,by unfold pos;rw[yO];exact e1⟩
noncomputable def Gj(xs:Array Nat):Prop:=∀a b,a < b->b < xs.size->xs.getD a 0 < xs.getD b 0
theorem afy{xs:Array Nat}{a:Nat}(h:a < xs.size)(d:Nat):xs.getD a d=xs.getD a 0:=by simp[ie,h]
theorem acq{xs:Array Nat}{j:Nat}(R:Gj xs):∀(fuel lo hi:Nat),lo<=hi->hi<=xs.size->hi<=lo + fuel->(∀a,a < lo->xs.getD a 0 < j)->(∀a,hi<=a->a < xs.size->j<=xs.getD a 0) ->
  below.go xs j fuel lo hi<=xs.size/\(∀a,a < below.go xs j fuel lo hi->xs.getD a 0 < j)/\(∀a,below.go xs j fuel lo hi<=a->a < xs.size->j<=xs.getD a 0):=by
 intro fuel
 induction fuel with
 |zero =>
  intro lo hi h1 h2 h3 h4 h5;obtain rfl:lo=hi:=by lia
  exact⟨h2,h4,h5⟩
 |succ fuel ih =>
  intro lo hi h1 h2 h3 h4 h5;unfold below.go;by_cases c:lo < hi
  ·rw[if_pos c];simp only;have hm:(lo + hi) / 2 < xs.size:=by lia
   rw[afy hm];by_cases d:xs.getD ((lo + hi) / 2) 0 < j
   ·rw[if_pos d];refine ih _ _ (by lia) h2 (by lia) (fun a ha=>?_) h5;by_cases e:a=(lo + hi) / 2
    ·rw[e];exact d
    ·exact nK (R a ((lo + hi) / 2) (by lia) hm) d
   ·rw[if_neg d];refine ih _ _ (by lia) (by lia) (by lia) h4 fun a ha hs=>?_;by_cases e:a=(lo + hi) / 2
    ·rw[e];lia
    ·exact ck (by lia) (hG (R ((lo + hi) / 2) a (by lia) hs))
  ·rw[if_neg c];obtain rfl:lo=hi:=by lia
   exact⟨h2,h4,h5⟩
theorem zW{xs:Array Nat}(R:Gj xs)(j:Nat):below xs j<=xs.size/\(∀a,a < below xs j->xs.getD a 0 < j)/\(∀a,below xs j<=a->a < xs.size->j<=xs.getD a 0) :=
 acq R xs.size 0 xs.size (eD _) (bj _) (by lia) (fun a h=>absurd h (by lia)) fun a h1 h2=>absurd h1 (by lia)
theorem acr{xs:Array Nat}(R:Gj xs){i:Nat}(hi:i < xs.size):below xs (xs.getD i 0)=i:=by
 obtain⟨h1,h2,h3⟩:=zW R (xs.getD i 0);by_cases c:below xs (xs.getD i 0) < i
 ·have:=h3 _ (bj _) (by lia);have:=R _ i c hi;lia
 ·by_cases d:i < below xs (xs.getD i 0)
  ·have:=h2 i d;lia
  ·lia
noncomputable def Gk(t:bP)(j:Nat):Prop:=∃i,i < t.place.size/\t.place.getD i 0=j
theorem QS{xs:Array Nat}{i:Nat}(hi:i < xs.size):xs[i]?=some (xs.getD i 0):=by simp[ie,hi]
theorem JX{t:bP}(R:Gj t.place){i:Nat}(hi:i < t.place.size):t.slot (t.place.getD i 0)=.live i:=by unfold slot;simp only;rw[acr R hi,QS hi];simp
theorem UJ{t:bP}(nd:t.dummies=#[]){j:Nat}(h:¬Gk t j):t.slot j=.empty:=by
 unfold slot;simp only;rw[if_neg,if_neg]
 ·unfold has;rw[nd];simp
 ·intro c;apply h;have c':t.place[below t.place j]?=some j:=by simpa using c
  obtain⟨hl,e⟩:=fR.mp c';exact⟨_,hl,by simp[ie,hl,e]⟩
theorem Lp{t:bP}(R:Gj t.place){j:Nat}(h:Gk t j):∃i,i < t.place.size/\t.place.getD i 0=j/\t.slot j=.live i:=by obtain⟨i,hi,e⟩:=h;exact⟨i,hi,e,by rw[<- e];exact JX R hi⟩
theorem afz{xs:Array Nat}(R:Gj xs):∀i,i < xs.size->i<=xs.getD i 0:=by
 intro i
 induction i with
 |zero=>intro _;exact eD _
 |succ i ih=>intro h;have:=ih (by lia);have:=R i (i + 1) (by lia) h;lia
theorem UL{t:bP}(R:Gj t.place)(hs:t.place.size<=t.mask):∃e,e<=t.mask/\¬Gk t e:=by
 have key:∀n,n<=t.place.size->(∀a,a < n->t.place.getD a 0=a)∨∃e,e < n/\t.place.getD e 0≠e/\∀a,a < e->t.place.getD a 0=a:=by
  intro n
  induction n with
  |zero=>intro _;exact .inl fun a h=>absurd h (by lia)
  |succ n ih =>
   intro h;rcases ih (by lia) with h1|⟨e,h1,h2,h3⟩
   ·by_cases c:t.place.getD n 0=n
    ·refine .inl fun a ha=>?_;by_cases d:a=n
     ·rw[d];exact c
     ·exact h1 a (by lia)
    ·exact .inr ⟨n,by lia,c,h1⟩
   ·exact .inr ⟨e,by lia,h2,h3⟩
 rcases key t.place.size (bj _) with h|⟨e,h1,h2,h3⟩
 ·refine⟨t.place.size,hs,fun⟨i,hi,e⟩=>?_⟩;have:=h i hi;lia
 ·refine⟨e,by lia,fun⟨i,hi,e'⟩=>?_⟩;by_cases c:i < e
  ·have:=h3 i c;lia
  ·have hge:=afz R e h1;by_cases d:i=e
   ·subst d;exact h2 e'
   ·have:=R e i (by lia) hi;lia
theorem acs{t:bP}(R:Gj t.place)(nd:t.dummies=#[])(hashAt:Nat->Int)(h:Int):∀(fuel s0 s1:Nat),s0<=s1->s1 < s0 + fuel->¬Gk t (pos t h s1) ->
    ∃s2,s0<=s2/\s2<=s1/\(∀s,s0<=s->s < s2->∃i,i < t.place.size/\t.place.getD i 0=pos t h s/\hashAt i≠h) /\
      ((¬Gk t (pos t h s2) /\ probe.go t hashAt h fuel (wu t s0 (t.probeStart h)) = some (.empty (pos t h s2) none)) ∨
       ∃i,i < t.place.size/\t.place.getD i 0=pos t h s2/\hashAt i=h/\probe.go t hashAt h fuel (wu t s0 (t.probeStart h))=some (.candidate (pos t h s2) i (wu t (s2 + 1) (t.probeStart h)))):=by
  intro fuel
  induction fuel with
  |zero=>intro s0 s1 h1 h2;lia
  |succ fuel ih =>
    intro s0 s1 h1 h2 hl;have hd:=(Bh t h s0).2.2;unfold probe.go;by_cases c:Gk t (pos t h s0)
    . obtain⟨i,hi,e1,e2⟩:=Lp R c
      have e2':t.slot (wu t s0 (t.probeStart h)).j=.live i:=e2;rw[e2'];simp only;by_cases d:hashAt i=h
      . refine⟨s0,bj _,h1,fun s a b=>absurd a (by lia),.inr ⟨i,hi,e1,d,?_⟩⟩
        rw[if_pos (by simp[d]),uq];rfl
      . rw[if_neg (by simp[d]),<- uq]
        have hne:s0≠s1:=fun z=>hl (z▸c);obtain⟨s2,a1,a2,a3,a4⟩:=ih (s0 + 1) s1 (by lia) (by lia) hl;refine⟨s2,by lia,a2,fun s b1 b2=>?_,a4⟩;by_cases z:s=s0
        . subst z;exact⟨i,hi,e1,d⟩
        . exact a3 s (by lia) b2
    . refine⟨s0,bj _,h1,fun s a b=>absurd a (by lia),.inl ⟨c,?_⟩⟩
      have e2:t.slot (wu t s0 (t.probeStart h)).j=.empty:=UJ nd c;rw[e2];simp only;rw[hd];rfl
theorem acu{t t':bP}(e:t.mask=t'.mask):∀s p,wu t s p=wu t' s p:=by
 intro s
 induction s with
 |zero=>intro p;rfl
 |succ s ih =>
  intro p;simp only[wu];have:t.advance p=t'.advance p:=by unfold advance;rw[e]
  rw[this,ih]
theorem QT{t t':bP}(e:t.mask=t'.mask)(h:Int)(s:Nat):pos t h s=pos t' h s:=by
 unfold pos;have:t.probeStart h=t'.probeStart h:=by unfold probeStart;rw[e]
 rw[this,acu e]
noncomputable abbrev lM:=Nat×Int×aa
structure Good (t:bP)(L:List lM):Prop where
 pw:∃k,t.mask + 1=2 ^ k
 m7:7<=t.mask
 nd:t.dummies=#[]
 pl:t.place=(L.map (·.1)).toArray
 so:(L.map (·.1)).Pairwise (· < ·)
 le:∀e∈L,e.1<=t.mask
 reach:∀e∈L,∃s,pos t e.2.1 s=e.1/\∀s',s' < s->∃e'∈L,e'.1=pos t e.2.1 s'
section
variable{t:bP}{L:List lM}
theorem Good.sz(g:Good t L):t.place.size=L.length:=by rw[g.pl];simp
theorem Good.at(g:Good t L){i:Nat}(hi:i < L.length):t.place.getD i 0=L[i].1:=by rw[g.pl];simp[ie,hi]
theorem Good.rise(g:Good t L):Gj t.place:=by intro a b hab hb;rw[g.sz]at hb;rw[g.at (show a < L.length by lia),g.at hb];have:=(kR.mp g.so) a b (by simpa using(show a < L.length by lia)) (by simpa using hb) hab;simpa using this
theorem Good.live(g:Good t L){j:Nat}:Gk t j↔∃e∈L,e.1=j:=by
 constructor
 ·rintro⟨i,hi,e⟩;rw[g.sz]at hi;rw[g.at hi]at e;exact⟨L[i],fF hi,e⟩
 ·rintro⟨e,he,q⟩;obtain⟨i,hi,e1⟩:=me.mp he;exact⟨i,by rw[g.sz];exact hi,by rw[g.at hi,e1];exact q⟩
theorem Good.uniq(g:Good t L){e e':lM}(h:e∈L)(h':e'∈L)(q:e.1=e'.1):e=e':=by
 obtain⟨i,hi,rfl⟩:=me.mp h;obtain⟨j,hj,rfl⟩:=me.mp h';have R:=g.rise;by_cases c:i < j
 ·have:=R i j c (by rw[g.sz];exact hj);rw[g.at hi,g.at hj]at this;lia
 ·by_cases d:j < i
  ·have:=R j i d (by rw[g.sz];exact hi);rw[g.at hi,g.at hj]at this;lia
  ·obtain rfl:i=j:=by lia
   rfl
end
theorem zp{α:Type}(xs:List α)(p:Nat)(hp:p<=xs.length)(x:α):insertAt xs.toArray p x=(xs.take p++x::xs.drop p).toArray:=by unfold insertAt;apply p9.mp;simp only[List.extract_toArray,cv,ka,p_,List.extract_eq_take_drop,Nat.sub_zero,List.drop_zero];rw[qc (l:=xs.drop p) (by simp)];simp
theorem Lq(t:bP)(nd:t.dummies=#[])(j:Nat):t.put j=({ t with place:=insertAt t.place (below t.place j) j },below t.place j):=by
 unfold put;have:has t.dummies j=false:=by unfold has;rw[nd];simp
 simp only[this,b8,if_false]
theorem Good.put{t:bP}{L:List lM}(g:Good t L){j:Nat}{h:Int}{x:aa}(hj:j<=t.mask)(hn:¬Gk t j)(hr:∃s,pos t h s=j/\∀s',s' < s->∃e'∈L,e'.1=pos t h s') :
  (t.put j).2<=L.length/\Good (t.put j).1 (L.take (t.put j).2++(j,h,x)::L.drop (t.put j).2):=by
 rw[Lq t g.nd];obtain⟨b1,b2,b3⟩:=zW g.rise j;rw[g.sz]at b1 b3;simp only;generalize hp:below t.place j=p at *;refine⟨b1,?_⟩;have mem:∀e:lM,e∈L.take p++(j,h,x)::L.drop p↔e=(j,h,x)∨e∈L:=fun e=>by
  have:L=L.take p++L.drop p:=(mh p L).symm;constructor
  ·intro z;rcases dA.mp z with z|z
   ·exact .inr (qf z)
   ·rcases bq.mp z with z|z
    ·exact .inl z
    ·exact .inr (List.mem_of_mem_drop z)
  ·rintro(z|z)
   ·subst z;simp
   ·rw[this]at z;rcases dA.mp z with z|z
    ·exact oQ _ z
    ·exact f7 _ (el _ z)
 have pm:∀(hh:Int) (s:Nat),pos { t with place:=insertAt t.place p j } hh s=pos t hh s:=fun hh s=>QT (by rfl) hh s;refine⟨g.pw,g.m7,g.nd,?_,?_,fun e he=>?_,fun e he=>?_⟩
 ·show insertAt t.place p j=_;rw[g.pl,zp _ _ (by simpa using b1)];simp[u4,u5]
 ·simp only[qh,c6];rw[gN];refine⟨?_,?_,?_⟩
  ·rw[u4];exact kc (nv _ _) g.so
  ·rw[ke];refine⟨fun a ha=>?_,?_⟩
   ·obtain⟨e,he,rfl⟩:=dQ.mp ha;obtain⟨i,hi,rfl⟩:=me.mp he;have hi':p + i < L.length:=by simp at hi;lia
    have q:=b3 (p + i) (by lia) hi';rw[g.at hi']at q;have ne:L[p + i].1≠j:=fun z=>hn (g.live.mpr ⟨_,fF hi',z⟩);simp only[List.getElem_drop];show j < _;lia
   ·rw[u5];exact kc (u6 _ _) g.so
  ·intro a ha b hb;obtain⟨e,he,rfl⟩:=dQ.mp ha;obtain⟨i,hi,rfl⟩:=me.mp he;have hi':i < p:=by simp at hi;lia
   have q:=b2 i hi';rw[g.at (show i < L.length by lia)]at q;simp only[List.getElem_take];rcases bq.mp hb with z|z
   ·rw[z];exact q
   ·obtain⟨e',he',rfl⟩:=dQ.mp z;obtain⟨i',hi2,rfl⟩:=me.mp he';have hi3:p + i' < L.length:=by simp at hi2;lia
    have:=b3 (p + i') (by lia) hi3;rw[g.at hi3]at this;simp only[List.getElem_drop];lia
 ·rcases(mem e).mp he with z|z
  ·rw[z];exact hj
  ·exact g.le e z
 ·rcases(mem e).mp he with z|z
  ·subst z;obtain⟨s,e1,e2⟩:=hr;refine⟨s,by rw[pm];exact e1,fun s' hs=>?_⟩;obtain⟨e',h1,h2⟩:=e2 s' hs;exact⟨e',(mem e').mpr (.inr h1),by rw[pm];exact h2⟩
  ·obtain⟨s,e1,e2⟩:=g.reach e z;refine⟨s,by rw[pm];exact e1,fun s' hs=>?_⟩;obtain⟨e',h1,h2⟩:=e2 s' hs;exact⟨e',(mem e').mpr (.inr h1),by rw[pm];exact h2⟩
noncomputable def nH(owner:Array (Option Nat))(j:Nat):Prop:=owner.getD j (some 0)=none
theorem YZ{mask:Nat}{t:bP}(ht:t.mask=mask)(owner:Array (Option Nat)):∀(fuel i pt n:Nat),n < fuel->nH owner (lp mask n (i,pt)).1 ->
  ∃j s,layClean.free mask owner fuel i pt=some j/\(wu t s (wA mask i pt none)).j=j/\nH owner j/\∀s',s' < s->¬nH owner (wu t s' (wA mask i pt none)).j:=by
 intro fuel
 induction fuel with
 |zero=>intro i pt n h;lia
 |succ fuel ih =>
  intro i pt n hn hN;unfold layClean.free;have run:∀s,s<=runEnd mask i - i->(wu t s (wA mask i pt none)).j=i + s:=fun s hs=>by rw[Xd t s _ hs];rfl
  have hre:i<=runEnd mask i:=by unfold runEnd;split <;> lia
  cases e:(b7 (runEnd mask i + 1 - i)).find? fun k=>(owner.getD (i + k) (some 0)).isNone with
  |some k =>
   simp only;have h1:=List.find?_some e;have h2:=List.mem_of_find?_eq_some e;have h3:=eW.mp h2;refine⟨i + k,k,rfl,run k (by lia),by simpa[nH] using h1,fun s' hs z=>?_⟩;rw[run s' (by lia)]at z;have:=List.find?_eq_some_iff_append.mp e;obtain⟨_,as,bs,e1,e2⟩:=this;have hs':s'∈as:=by
    have hm:s'∈b7 (runEnd mask i + 1 - i):=eW.mpr (by lia);have ps:=List.pairwise_lt_range (n:=runEnd mask i + 1 - i);rw[e1]at hm ps;rcases dA.mp hm with hm|hm
    ·exact hm
    ·rcases bq.mp hm with hm|hm
     ·lia
     ·have:=(ke.mp (gN.mp ps).2.1).1 s' hm;lia
   have:=e2 s' hs';rw[show owner.getD (i + s') (some 0)=none from z]at this;simp at this
  |none =>
   simp only;have h1:=List.find?_eq_none.mp e;have no:∀s,s<=runEnd mask i - i->¬nH owner (i + s):=fun s hs z=>by have:=h1 s (eW.mpr (by lia));rw[show owner.getD (i + s) (some 0)=none from z]at this;simp at this
   cases n with
   |zero=>exact absurd hN (no 0 (by lia))
   |succ n =>
    have e3:lp mask (n + 1) (i,pt)=lp mask n (leap mask i pt):=by rw[Nat.add_comm,aco];rfl
    rw[e3]at hN;obtain⟨j,s,a1,a2,a3,a4⟩:=ih (leap mask i pt).1 (leap mask i pt).2 n (by lia) hN;have hl:wu t (runEnd mask i - i + 1) (wA mask i pt none)=wA mask (leap mask i pt).1 (leap mask i pt).2 none:=by have:=Gi t (wA mask i pt none);rw[ht]at this;exact this
    refine⟨j,runEnd mask i - i + 1 + s,a1,by rw[yO,hl];exact a2,a3,fun s' hs z=>?_⟩;by_cases c:s'<=runEnd mask i - i
    ·rw[run s' c]at z;exact no s' c z
    ·obtain⟨q,rfl⟩:∃q,s'=runEnd mask i - i + 1 + q:=⟨s' - (runEnd mask i - i + 1),by lia⟩
     rw[yO,hl]at z;exact a4 q (by lia) z
theorem Bj{α β:Type}{f g:α->Option β}:∀{l:List α},(∀a∈l,f a=g a)->l.filterMap f=l.filterMap g
 | [],_=>rfl
 |a::l,h=>by have ih:=Bj (l:=l) fun b hb=>h b (el _ hb);simp only[m6,ih,h a eR]
noncomputable def lu(M:Nat)(owner:Array (Option Nat)):List (Nat×Nat):=(b7 M).filterMap fun j=>(owner.getD j none).map (j,·)
theorem vB{M:Nat}{owner:Array (Option Nat)}{j i:Nat}:(j,i)∈lu M owner↔j < M/\owner.getD j none=some i:=by
 unfold lu;simp only[jI,eW,qi,u2];constructor
 ·rintro⟨a,h1,b,h2,rfl,rfl⟩;exact⟨h1,h2⟩
 ·rintro⟨h1,h2⟩;exact⟨j,h1,i,h2,rfl,rfl⟩
theorem Ir{M:Nat}{owner:Array (Option Nat)}:((lu M owner).map (·.1)).Pairwise (· < ·):=by
 have e:(lu M owner).map (·.1)=(b7 M).filter fun j=>(owner.getD j none).isSome:=by unfold lu;rw[u7,<- List.filterMap_eq_filter];congr 1;funext j;generalize hz:owner.getD j none=o;cases o <;> simp[Option.guard,hz]
 rw[e];exact kc List.filter_sublist List.pairwise_lt_range
theorem QV{f f':Nat->Option (Nat×Nat)}{j:Nat}{v:Nat×Nat}:∀{l:List Nat},l.Nodup->j∈l->f j=none->f' j=some v->(∀a,a≠j->f' a=f a)->(l.filterMap f').Perm (v::l.filterMap f)
 | [],_,h,_,_,_=>by cases h
 |a::l,nd,h,h1,h2,h3=>by
  have nd':=lI.mp nd;by_cases c:a=j
  ·subst c;have same:l.filterMap f'=l.filterMap f:=Bj fun b hb=>h3 b fun z=>nd'.1 (z▸hb);rw[nL h2,u_ h1,same]
  ·have hm:j∈l:=(bq.mp h).resolve_left (br c);have ih:=QV nd'.2 hm h1 h2 h3;cases e:f a with
   |none =>
    rw[u_ (by rw[h3 a c];exact e),u_ e];exact ih
   |some b =>
    rw[nL (by rw[h3 a c];exact e),nL e];exact(ih.cons b).trans (iN.swap ..)
theorem UW{M:Nat}{owner:Array (Option Nat)}(hs:owner.size=M){j k:Nat}(hj:j < M)(hn:owner.getD j none=none):(lu M (owner.setIfInBounds j (some k))).Perm ((j,k)::lu M owner):=by
 unfold lu;refine QV (j:=j) List.nodup_range (eW.mpr hj) (by rw[hn];rfl) ?_ fun a ha=>?_
 ·have:(owner.setIfInBounds j (some k)).getD j none=some k:=by simp[ie,hs,hj]
  rw[this];rfl
 ·have:(owner.setIfInBounds j (some k)).getD a none=owner.getD a none:=by simp only[kf];rw[uj (br ha)]
  rw[this]
structure LC (t:bP)(hs:List Int)(owner:Array (Option Nat))(k:Nat):Prop where
 sz:owner.size=t.mask + 1
 pm:((lu (t.mask + 1) owner).map (·.2)).Perm (b7 k)
 reach:∀j i,(j,i)∈lu (t.mask + 1) owner->∃h,hs[i]?=some h/\∃s,pos t h s=j/\∀s',s' < s->¬nH owner (pos t h s')
theorem Xf{owner:Array (Option Nat)}{j:Nat}(h:nH owner j):j < owner.size/\owner.getD j none=none:=by
 unfold nH at h;by_cases c:j < owner.size
 ·simp only[ie,c,dif_pos]at h ⊢;exact⟨trivial,h⟩
 ·simp[ie,c]at h
theorem LC.step{t:bP}{hs:List Int}{owner:Array (Option Nat)}{k:Nat}(g:LC t hs owner k)(pw:∃q,t.mask + 1=2 ^ q)(hk:k<=t.mask){h:Int}(hh:hs[k]?=some h) :
  ∃j,layClean.free t.mask owner (turns t.mask) (bits h % (t.mask + 1)) (bits h)=some j/\LC t hs (owner.setIfInBounds j (some k)) (k + 1):=by
 obtain⟨q,hq⟩:=pw;have emp:∃e,e<=t.mask/\nH owner e:=by
  refine Classical.byContradiction fun c=>?_;have all:∀e,e < t.mask + 1->∃i,(e,i)∈lu (t.mask + 1) owner:=fun e he=>by
   cases z:owner.getD e none with
   |some i=>exact⟨i,vB.mpr ⟨he,z⟩⟩
   |none =>
    refine absurd ⟨e,by lia,?_⟩ c;have hl:e < owner.size:=by rw[g.sz];exact he
    simp only[nH,ie,hl,dif_pos]at z ⊢;exact z
  have l1:(lu (t.mask + 1) owner).length=k:=by have:=g.pm.length_eq;simpa using this
  have l2:((lu (t.mask + 1) owner).map (·.1))=b7 (t.mask + 1):=by
   unfold lu;rw[u7];have:(b7 (t.mask + 1)).filterMap (fun x=>Option.map (·.1) (Option.map (x,·) (owner.getD x none)))=(b7 (t.mask + 1)).filterMap some:=by refine Bj fun x hx=>?_;obtain⟨i,hi⟩:=all x (eW.mp hx);rw[(vB.mp hi).2];rfl
   rw[this];simp
  have l3:=congrArg nh l2;simp at l3;lia
 obtain⟨e,he,hN⟩:=emp;obtain⟨n,hn,en⟩:=acp hq (bits h % (t.mask + 1)) (bits h) (Xe h) he;obtain⟨j,s,f1,f2,f3,f4⟩:=YZ (t:=t) rfl owner (turns t.mask) (bits h % (t.mask + 1)) (bits h) n (by unfold turns;lia) (by rw[en];exact hN);obtain⟨hj,hjn⟩:=Xf f3;have hp:=UW (k:=k) g.sz (by rw[<- g.sz];exact hj) hjn;have stays:∀a,¬nH owner a->¬nH (owner.setIfInBounds j (some k)) a:=fun a ha z=>by
  by_cases c:a=j
  ·subst c;have:=Xf z;simp[ie,hj]at this
  ·apply ha;unfold nH at z ⊢;simp only[kf]at z ⊢;rw[uj (br c)]at z;exact z
 refine⟨j,f1,⟨by simp[g.sz],?_,fun j' i' hm=>?_⟩⟩
 ·have:=(hp.map (fun(x:Nat×Nat)=>x.2)).trans (iN.cons k g.pm);refine this.trans ?_;rw[List.range_succ];exact kg (l₁:=[k]) (l₂:=b7 k)
 ·rcases bq.mp (hp.mem_iff.mp hm) with z|z
  ·cases z;exact⟨h,hh,s,f2,fun s' hs'=>stays _ (f4 s' hs')⟩
  ·obtain⟨h',e1,s1,e2,e3⟩:=g.reach j' i' z;exact⟨h',e1,s1,e2,fun s' hs'=>stays _ (e3 s' hs')⟩
theorem acv{mask i:Nat}(h:i<=mask):i + (runEnd mask i - i)<=mask:=by unfold runEnd;split <;> lia
theorem aiY(t:bP)(p:Probe)(h:p.j + p.more<=t.mask):∀s,(wu t s p).j + (wu t s p).more<=t.mask:=by
 intro s
 induction s with
 |zero=>exact h
 |succ s ih =>
  rw[uq];unfold advance;split
  ·simp only;lia
  ·exact acv (Nat.le_of_lt_succ (l_ _ (by lia)))
theorem acw(t:bP)(h:Int)(s:Nat):pos t h s<=t.mask:=by have:=aiY t (t.probeStart h) (acv (Nat.le_of_lt_succ (l_ _ (by lia)))) s;unfold pos;lia
theorem acy{t:bP}(pw:∃q,t.mask + 1=2 ^ q)(hs:List Int)(hn:hs.length<=t.mask):∀(rest pre:List Int) (owner:Array (Option Nat)),hs=pre++rest->LC t hs owner pre.length ->
  ∃Lr,rest.foldl (init:=some (owner,pre.length)) (fun acc h=>do
    let (owner,k) <- acc
    let j <- layClean.free t.mask owner (turns t.mask) (bits h % (t.mask + 1)) (bits h)
    pure (owner.setIfInBounds j (some k),k + 1))=some (Lr,hs.length)/\LC t hs Lr hs.length:=by
 intro rest
 induction rest with
 |nil =>
  intro pre owner e g;rw[fh]at e;subst e;exact⟨owner,rfl,g⟩
 |cons h rest ih =>
  intro pre owner e g;have hk:hs[pre.length]?=some h:=by rw[e];simp
  have hl:pre.length<=t.mask:=by rw[e]at hn;simp at hn;lia
  obtain⟨j,f1,g1⟩:=g.step pw hl hk;obtain⟨Lr,e1,g2⟩:=ih (pre++[h]) (owner.setIfInBounds j (some pre.length)) (by rw[e];simp) (by simpa using g1);refine⟨Lr,?_,g2⟩;rw[j9];have:(some (owner,pre.length) >>= fun x=>match x with
    | (owner,k)=>layClean.free t.mask owner (turns t.mask) (bits h % (t.mask + 1)) (bits h) >>= fun j=>pure (owner.setIfInBounds j (some k),k + 1))=some (owner.setIfInBounds j (some pre.length),(pre++[h]).length):=by
   show(layClean.free t.mask owner (turns t.mask) (bits h % (t.mask + 1)) (bits h) >>= fun j=>pure (owner.setIfInBounds j (some pre.length),pre.length + 1))=_;rw[f1];simp
  exact(congrArg (fun o=>rest.foldl _ o) this).trans e1
theorem LC.start(t:bP)(hs:List Int):LC t hs (qk (t.mask + 1) none) 0:=by
 have e:lu (t.mask + 1) (qk (t.mask + 1) none)=[]:=by
  unfold lu;rw[List.filterMap_eq_nil_iff];intro j hj;have:(qk (t.mask + 1) (none:Option Nat)).getD j none=none:=by simp only[kf,Array.getElem?_replicate];split <;> rfl
  rw[this];rfl
 refine⟨by simp,by rw[e];exact .refl _,fun j i h=>?_⟩;rw[e]at h;cases h
theorem QW{t:bP}(pw:∃q,t.mask + 1=2 ^ q)(hs:Array Int)(hn:hs.size<=t.mask):∃owner,layClean t.mask hs=some owner/\LC t hs.toList owner hs.size:=by obtain⟨owner,e,g⟩:=acy pw hs.toList (by simpa using hn) hs.toList [] (qk (t.mask + 1) none) rfl (LC.start t _);refine⟨owner,?_,by simpa using g⟩;unfold layClean;rw[<- Array.foldl_toList];have e':=congrArg (Option.map (·.1)) e;exact e'
theorem Ls:∀(fuel size n:Nat),(∃q,size=2 ^ q)->8<=size->n < size * 2 ^ fuel->∃q,sizeAbove.go n fuel size=2 ^ q/\8<=sizeAbove.go n fuel size/\n < sizeAbove.go n fuel size/\(sizeAbove.go n fuel size=size∨sizeAbove.go n fuel size<=2 * n):=by
 intro fuel
 induction fuel with
 |zero=>intro size n ⟨q,hq⟩ h8 h;exact⟨q,hq,h8,by simpa[sizeAbove.go] using h,.inl rfl⟩
 |succ fuel ih =>
  intro size n ⟨q,hq⟩ h8 h;unfold sizeAbove.go;by_cases c:size<=n
  ·rw[if_pos c];obtain⟨q',a1,a2,a3,a4⟩:=ih (size * 2) n ⟨q + 1,by rw[hq,dS]⟩ (by lia) (by rw[pV,<- Nat.pow_succ'];exact h);refine⟨q',a1,a2,a3,.inr ?_⟩;rcases a4 with a4|a4
   ·rw[a4];lia
   ·exact a4
  ·rw[if_neg c];exact⟨q,hq,h8,by lia,.inl rfl⟩
theorem Lw(n:Nat)(hn:n < 2 ^ 60):(∃q,sizeAbove n - 1 + 1=2 ^ q)/\7<=sizeAbove n - 1/\n<=sizeAbove n - 1/\(sizeAbove n - 1=7∨sizeAbove n<=2 * n):=by
 obtain⟨q,a1,a2,a3,a4⟩:=Ls 64 8 n ⟨3,rfl⟩ (bj _) (nK hn (by decide));unfold sizeAbove;refine⟨⟨q,by rw[<- a1];lia⟩,by lia,by lia,?_⟩;rcases a4 with a4|a4
 ·left;lia
 ·right;exact a4
theorem Za{mask:Nat}(pw:∃q,mask + 1=2 ^ q)(m7:7<=mask)(finger moves:Nat)(led plain:Bool)(es:List (Int×aa))(hn:es.length<=mask) :
  ∃t' order L,laid mask finger moves led plain (es.map (·.1)).toArray=some (t',order)/\t'.mask=mask/\t'.led=led/\t'.plain=plain/\t'.moves=moves/\Good t' L/\order.filterMap (fun i=>es.toArray[i]?)=(L.map (·.2)).toArray/\(L.map (·.2)).Perm es:=by
 let t0:bP:={ mask,place:=#[],dummies:=#[],finger,led,moves,plain }
 obtain⟨owner,e1,g⟩:=QW (t:=t0) pw (es.map (·.1)).toArray (by simpa using hn)
 let live:=lu (mask + 1) owner
 let t1:bP:={ mask,place:=(live.map (·.1)).toArray,dummies:=#[],finger,led,moves,plain }
 have hi:∀j i,(j,i)∈live->∃e,es[i]?=some e:=fun j i h=>by obtain⟨hh,a1,_⟩:=g.reach j i h;simp only[df,qi]at a1;obtain⟨e,a2,_⟩:=a1;exact⟨e,a2⟩
 let L:List lM:=live.filterMap fun x=>(es[x.2]?).map fun e=>(x.1,e)
 have hL1:∀l:List (Nat×Nat),(∀x∈l,∃e,es[x.2]?=some e)->(l.filterMap fun x=>(es[x.2]?).map fun e=>((x.1,e):lM)).map (·.1)=l.map (·.1):=by
  intro l
  induction l with
  |nil=>intro _;rfl
  |cons x l ih =>
   intro h;obtain⟨e,he⟩:=h x eR;rw[nL (by rw[he];rfl),c6,c6,ih fun y hy=>h y (el _ hy)]
 have hL2:∀l:List (Nat×Nat),(l.filterMap fun x=>(es[x.2]?).map fun e=>((x.1,e):lM)).map (·.2)=(l.map (·.2)).filterMap fun i=>es[i]?:=by intro l;rw[u7,List.filterMap_map];refine Bj fun x _=>?_;simp only[Function.comp];cases es[x.2]? <;> rfl
 have rg:∀l:List (Int×aa),(b7 l.length).filterMap (fun i=>l[i]?)=l:=by
  intro l
  induction l with
  |nil=>rfl
  |cons a l ih =>
   rw[bu,l4,nL (by rfl),List.filterMap_map];congr 1
 have pmL:(L.map (·.2)).Perm es:=by
  show((live.filterMap fun x=>(es[x.2]?).map fun e=>((x.1,e):lM)).map (·.2)).Perm es;rw[hL2];have:=(g.pm.filterMap fun i=>es[i]?)
  have e2:(es.map (·.1)).toArray.size=es.length:=by simp
  rw[e2]at this;rw[rg]at this;exact this
 refine⟨t1,(live.map (·.2)).toArray,L,?_,rfl,rfl,rfl,rfl,⟨pw,m7,rfl,?_,?_,fun e he=>?_,fun e he=>?_⟩,?_,pmL⟩
 ·unfold laid;have e1':layClean mask (es.map (·.1)).toArray=some owner:=e1;rw[e1'];rfl
 ·show(live.map (·.1)).toArray=_;rw[show L.map (·.1)=live.map (·.1) from hL1 live fun x hx=>hi x.1 x.2 hx]
 ·rw[show L.map (·.1)=live.map (·.1) from hL1 live fun x hx=>hi x.1 x.2 hx];exact Ir
 ·obtain⟨x,hx,h2⟩:=jI.mp he;obtain⟨e',_,rfl⟩:=qi.mp h2;have:=(vB (j:=x.1) (i:=x.2)).mp hx;show x.1<=mask;lia
 ·obtain⟨x,hx,h2⟩:=jI.mp he;obtain⟨e',h3,rfl⟩:=qi.mp h2;obtain⟨hh,a1,s,a2,a3⟩:=g.reach x.1 x.2 hx;simp only[df,h3,nN,Option.some.injEq]at a1;subst a1;have pm:∀s,pos t1 e'.1 s=pos t0 e'.1 s:=fun s=>QT (t:=t1) (t':=t0) rfl _ s;refine⟨s,by rw[pm];exact a2,fun s' hs=>?_⟩;have nn:=a3 s' hs;have hlt:pos t0 e'.1 s' < mask + 1:=Nat.lt_succ_of_le (acw t0 e'.1 s');cases z:owner.getD (pos t0 e'.1 s') none with
  |none =>
   refine absurd ?_ nn;have hl:pos t0 e'.1 s' < owner.size:=by rw[g.sz];exact hlt
   simp only[nH,ie,hl,dif_pos]at z ⊢;exact z
  |some i =>
   have hm:(pos t0 e'.1 s',i)∈live:=vB.mpr ⟨hlt,z⟩;obtain⟨e2,he2⟩:=hi _ _ hm;refine⟨(pos t0 e'.1 s',e2),jI.mpr ⟨_,hm,by rw[he2];rfl⟩,by rw[pm]⟩
 ·rw[show L.map (·.2)=(live.map (·.2)).filterMap fun i=>es[i]? from hL2 live];simp
end Tb
namespace Tb
open PySem PySem.Spec PySem.SetTable
noncomputable abbrev TK(prog:aE)(w:ay):=tupleKind (cw prog w)
noncomputable abbrev hK(prog:aE)(w:ay)(ks:List Int):Int:=tupleKeyHash (cw prog w) ks
noncomputable def aiZ(prog:aE)(w:ay)(h:aw)(e:lM)(ks:List Int):Prop:=∃b,e.2.2=.ref b/\de (cw prog w) h ks b/\e.2.1=hK prog w ks
section
variable{prog:aE}{w:ay}{A:aT}{E:aa->af->Prop}{s:af}
theorem Lx{n:Nat}{v:aa}(h:qo v=true):qq n v=pure false:=by
 cases v with
 |ref a=>simp[qo]at h
 |_=>first|rfl|(unfold qq;rfl)
theorem Bk{ks:List Int}{b:ae}{Q:Bool->af->Prop}(hk:de (cw prog w) s.heap ks b)(h:Q false s):az (ar prog w) A (qq 8 (.ref b)) Q E s:=by
 have hT:=hk.typeIs;obtain⟨o,items,n,ho,hc,hd,hi⟩:=hk;unfold qq;refine ah (vc hT ?_);simp only[beq_self_eq_true,if_true];refine ah (a9 ?_);simp only[fS,b8,if_false];refine ah (gS ho hd ?_);refine ah ?_;show az _ _ (forIn items _ _) _ _ s;rw[<- Array.forIn_toList];refine ve _ (fun rest r s'=>r.1=none/\s'=s/\∀v∈rest,qo v=true) _ ?_ ?_ _ _ ⟨rfl,rfl,hi.byValue⟩
 ·rintro v rest r s' ⟨hr,rfl,hall⟩;rw[Lx (hall v eR)];refine ah (a9 ?_);simp only[b8,if_false];exact a9 ⟨rfl,rfl,fun u hu'=>hall u (el _ hu')⟩
 ·rintro⟨r1,r2⟩ s' ⟨hr,rfl,_⟩;simp only at hr;subst hr;exact a9 h
theorem afA{ks:List Int}{b:ae}{Q:Bool->af->Prop}(hk:de (cw prog w) s.heap ks b)(ys:List aa)(hy:∀y∈ys,∃k' b',y=.ref b'/\de (cw prog w) s.heap k' b')(h:Q false s) :
  az (ar prog w) A (searchCouldBeSeen (.ref b) ys) Q E s:=by
 unfold searchCouldBeSeen;refine ah ?_;refine ve _ (fun rest r s'=>r.1=none/\s'=s/\∀y∈rest,∃k' b',y=.ref b'/\de (cw prog w) s.heap k' b') _ ?_ ?_ _ _ ⟨rfl,rfl,hy⟩
 ·rintro v rest r s' ⟨hr,rfl,hall⟩;obtain⟨k',b',rfl,hk'⟩:=hall v eR;have Xg:∀y∈rest,∃k' b',y=aa.ref b'/\de (cw prog w) s'.heap k' b':=fun y hy=>hall y (el _ hy);dsimp only;by_cases c:b=b'
  ·subst c;simp only[beq_self_eq_true,Bool.true_or,if_true];exact a9 ⟨rfl,rfl,Xg⟩
  ·have hc:(b == b')=false:=by simpa using c
   simp only[hc,qo,Bool.false_and,Bool.or_self,b8,if_false];refine ah (wpAny_eqIsQuiet_tuple hk ?_);simp only[fS,b8,if_false];refine ah (wpAny_eqIsQuiet_tuple hk' ?_);simp only[fS,b8,if_false];refine ah (Bk hk ?_);simp only[b8,if_false];refine ah (Bk hk' ?_);simp only[b8,if_false];exact a9 ⟨rfl,rfl,Xg⟩
 ·rintro⟨r1,r2⟩ s' ⟨hr,rfl,_⟩;simp only at hr;subst hr;exact a9 h
theorem QX{a:ae}{Q:Bool->af->Prop}(h:Q true s):az (ar prog w) A (isSame (.ref a) (.ref a)) Q E s:=by unfold isSame;simp only[beq_self_eq_true,if_true];exact a9 h
end
section
variable{prog:aE}{w:ay}{A:aT}{E:aa->af->Prop}{s:af}
noncomputable abbrev jw(L:List lM)(ep:Nat)(t:bP):Obj:={ cls:=.type "set",dict:=none,data:=.set (L.map (·.2)).toArray ep t }
theorem Good.fits{t:bP}{L:List lM}(g:Good t L)(hl:L.length<=t.mask):t.fits ((L.map (·.2)).toArray).size=true:=by
 unfold i9.fits;have h1:t.fill<=t.mask:=by unfold fill;rw[g.nd,g.sz];simpa using hl
 simp[g.sz,h1]
theorem Good.odd{t:bP}{L:List lM}(g:Good t L):t.gaveWay=false:=by
 obtain⟨k,hk⟩:=g.pw;have h7:=g.m7;unfold gaveWay;cases k with
 |zero=>simp at hk;lia
 |succ k =>
  have:t.mask % 2=1:=by rw[dS]at hk;lia
  simp[this]
theorem Va{a b:ae}{ks:List Int}{L:List lM}{ep:Nat}{t:bP}{f:lM->List Int}{Q:SetFound->af->Prop}(ho:s.heap.get? a=some (jw L ep t))(g:Good t L)(hl:L.length<=t.mask)(hf:∀e∈L,aiZ prog w s.heap e (f e))
  (hb:de (cw prog w) s.heap ks b) (hu:A.units < b9) (q1:(∃e∈L,f e=ks)->Q (.there none) s)
  (q2:∀j,j<=t.mask->¬Gk t j->(∃n,pos t (hK prog w ks) n=j/\∀n',n' < n->∃e'∈L,e'.1=pos t (hK prog w ks) n')->(∀e∈L,f e≠ks)->Q (.free j false) s) :
  ∀(fuel s0 sE:Nat) (Vb:Option Probe),s0<=sE->sE < s0 + fuel->sE < s0 + 10 * turns t.mask->¬Gk t (pos t (hK prog w ks) sE)->Vb.getD (t.probeStart (hK prog w ks))=wu t s0 (t.probeStart (hK prog w ks)) ->
   (∀n,n < s0->∃e∈L,e.1=pos t (hK prog w ks) n/\f e≠ks)->az (ar prog w) A (qr a (.ref b) (hK prog w ks) true fuel Vb) Q E s:=by
 intro fuel
 induction fuel with
 |zero=>intro s0 sE _ h1 h2;lia
 |succ fuel ih =>
  intro s0 sE Vb h1 h2 h2' hE hst hpre;unfold qr;refine ah (ki ho rfl (g.fits hl) ?_);simp only[g.odd,b8,if_false];obtain⟨s2,a1,a2,a3,a4⟩:=acs g.rise g.nd (fun i=>((((L.map (·.2)).toArray)[i]?).map (·.1)).getD 0) (hK prog w ks) (10 * turns t.mask) s0 sE h1 h2' hE;have hh:∀i (hi:i < L.length),((((L.map (·.2)).toArray)[i]?).map (·.1)).getD 0=L[i].2.1:=fun i hi=>by simp[hi]
  have passed:∀n,n < s2->∃e∈L,e.1=pos t (hK prog w ks) n/\f e≠ks:=fun n hn=>by
   by_cases c:n < s0
   ·exact hpre n c
   ·obtain⟨i,hi,e1,e2⟩:=a3 n (by lia) hn;rw[g.sz]at hi;rw[g.at hi]at e1;rw[hh i hi]at e2;refine⟨L[i],fF hi,e1,fun z=>e2 ?_⟩;obtain⟨b',_,_,e3⟩:=hf _ (fF hi);rw[e3,z]
  rcases a4 with ⟨hne,hp⟩|⟨i,hi,e1,e2,hp⟩
  ·-- an empty slot
   have hp':t.probe (fun i=>((((L.map (·.2)).toArray)[i]?).map (·.1)).getD 0) (hK prog w ks) (Vb.getD (t.probeStart (hK prog w ks)))=some (.empty (pos t (hK prog w ks) s2) none):=by rw[hst];exact hp
   generalize hr:t.probe _ (hK prog w ks) (Vb.getD (t.probeStart (hK prog w ks)))=r;obtain rfl:r=_:=hr.symm.trans hp';simp only;refine a9 (q2 _ (acw t _ _) hne ⟨s2,rfl,fun n hn=>?_⟩ fun e he z=>?_)
   ·obtain⟨e,he,q,_⟩:=passed n hn;exact⟨e,he,q⟩
   ·obtain⟨b',_,_,e3⟩:=hf e he;obtain⟨n,r1,r2⟩:=g.reach e he;rw[e3,z]at r1 r2;by_cases c:n < s2
    ·obtain⟨e',he',q,ne⟩:=passed n c;have:=g.uniq he' he (q.trans r1);subst this;exact ne z
    ·by_cases d:s2 < n
     ·obtain⟨e',he',q⟩:=r2 s2 d;exact hne (g.live.mpr ⟨e',he',q⟩)
     ·obtain rfl:n=s2:=by lia
      exact hne (g.live.mpr ⟨e,he,r1.symm⟩)
  ·-- a key with the same hash
   rw[g.sz]at hi;have e1':=e1;rw[g.at hi]at e1;obtain⟨b',hv,hk',hx⟩:=hf _ (fF hi);have hp':t.probe (fun i=>((((L.map (·.2)).toArray)[i]?).map (·.1)).getD 0) (hK prog w ks) (Vb.getD (t.probeStart (hK prog w ks)))=some (.candidate (pos t (hK prog w ks) s2) i (wu t (s2 + 1) (t.probeStart (hK prog w ks)))):=by rw[hst];exact hp
   generalize hr:t.probe _ (hK prog w ks) (Vb.getD (t.probeStart (hK prog w ks)))=r;obtain rfl:r=_:=hr.symm.trans hp';simp only;have ei:((L.map (·.2)).toArray)[i]?=some (L[i].2.1,.ref b'):=by
    have:((L.map (·.2)).toArray)[i]?=some L[i].2:=by simp[hi]
    rw[this,<- hv]
   have rest:az (ar prog w) A (do
     let some (_,y):=((L.map (·.2)).toArray)[i]?|unsupported "internal:set-entry"
     let equal <- eL [y] (eqBool y (.ref b))
     let (es',_,t') <- setState a
     if true && equal then return .there none
     let some same:=t'.sameMemory t.moves t.mask|unsupported "set.changed-during-lookup:is-the-new-block-at-the-old-address"
     let still <- match (if same then t'.slot (pos t (hK prog w ks) s2) else .empty) with
      | .live i'=>match es'[i']? with
       |some (_,y')=>do pure (if <- isSame y' y then some i' else none)
       |none=>pure none
      |_=>pure none
     match still with
     |none=>rule "set.search.anew";qr a (.ref b) (hK prog w ks) true fuel none
     |some i'=>if equal then return .there (some i') else qr a (.ref b) (hK prog w ks) true fuel (some (wu t (s2 + 1) (t.probeStart (hK prog w ks))))) Q E s:=by
    rw[ei];simp only;refine ah (gm ((TK prog w).eqBool hu hk' hb ?_));refine ah (ki ho rfl (g.fits hl) ?_);by_cases c:f L[i]=ks
    ·simp only[c,decide_true,Bool.and_self,if_true];exact a9 (q1 ⟨_,fF hi,c⟩)
    ·simp only[c,decide_false,lS,b8,if_false];have hsm:t.sameMemory t.moves t.mask=some true:=by unfold sameMemory;simp
     rw[hsm];simp only[if_true];have hsl:t.slot (pos t (hK prog w ks) s2)=.live i:=by rw[<- e1'];exact JX g.rise (by rw[g.sz];exact hi)
     rw[hsl];simp only[ei];refine ah (QX (ah (a9 ?_)));simp only[if_true];have hne:s2≠sE:=fun z=>hE (z▸g.live.mpr ⟨_,fF hi,e1⟩);refine ih (s2 + 1) sE _ (by lia) (by lia) (by lia) hE rfl fun n hn=>?_;by_cases d:n=s2
     ·subst d;exact⟨_,fF hi,e1,c⟩
     ·exact passed n (by lia)
   cases apT:t.led with
   |true=>simp only[fS,b8,if_false];exact rest
   |false =>
    simp only[qs,if_true];refine ah (afA hb _ (fun y hy=>?_) ?_)
    ·obtain⟨e,he,rfl⟩:=dQ.mp hy;have he':e∈(L.map (·.2)):=by have:=Array.mem_toList_iff.mp he;have:=(Array.mem_filter.mp this).1;simpa using this
     obtain⟨e0,h0,rfl⟩:=dQ.mp he';obtain⟨b2,hv2,hk2,_⟩:=hf e0 h0;exact⟨_,b2,hv2,hk2⟩
    ·simp only[b8,if_false];exact rest
end
section
variable{prog:aE}{w:ay}{A:aT}{E:aa->af->Prop}{s:af}
theorem QZ{ks:List Int}{b:ae}{Q:Bool->af->Prop}(hk:de (cw prog w) s.heap ks b)(h:Q true s):az (ar prog w) A (qv 8 (.ref b)) Q E s:=by
 have hT:=hk.typeIs;obtain⟨o,items,n,ho,hc,hd,hi⟩:=hk;have allI:∀v∈items.toList,∃i t,v=.int i t:=by
  clear hd;generalize items.toList=l at hi
  induction hi with
  |nil=>intro v hv;cases hv
  |cons h1 _ ih =>
   intro v hv;rcases bq.mp hv with rfl|hv
   ·cases v with
    |int i t=>exact⟨i,t,rfl⟩
    |_=>simp[cw,aa.isInt]at h1
   ·exact ih v hv
 unfold qv;refine ah (wpAny_specialOf hT F.slot_tuple_hash.lookup ?_);simp only;refine ah (gS ho hd ?_);simp only[nS];refine ah ?_;rw[<- Array.forIn_toList];refine ve _ (fun rest r s'=>r.1=none/\s'=s/\∀v∈rest,∃i t,v=.int i t) _ ?_ ?_ _ _ ⟨rfl,rfl,allI⟩
 ·rintro v rest r s' ⟨hr,rfl,hall⟩;obtain⟨i,t,rfl⟩:=hall v eR;have:qv 7 (.int i t)=pure true:=by unfold qv;rfl
  rw[this];refine ah (a9 ?_);simp only[fS,b8,if_false];exact a9 ⟨rfl,rfl,fun u hu'=>hall u (el _ hu')⟩
 ·rintro⟨r1,r2⟩ s' ⟨hr,rfl,_⟩;simp only at hr;subst hr;exact a9 h
noncomputable abbrev Fd(w:ay):Bool:=w.params.followText "set-order"
noncomputable def jj(prog:aE)(w:ay)(U:ae->List Int->Prop)(h:aw)(a:ae)(bM:LL):Prop :=
 ∃(L:List lM) (ep:Nat) (t:bP) (f:Int×aa->List Int),h.get? a=some (jw L ep t)/\Good t L/\L.length * 5 < t.mask * 3/\t.mask < 8192/\(t.plain=true/\t.led=!Fd w)/\(∀e∈L,aiZ prog w h e (f e.2))/\(L.map fun e=>f e.2).Perm bM/\bM.Nodup/\∀e∈L,∀b,e.2.2=.ref b->U b (f e.2)
theorem Gm{h h':aw}{a:ae}{L:List lM}{ep:Nat}{t:bP}{ks:List Int}{b:ae}(ho:h.get? a=some (jw L ep t))(hs:dP a h h')(hk:de (cw prog w) h ks b):de (cw prog w) h' ks b:=by
 obtain⟨o,items,n,h1,h2,h3,h4⟩:=hk;have ne:b≠a:=fun z=>by subst z;rw[ho]at h1;cases h1;cases h3
 exact⟨o,items,n,(hs.2 b ne).trans h1,h2,h3,h4⟩
theorem Ra{a:ae}{L L':List lM}{ep:Nat}{t t':bP}{Q:Unit->af->Prop}(ho:s.heap.get? a=some (jw L ep t))(hz:L'.length<=1000000)(h:∀h',dP a s.heap h'->h'.get? a=some (jw L' (ep + 1) t')->Q () { s with heap:=h' }) :
  az (ar prog w) A (storeSet a (L'.map (·.2)).toArray t') Q E s:=by
 refine wpAny_storeSet_of ho rfl (h _ (ml s.heap a _) ?_) (by rw[e_];simp;lia);have hd:(jw L ep t).data=.set (L.map (·.2)).toArray ep t:=rfl;have:=hZ (Obj.putSet (L'.map (·.2)).toArray t') ho (by rw[putSet_of _ _ hd];rfl);rw[putSet_of _ _ hd]at this;exact this
theorem acz{a:ae}{L:List lM}{ep:Nat}{t:bP}{Q:Unit->af->Prop}(ho:s.heap.get? a=some (jw L ep t))(g:Good t L)(hl:L.length<=t.mask)(h1:1<=L.length)(hz:L.length<=4900)(hp:t.plain=true)
  (h:∀h' L' t',dP a s.heap h'->h'.get? a=some (jw L' (ep + 1) t')->Good t' L'->L'.length * 5 < t'.mask * 3->(t'.mask=7∨t'.mask + 1<=8 * L'.length)/\L'.length * 4<=t'.mask->(t'.plain=true/\t'.led=t.led)->(L'.map (·.2)).Perm (L.map (·.2))->Q () { s with heap:=h' }) :
  az (ar prog w) A (setRelay a (grown L.length)) Q E s:=by
 have hg:grown L.length=L.length * 4:=by unfold grown;rw[if_neg (by lia)]
 rw[hg];obtain⟨s1,s2,s3,s4⟩:=Lw (L.length * 4) (by lia);unfold setRelay;refine ah (ki ho rfl (g.fits hl) ?_);have hsz:¬sizeAbove (L.length * 4) > sizeLine:=by rw[e_];lia
 simp only[hsz,if_false];obtain⟨t',order,L',e1,e2,e3,e4,e5,g',e6,e7⟩:=Za s1 s2 t.finger (t.movedTo (sizeAbove (L.length * 4) - 1)) t.led t.plain (L.map (·.2)) (by simp;lia);have hlen:L'.length=L.length:=by have:=e7.length_eq;simpa using this
 have er:t.relaid (((L.map (·.2)).toArray).map (·.1)) (L.length * 4)=some (t',order):=by
  unfold relaid;have:((L.map (·.2)).toArray).map (·.1)=((L.map (·.2)).map (·.1)).toArray:=by simp
  rw[this];exact e1
 have main:az (ar prog w) A (do
   let some (t,order):=t.relaid (((L.map (·.2)).toArray).map (·.1)) (L.length * 4)|unsupported "internal:set-table-without-room"
   let es':=order.filterMap (((L.map (·.2)).toArray)[·]?)
   if es'.size != ((L.map (·.2)).toArray).size then unsupported "internal:set-table-lost-an-element"
   pure (es',t)) (fun r s'=>az (ar prog w) A (storeSet a r.1 r.2) Q E s') E s:=by
  rw[er];simp only;rw[e6];have:((L'.map (·.2)).toArray.size != ((L.map (·.2)).toArray).size)=false:=by simp[hlen]
  rw[this];simp only[b8,if_false];refine a9 ?_;refine Ra (t':=t') ho (by lia) fun h' hs hg=>h h' L' t' hs hg g' (by rw[e2,hlen];lia) ?_ ⟨e4.trans hp,e3⟩ e7;rw[e2,hlen];refine⟨?_,s3⟩;rcases s4 with s4|s4
  ·exact .inl s4
  ·right;lia
 exact ah main
end
section
variable{prog:aE}{w:ay}{U:ae->List Int->Prop}{A:aT}{E:aa->af->Prop}{s:af}
theorem jj.len{h:aw}{a:ae}{bM:LL}(x:jj prog w U h a bM):∃(L:List lM) (ep:Nat) (t:bP),h.get? a=some (jw L ep t)/\L.length=bM.length:=by obtain⟨L,ep,t,f,ho,_,_,_,_,_,hp,_⟩:=x;exact⟨L,ep,t,ho,by have:=hp.length_eq;simpa using this⟩
theorem afB{m:Nat}(h:∃k,m + 1=2 ^ k)(hl:m < 16380):m < 8192:=by
 obtain⟨k,hk⟩:=h;have:k<=13:=Nat.le_of_not_lt fun z=>by
  have:=Nat.pow_le_pow_right (show 0 < 2 by decide) z;rw[<- hk]at this;have e:2 ^ (13 + 1)=16384:=by decide
  lia
 have:=Nat.pow_le_pow_right (show 0 < 2 by decide) this;rw[<- hk]at this;have e:2 ^ 13=8192:=by decide
 lia
theorem Bl{m:Nat}(n:Nat)(h:∃k,m + 1=2 ^ k)(lo:2 ^ n < 2 * (m + 1))(hi:m + 1 < 2 ^ (n + 1)):m + 1=2 ^ n:=by obtain⟨k,hk⟩:=h;rw[hk]at lo hi ⊢;have h1:n < k + 1:=(Nat.pow_lt_pow_iff_right (a:=2) (by decide)).mp (by rw[dS 2 k,Nat.mul_comm];exact lo);have h2:k < n + 1:=(Nat.pow_lt_pow_iff_right (a:=2) (by decide)).mp hi;rw[show k=n by lia]
noncomputable def Mk(h:aw)(a:ae):Prop:=∀L ep t,h.get? a=some (jw L ep t)->t.mask=7∨t.mask=31∨t.mask=127∨t.mask=511∨t.mask=2047∨t.mask=8191
theorem Mk.of{h:aw}{a:ae}{L:List lM}{ep:Nat}{t:bP}(ho:h.get? a=some (jw L ep t))(m:t.mask=7∨t.mask=31∨t.mask=127∨t.mask=511∨t.mask=2047∨t.mask=8191):Mk h a:=fun L2 ep2 t2 h2=>by rw[ho]at h2;have:=congrArg Obj.data (dk h2);have e:Data.set (L.map (·.2)).toArray ep t=.set (L2.map (·.2)).toArray ep2 t2:=this;injection e with _ _ e;rw[<- e];exact m
theorem Vc{q:Bool}{a b:ae}{ks:List Int}{bM:LL}{Q:Bool->af->Prop}(hS:jj prog w U s.heap a bM)(hq:q=true->Mk s.heap a)(hn:bM.length < if q then 4900 else 2040)(hb:de (cw prog w) s.heap ks b)(hU:U b ks)(hu:A.units < b9)
  (h:∀h' added,dP a s.heap h'->jj prog w U h' a (if ks∈bM then bM else ks::bM)->(q=true->Mk h' a)->Q added { s with heap:=h' }):az (ar prog w) A (setAddHashed a (.ref b) (hK prog w ks)) Q E s:=by
 have hS0:=hS;obtain⟨L,ep,t,f,ho,g,room,mb,⟨pl,ld⟩,hf,hp,nd,uu⟩:=hS;have hlen:L.length=bM.length:=by have:=hp.length_eq;simpa using this
 have h7:=g.m7;have hl:L.length<=t.mask:=by lia
 have aoY:t.mask < 8192:=mb;have hn4:bM.length < 4900:=by cases q <;> simp at hn <;> lia
 have self:∀added,(ks∈bM)->Q added s:=fun added hm=>by have:=h s.heap added (dP.refl a s.heap) (by rw[if_pos hm];exact hS0) hq;cases s;exact this
 unfold setAddHashed;refine gm ?_;unfold setAddHashedIn;refine ah (ki ho rfl (g.fits hl) ?_);have hby:byScan (.ref b) (L.map (·.2)).toArray=false:=by simp[byScan,aa.scannable]
 simp only[hby,b8,if_false];obtain⟨e0,he0,hE0⟩:=UL g.rise (by rw[g.sz];exact hl);obtain⟨k,hk⟩:=g.pw;obtain⟨sE,_,hsE,pE⟩:=afx hk (hK prog w ks) 0 he0;refine ah ?_;unfold setSearch;refine Va (f:=fun e=>f e.2) (Q:=fun r s'=>az (ar prog w) A (match r with
  | .free slot wasDummy=>_
  |_=>_) Q E s') ho g hl hf hb hu (fun hm=>?_) (fun j hj hnl hr hno=>?_) 100000 0 sE none (eD _) (by lia) (by unfold turns;lia) (by rw[pE];exact hE0) rfl (fun n hn=>absurd hn (by lia))
 ·obtain⟨e,he,q⟩:=hm;exact a9 (self false (hp.mem_iff.mp (dQ.mpr ⟨e,he,q⟩)))
 ·have hnk:¬ks∈bM:=fun z=>by obtain⟨e,he,q⟩:=dQ.mp (hp.mem_iff.mpr z);exact hno e he q
  obtain⟨p1,g'⟩:=g.put (h:=hK prog w ks) (x:=.ref b) hj hnl hr;simp only;refine ah (ki ho rfl (g.fits hl) ?_);have epl:(t.put j).1.plain=true:=by rw[Lq t g.nd];exact pl
  have emk:(t.put j).1.mask=t.mask:=by rw[Lq t g.nd]
  have eld:(t.put j).1.led=!Fd w:=by rw[Lq t g.nd];exact ld
  generalize hpt:t.put j=tp at p1 g' epl emk eld;obtain⟨t',p⟩:=tp;simp only at p1 g' epl emk eld ⊢;simp only[epl,if_true];refine ah (QZ hb ?_);simp only[if_true];have ein:insertAt (L.map (·.2)).toArray p (hK prog w ks,aa.ref b)=((L.take p++(j,hK prog w ks,aa.ref b)::L.drop p).map (·.2)).toArray:=by rw[zp _ _ (by simpa using p1)];simp[u4,u5]
  rw[ein];generalize hL':L.take p++(j,hK prog w ks,aa.ref b)::L.drop p=L' at g' ⊢;have hlen':L'.length=L.length + 1:=by rw[<- hL'];simp;lia
  have acA:L'.Perm ((j,hK prog w ks,aa.ref b)::L):=by rw[<- hL'];refine(List.perm_middle).trans ?_;rw[mh]
  have hfj:∀e∈L,e.2≠(hK prog w ks,aa.ref b):=fun e he z=>by obtain⟨b',h1,h2,h3⟩:=hf e he;rw[z]at h1;cases h1;exact hno e he (h2.inj hb)
  let f':Int×aa->List Int:=fun x=>if x=(hK prog w ks,aa.ref b) then ks else f x
  have keys:∀{h':aw},dP a s.heap h'->∀e∈L',aiZ prog w h' e (f' e.2):=fun {h'} hs e he=>by
   rcases bq.mp (acA.mem_iff.mp he) with z|z
   ·subst z;exact⟨b,rfl,by simp only[f',if_true];exact Gm ho hs hb,by simp only[f',if_true]⟩
   ·obtain⟨b',h1,h2,h3⟩:=hf e z;have:f' e.2=f e.2:=by simp only[f'];rw[if_neg (hfj e z)]
    exact⟨b',h1,by rw[this];exact Gm ho hs h2,by rw[this];exact h3⟩
  have ahi:(L'.map fun e=>f' e.2).Perm (ks::bM):=by
   refine(acA.map _).trans ?_;simp only[c6,f',if_true];refine iN.cons _ ?_;have:(L.map fun e=>if e.2=(hK prog w ks,aa.ref b) then ks else f e.2)=L.map fun e=>f e.2:=vi fun e he=>by rw[if_neg (hfj e he)]
   rw[this];exact hp
  have nd':(ks::bM).Nodup:=lI.mpr ⟨hnk,nd⟩;have uu':∀e∈L',∀c,e.2.2=.ref c->U c (f' e.2):=fun e he c ec=>by
   rcases bq.mp (acA.mem_iff.mp he) with z|z
   ·subst z;cases ec;simp only[f',if_true];exact hU
   ·rw[show f' e.2=f e.2 by simp only[f'];rw[if_neg (hfj e z)]];exact uu e z c ec
  refine ah (Ra (t':=t') ho (by lia) fun h1 hs1 ho1=>?_);have hfill:t'.fill=L'.length:=by unfold fill;rw[g'.nd,g'.sz];simp
  have esz:(L.map (·.2)).toArray.size + 1=L'.length:=by simp[hlen']
  cases htf:t'.tooFull with
  |false =>
   simp only[qs,lS,b8,if_false];have hroom:L'.length * 5 < t'.mask * 3:=by unfold tooFull at htf;rw[hfill]at htf;simpa using htf
   refine a9 (h h1 true hs1 ?_ ?_)
   ·rw[if_neg hnk];exact⟨L',ep + 1,t',f',ho1,g',hroom,by rw[emk];exact mb,⟨epl,eld⟩,keys hs1,ahi,nd',uu'⟩
   ·exact fun z=>.of ho1 (by rw[emk];exact hq z _ _ _ ho)
  |true =>
   simp only[qs,pS,if_true];rw[esz];refine ah (acz (s:={ s with heap:=h1 }) ho1 g' (by rw[emk];lia) (by lia) (by lia) epl fun h2 L2 t2 hs2 ho2 g2 r2 m2 p2 pm2=>?_);have hv:∀e∈L2,∃e1∈L',e1.2=e.2:=fun e he=>by have:e.2∈L'.map (·.2):=pm2.mem_iff.mp (dQ.mpr ⟨e,he,rfl⟩);obtain⟨e1,h1,h2⟩:=dQ.mp this;exact⟨e1,h1,h2⟩
   have hl2:L2.length=L'.length:=by have:=pm2.length_eq;simpa using this
   have full:t'.mask * 3<=L'.length * 5:=by unfold tooFull at htf;rw[hfill]at htf;simpa using htf
   rw[emk]at full;obtain⟨m2,m3⟩:=m2;rw[hl2]at m2 m3;have mk:q=true->t2.mask=7∨t2.mask=31∨t2.mask=127∨t2.mask=511∨t2.mask=2047∨t2.mask=8191:=fun z=>by
    rcases hq z _ _ _ ho with e|e|e|e|e|e <;> rw[e]at full room
    ·have:=Bl 5 g2.pw (by lia) (by lia);lia
    ·have:=Bl 7 g2.pw (by lia) (by lia);lia
    ·have:=Bl 9 g2.pw (by lia) (by lia);lia
    ·have:=Bl 11 g2.pw (by lia) (by lia);lia
    ·have:=Bl 13 g2.pw (by lia) (by lia);lia
    ·lia
   refine a9 (h h2 true (hs1.trans hs2) ?_ fun z=>.of ho2 (mk z));rw[if_neg hnk];refine⟨L2,ep + 1 + 1,t2,f',ho2,g2,r2,?_,⟨p2.1,p2.2.trans eld⟩,fun e he=>?_,?_,nd',fun e he c ec=>let ⟨e1,h1,q⟩:=hv e he;by rw[<- q];exact uu' e1 h1 c (by rw[q];exact ec)⟩
   ·cases q with
    |true=>have:=mk rfl;lia
    |false=>simp only[b8,if_false]at hn;exact afB g2.pw (by lia)
   ·obtain⟨e1,he1,q⟩:=hv e he;obtain⟨b',k1,k2,k3⟩:=keys (hs1.trans hs2) e1 he1;rw[q]at k1 k2 k3;exact⟨b',k1,k2,k3⟩
   ·have:=(pm2.map f')
    rw[i_,i_]at this;exact this.trans ahi
theorem Zb{a b:ae}{ks:List Int}{bM:LL}{Q:Bool->af->Prop}(hS:jj prog w U s.heap a bM)(hm:Mk s.heap a)(hn:bM.length < 4900)(hb:de (cw prog w) s.heap ks b)(hU:U b ks)(hu:A.units < b9)
  (h:∀h' added tk,dP a s.heap h'->jj prog w U h' a (if ks∈bM then bM else ks::bM)->Mk h' a->Q added { s with heap:=h',toks:=s.toks + tk }):az (ar prog w) A (setAdd a (.ref b)) Q E s:=by
 unfold setAdd;refine gm (ah (wpAny_pyHash_tuple hu hb ?_));exact Vc (q:=true) (s:={ s with toks:=s.toks + (ks.length + 1) }) hS (fun _=>hm) hn hb hU hu fun h' added hs hS' hm'=>h h' added _ hs hS' (hm' rfl)
end
noncomputable def ins(acc:LL)(k:List Int):LL:=if k∈acc then acc else k::acc
noncomputable def cZ(l:LL):LL:=l.foldl ins []
theorem afC(acc:LL)(k:List Int):(ins acc k).length<=acc.length + 1:=by unfold ins;split <;> simp
theorem zX(l:LL):(cZ l).length<=l.length:=by
 unfold cZ;have:∀(l acc:LL),(l.foldl ins acc).length<=acc.length + l.length:=by
  intro l
  induction l with
  |nil=>intro acc;simp
  |cons a l ih=>intro acc;rw[j9];have:=ih (ins acc a);have:=afC acc a;simp only[bu];lia
 simpa using this l []
theorem aja(acc:LL)(k:List Int):acc.length<=(ins acc k).length:=by unfold ins;split <;> simp
theorem Dz(l:LL)(k:List Int):cZ (l++[k])=ins (cZ l) k:=by unfold cZ;rw[List.foldl_append];rfl
theorem JZ(l:LL):∀m,(cZ l).length<=(cZ (l++m)).length
 | []=>by simp
 |x::m=>by have:=JZ (l++[x]) m;rw[h_,List.singleton_append]at this;exact ck (by rw[Dz];exact aja _ _) this
section
variable{prog:aE}{w:ay}{U:ae->List Int->Prop}{A:aT}{R:Result->af->Prop}{I:ae}{fp wr:List ae}{G:Array kB->Array kB->Prop}{n:Nat}{P:Nat->aa->Prop}{St:Nat->af->Prop}
theorem jj.moved{h h':aw}{a:ae}{bM:LL}(x:jj prog w U h a bM)(k:∀b o,(b=a∨∃ks,de (cw prog w) h ks b)->h.get? b=some o->h'.get? b=some o):jj prog w U h' a bM:=by obtain⟨L,ep,t,f,ho,g,room,mb,pl,hf,hp,nd⟩:=x;refine⟨L,ep,t,f,k _ _ (.inl rfl) ho,g,room,mb,pl,fun e he=>?_,hp,nd⟩;obtain⟨b,h1,h2,h3⟩:=hf e he;have h2':=h2;obtain⟨o,items,m,q1,q2,q3,q4⟩:=h2;exact⟨b,h1,⟨o,items,m,k _ _ (.inr ⟨_,h2'⟩) q1,q2,q3,q4⟩,h3⟩
theorem Mk.moved{h h':aw}{a:ae}{bM:LL}(x:jj prog w U h a bM)(m:Mk h a)(k:∀o,h.get? a=some o->h'.get? a=some o):Mk h' a:=by obtain⟨L,ep,t,ho,_⟩:=x.len;exact .of (k _ ho) (m _ _ _ ho)
theorem acB{h:aw}{b c:ae}{ks:List Int}{o:Obj}(hk:de (cw prog w) h ks b)(hc:h.get? c=some o)(hd:∀xs m,o.data≠.seq xs m):b≠c:=fun z=>by subst z;obtain⟨o',items,m,q1,q2,q3,q4⟩:=hk;rw[hc]at q1;cases q1;exact hd _ _ q3
theorem ahj(W:WalksS prog w A.in1 I fp wr G n P St)(D:ae)(hDf:D∉fp)(hu:A.in1.units < b9)(ks:Nat->List Int)(hn:(cZ ((b7 n).map ks)).length < 4900)(hwt:∀i s,St i s->∀b∈wr,∀o,s.heap.get? b=some o->∀xs m,o.data≠.seq xs m) :
  ∀(k i:Nat) (s:af),n - i=k->i<=n->St i s->(∀j v,P j v->∃b,v=.ref b/\b∉wr/\de (cw prog w) s.heap (ks j) b/\U b (ks j)) ->
   jj prog w U s.heap D (cZ ((b7 i).map ks))->Mk s.heap D ->
   (∀s',Moved (D::wr) G s s'->jj prog w U s'.heap D (cZ ((b7 n).map ks))->R (.ok (.ret .none)) s') ->
   fg (ar prog w) A (.builtin "set.update.loop" ⟨[.ref D,.ref I],[]⟩) R s:=by
 have hDw:D∉wr:=fun h=>hDf (W.sub _ h);have sub:∀b∈wr,b∈D::wr:=fun b hb=>el _ hb;intro k
 induction k with
 |zero =>
  intro i s hk hi st hP hS hMk hR;have hw:=hwt i s st;obtain rfl:i=n:=by lia
  refine ja PyProof.Rows.F.entry_set_update_loop ?_;rw[km vj _];show az _ A.in1 (fy (.ref I) >>= _) _ _ s;refine ah (W.done s _ _ st fun s1 hm=>?_);show az _ A.in1 (ret aa.none) _ _ s1;refine a9 (hR s1 (hm.mono sub) (hS.moved fun b o hb e=>hm.heap b o (fun hbw=>?_) e));rcases hb with rfl|⟨k',hk'⟩
  ·exact hDw hbw
  ·exact acB hk' e (hw b hbw o e) rfl
 |succ k ih =>
  intro i s hk hi st hP hS hMk hR;have hw:=hwt i s st;refine ja PyProof.Rows.F.entry_set_update_loop ?_;rw[km vj _];show az _ A.in1 (fy (.ref I) >>= _) _ _ s;refine ah (W.item i s _ _ (by lia) st fun v s1 hv st1 hm=>?_);have nw:∀b o,(b=D∨∃k',de (cw prog w) s.heap k' b)->s.heap.get? b=some o->b∉wr:=fun b o hb e hbw=>by
   rcases hb with rfl|⟨k',hk'⟩
   ·exact hDw hbw
   ·exact acB hk' e (hw b hbw o e) rfl
  have key1:∀{b:ae}{k':List Int},de (cw prog w) s.heap k' b->de (cw prog w) s1.heap k' b:=fun {b k'} hk'=>by have hk0:=hk';obtain⟨o,items,m,q1,q2,q3,q4⟩:=hk';exact⟨o,items,m,hm.heap b o (nw b o (.inr ⟨_,hk0⟩) q1) q1,q2,q3,q4⟩
  have hS1:jj prog w U s1.heap D (cZ ((b7 i).map ks)):=hS.moved fun b o hb e=>hm.heap b o (nw b o hb e) e;obtain⟨b,rfl,hbw,hbk,hbU⟩:=hP i v hv;show az _ A.in1 (eL [aa.ref b] (setAdd D (.ref b)) >>= _) _ _ s1;have hlen:(cZ ((b7 i).map ks)).length < 4900:=by
   have e:b7 n=b7 i++(b7 (n - i)).map (i + ·):=by rw[<- List.range_add];congr 1;lia
   rw[e,qh]at hn;exact j7 (JZ _ _) hn
  refine ah (gm (Zb hS1 (hMk.moved hS fun o e=>hm.heap D o hDw e) hlen (key1 hbk) hbU hu fun h2 added tk hs2 hS2 anQ=>?_));have hS2':jj prog w U h2 D (cZ ((b7 (i + 1)).map ks)):=by rw[List.range_succ,qh,List.map_singleton,Dz];exact hS2
  obtain⟨L1,ep1,t1,ho1,_⟩:=hS1.len;refine a9 ⟨ko vj _,ih (i + 1) _ (by lia) (by lia) (W.frame _ s1 _ _ st1 (kS _ _) fun b hb o e=>?_) (fun j v hv=>?_) hS2' anQ fun s3 hm3 hS3=>?_⟩
  ·rw[hs2.2 b (fun z:b=D=>hDf (z▸hb))];exact e
  ·obtain⟨b,rfl,q1,q2,q3⟩:=hP j v hv;exact⟨b,rfl,q1,Gm ho1 hs2 (key1 q2),q3⟩
  ·refine hR s3 (Moved.trans W.gtrans ((hm.mono sub).then_heap (kS _ _) fun b o hb e=>?_) hm3) hS3;rw[hs2.2 b (fun z:b=D=>hb (by rw[z];exact eR))];exact e
end
section
variable{prog:aE}{w:ay}{A:aT}{E:aa->af->Prop}{s:af}
noncomputable abbrev iU(led:Bool):Obj:={ cls:=.type "set",dict:=none,data:=.set #[] 0 (.fresh 0 0 led) }
theorem acC(v:aa){Q₁:aa->af->Prop}(h:Q₁ (.ref s.heap.objs.size) { s with heap:=s.heap.push (iU (!Fd w)) }) :
  fg (ar prog w) A (.call (.builtin "set.__new__") ⟨[.type "set",v],[]⟩) (wants Q₁ E) s:=by
 refine codeAny_of_tree ?_;show az _ A.in1 (do { checkBuiltinCall "set.__new__" ⟨[.type "set",v],[]⟩;again (.builtin "set.__new__" ⟨[.type "set",v],[]⟩) }) _ _ s;refine ah (qA (F.newCall_set_1 v) (a9 ⟨ko F.plain_set_new _,ja F.entry_set_new ?_⟩));rw[km F.plain_set_new _];have e:=sub_set_self;obtain⟨hp,g,d,tk,os⟩:=s;unfold Builtin.«set.__new__» cS.Frozenset.newClass;dsimp only
 wp_walk
 refine nV (a9 ?_);simp only[newObj];exact ah (wpAny_alloc (a9 (a9 h)))
theorem Rb{v:aa}{Q:aa->af->Prop}
  (hup:az (ar prog w) A.in1.in1 (mv "set.__init__" s.heap.objs.size v) (fun _ s2=>Q (.ref s.heap.objs.size) s2) E { s with heap:=s.heap.push (iU (!Fd w)) }) :
  az (ar prog w) A (call (.type "set") [v]) Q E s:=by
 obtain⟨cc,tl,hmro⟩:=kq.mro;have hmade:=kq.made;have hsub:=kq.sub;have nt:=kq.notType;have cc:=kq.canCreate;have tc:=F.typeCall_set_1 v;refine kH (codeAny_of_tree ?_);show az _ _ (callAny (.type "set") _) _ _ _;refine a9 ⟨Code.quiet_builtin _ (by decide+kernel),ja F.entry_type_call ?_⟩;rw[aT.under_plain (weight_type_call_type "set" [v] []) rfl]
 repeat (any_goals (first|assumption|wp_step))
 refine i4 (acC v (E:=E) (Q₁:=fun obj s1=>obj=.ref s.heap.objs.size/\s1={ s with heap:=s.heap.push (iU (!Fd w)) }) ⟨rfl,rfl⟩) fun r s1 hr=>?_;cases r with
 |error e=>exact hr
 |ok fl =>
  cases fl with
  |ret obj =>
   obtain⟨e1,e2⟩:=hr;subst e1 e2;have hget:(s.heap.push (iU (!Fd w))).get? s.heap.objs.size=some (iU (!Fd w)):=cK _ rfl;have hty:af.TypeIs { s with heap:=s.heap.push (iU (!Fd w)) } (.ref s.heap.objs.size) "set":=⟨_,hget,rfl⟩
   have li:=kq.init.lookup;have bi:=kq.init.bind (.ref s.heap.objs.size)
   repeat (any_goals (first|assumption|wp_step))
   refine i4 (codeAny_call_builtin (R:=wants (fun r s2=>r=.none/\Q (.ref s.heap.objs.size) s2) E) kq.init.plain F.entry_set_init (check_set_init_1 hty ?_)) fun r2 s2 hr2=>?_
   ·unfold Builtin.«set.__init__» noKeywords;have hu:=hup;generalize hU:mv=U at hu ⊢
    wp_walk
    exact eK hu (fun _ s2 hq=>a9 ⟨rfl,hq⟩) fun _ _ x=>x
   ·cases r2 with
    |error e=>exact hr2
    |ok fl2 =>
     cases fl2 with
     |ret r =>
      obtain⟨rfl,hq⟩:=hr2
      repeat (any_goals (first|assumption|wp_step))
     |_=>exact hr2.elim
  |_=>exact hr.elim
end
namespace F
theorem sub_tuple_set:isSubtype (.type "tuple") (.type "set")=pure false:=by rw[mw];kernel_rfl
theorem sub_tuple_frozenset:isSubtype (.type "tuple") (.type "frozenset")=pure false:=by rw[mw];kernel_rfl
end F
section
variable{prog:aE}{w:ay}{U:ae->List Int->Prop}{A:aT}{E:aa->af->Prop}{s:af}
theorem afD{h:aw}{D:ae}(ho:h.get? D=some (iU (!Fd w))):jj prog w U h D []:=by
 have no:∀(e:lM) (p:Prop),e∈([]:List lM)->p:=fun e p he=>by cases he
 exact⟨[],0,.fresh 0 0 (!Fd w),fun _=>[],ho,⟨⟨3,rfl⟩,bj 7,rfl,rfl,wt.nil,fun e he=>no e _ he,fun e he=>no e _ he⟩,(show 0 < 21 by decide),(show(7:Nat) < 8192 by decide),⟨rfl,rfl⟩,fun e he=>no e _ he,iN.refl _,List.nodup_nil,fun e he=>no e _ he⟩
theorem acD{h:aw}{D:ae}(ho:h.get? D=some (iU (!Fd w))):Mk h D:=.of (L:=[]) (ep:=0) (t:=.fresh 0 0 (!Fd w)) ho (.inl rfl)
theorem Rc{l D:ae}{items:Array aa}{bM:LL}{Q:Unit->af->Prop}(hh:A.handled=none)(hu:A.units + 2 < b9)(hl:s.heap.IsList l items)(hS:jj prog w U s.heap D [])(hMk:Mk s.heap D)(hlD:l≠D)(hz:(cZ bM).length < 4900)
  (hk:∀(i:Nat) v,items[i]?=some v->∃b,v=.ref b/\de (cw prog w) s.heap (bM.getD i []) b/\U b (bM.getD i [])) (hlen:bM.length=items.size)
  (h:∀h' tk,(∀b o,b≠D->s.heap.get? b=some o->h'.get? b=some o)->jj prog w U h' D (cZ bM)->Q () { s with heap:=h',toks:=tk }) :
  az (ar prog w) A (mv "set.__init__" D (.ref l)) Q E s:=by
 have hl0:=hl;have er:(b7 items.size).map (fun i=>bM.getD i [])=bM:=by
  rw[<- hlen];apply kT
  ·simp
  ·intro i h1 h2;simp at h1;simp[nX,h1]
 obtain⟨ol,hol,hcl,nl,hdl⟩:=hl;obtain⟨oc,od,odt,osl⟩:=ol;simp only at hcl hdl;subst hcl hdl;have e1:=F.sub_list_set;have e2:=F.sub_list_frozenset;have e3:(aa.type "list" == aa.type "dict")=false:=by decide
 unfold mv;generalize hPI:lr=PI
 wp_walk
 subst hPI;refine o3 hl0 ?_;refine ah (vk ?_);have hlt:l < s.heap.objs.size:=bE hol;obtain⟨L0,ep0,t0,hD0,_⟩:=hS.len;have Rf:D < s.heap.objs.size:=bE hD0;have push:∀b o,s.heap.get? b=some o->(s.heap.push { cls:=.type "list_iterator",data:=.fields #[.ref l,.int 0 0] }).get? b=some o:=fun b o e=>cm _ e;have W:=(kD.list (prog:=prog) (w:=w) (A:=A.in1) (by simpa using hh) s.heap.objs.size l (cq hlt) items).toS;refine ahj W D (fun z=>?_) (by show A.units + 1 < b9;lia) (fun i=>bM.getD i []) (by rw[er];exact hz) (fun i s' st b hb o e xs m=>?_) (items.size - 0) 0 _ rfl (eD _) ⟨⟨_,cK _ rfl,rfl,rfl⟩,hl0.push _⟩ (fun j v hv=>?_) (hS.moved fun b o _ e=>push b o e) (hMk.moved hS fun o e=>push D o e) fun s' hm hS'=>?_
 ·simp only[bq,dm,or_false]at z;rcases z with z|z
  ·exact absurd z (cq Rf)
  ·exact hlD z.symm
 ·obtain rfl:b=s.heap.objs.size:=by simpa using hb
  obtain⟨⟨o',h1,h2,h3⟩,_⟩:=st;rw[e]at h1;cases h1;rw[h3];intro z;cases z
 ·obtain⟨b,rfl,hb,hU⟩:=hk j v hv;have hb0:=hb;obtain⟨o,its,m,q1,q2,q3,q4⟩:=hb;refine⟨b,rfl,?_,⟨o,its,m,push _ _ q1,q2,q3,q4⟩,hU⟩;simp only[bq,dm,or_false];exact cq (bE q1)
 ·obtain⟨h',g',d',tk',os'⟩:=s';have eg:g'=s.gens:=hm.gens;have ed:d'=s.drawn:=hm.drawn;have eo:os'=s.os:=hm.os;subst eg ed eo;rw[er]at hS';refine a9 (h h' tk' (fun b o hb e=>hm.heap b o ?_ (push b o e)) hS');simp only[bq,dm,or_false,not_or];exact⟨hb,cq (bE e)⟩
theorem Ly{l D:ae}{items:Array aa}{bM:LL}{Q:Unit->af->Prop}(hh:A.handled=none)(hu:A.units + 2 < b9)(hl:s.heap.IsTuple l items)(hS:jj prog w U s.heap D [])(hMk:Mk s.heap D)(hlD:l≠D)(hz:(cZ bM).length < 4900)
  (hk:∀(i:Nat) v,items[i]?=some v->∃b,v=.ref b/\de (cw prog w) s.heap (bM.getD i []) b/\U b (bM.getD i [])) (hlen:bM.length=items.size)
  (h:∀h' tk,(∀b o,b≠D->s.heap.get? b=some o->h'.get? b=some o)->jj prog w U h' D (cZ bM)->Q () { s with heap:=h',toks:=tk }) :
  az (ar prog w) A (mv "set.__init__" D (.ref l)) Q E s:=by
 have hl0:=hl;have er:(b7 items.size).map (fun i=>bM.getD i [])=bM:=by
  rw[<- hlen];apply kT
  ·simp
  ·intro i h1 h2;simp at h1;simp[nX,h1]
 obtain⟨ol,hol,hcl,nl,hdl⟩:=hl;obtain⟨oc,od,odt,osl⟩:=ol;simp only at hcl hdl;subst hcl hdl;have e1:=F.sub_tuple_set;have e2:=F.sub_tuple_frozenset;have e3:(aa.type "tuple" == aa.type "dict")=false:=by decide
 unfold mv;generalize hPI:lr=PI
 wp_walk
 subst hPI;refine o6 hl0 ?_;refine ah (vk ?_);have hlt:l < s.heap.objs.size:=bE hol;obtain⟨L0,ep0,t0,hD0,_⟩:=hS.len;have Rf:D < s.heap.objs.size:=bE hD0;have push:∀b o,s.heap.get? b=some o->(s.heap.push { cls:=.type "tuple_iterator",data:=.fields #[.ref l,.int 0 0] }).get? b=some o:=fun b o e=>cm _ e;have W:=(kD.tuple (prog:=prog) (w:=w) (A:=A.in1) (by simpa using hh) s.heap.objs.size l (cq hlt) items).toS;refine ahj W D (fun z=>?_) (by show A.units + 1 < b9;lia) (fun i=>bM.getD i []) (by rw[er];exact hz) (fun i s' st b hb o e xs m=>?_) (items.size - 0) 0 _ rfl (eD _) ⟨⟨_,cK _ rfl,rfl,rfl⟩,hl0.push _⟩ (fun j v hv=>?_) (hS.moved fun b o _ e=>push b o e) (hMk.moved hS fun o e=>push D o e) fun s' hm hS'=>?_
 ·simp only[bq,dm,or_false]at z;rcases z with z|z
  ·exact absurd z (cq Rf)
  ·exact hlD z.symm
 ·obtain rfl:b=s.heap.objs.size:=by simpa using hb
  obtain⟨⟨o',h1,h2,h3⟩,_⟩:=st;rw[e]at h1;cases h1;rw[h3];intro z;cases z
 ·obtain⟨b,rfl,hb,hU⟩:=hk j v hv;have hb0:=hb;obtain⟨o,its,m,q1,q2,q3,q4⟩:=hb;refine⟨b,rfl,?_,⟨o,its,m,push _ _ q1,q2,q3,q4⟩,hU⟩;simp only[bq,dm,or_false];exact cq (bE q1)
 ·obtain⟨h',g',d',tk',os'⟩:=s';have eg:g'=s.gens:=hm.gens;have ed:d'=s.drawn:=hm.drawn;have eo:os'=s.os:=hm.os;subst eg ed eo;rw[er]at hS';refine a9 (h h' tk' (fun b o hb e=>hm.heap b o ?_ (push b o e)) hS');simp only[bq,dm,or_false,not_or];exact⟨hb,cq (bE e)⟩
theorem Lz{l:ae}{items:Array aa}{bM:LL}{Q:aa->af->Prop}(hh:A.handled=none)(hu:A.units + 8 < b9)(hl:s.heap.IsList l items∨s.heap.IsTuple l items)(hz:(cZ bM).length < 4900)
  (hk:∀(i:Nat) v,items[i]?=some v->∃b,v=.ref b/\de (cw prog w) s.heap (bM.getD i []) b/\U b (bM.getD i [])) (hlen:bM.length=items.size)
  (h:∀h' tk,(∀b o,s.heap.get? b=some o->h'.get? b=some o)->jj prog w U h' s.heap.objs.size (cZ bM)->Q (.ref s.heap.objs.size) { s with heap:=h',toks:=tk }) :
  az (ar prog w) A (call (.type "set") [.ref l]) Q E s:=by
 refine Rb ?_;have push:∀b o,s.heap.get? b=some o->(s.heap.push (iU (!Fd w))).get? b=some o:=fun b o e=>cm _ e;have hlt:l < s.heap.objs.size:=by rcases hl with ⟨o,e,_⟩|⟨o,e,_⟩ <;> exact bE e
 have hk':∀(i:Nat) v,items[i]?=some v->∃b,v=.ref b/\de (cw prog w) (s.heap.push (iU (!Fd w))) (bM.getD i []) b/\U b (bM.getD i []):=fun i v hv=>by obtain⟨b,e,⟨o,its,m,q1,q2,q3,q4⟩,hU⟩:=hk i v hv;exact⟨b,e,⟨o,its,m,push _ _ q1,q2,q3,q4⟩,hU⟩
 have hS:jj prog w U (s.heap.push (iU (!Fd w))) s.heap.objs.size []:=afD (cK _ rfl);have jk:∀h' tk,(∀b o,b≠s.heap.objs.size->(s.heap.push (iU (!Fd w))).get? b=some o->h'.get? b=some o)->jj prog w U h' s.heap.objs.size (cZ bM)->Q (.ref s.heap.objs.size) { s with heap:=h',toks:=tk }:=fun h' tk k hS' =>
  h h' tk (fun b o e=>k b o (cq (bE e)) (push b o e)) hS'
 rcases hl with hl|hl
 ·exact Rc (s:={ s with heap:=s.heap.push (iU (!Fd w)) }) (by simpa using hh) (by show A.units + 1 + 1 + 2 < b9;lia) (hl.push _) hS (acD (w:=w) (cK _ rfl)) (cq hlt) hz hk' hlen jk
 ·exact Ly (s:={ s with heap:=s.heap.push (iU (!Fd w)) }) (by simpa using hh) (by show A.units + 1 + 1 + 2 < b9;lia) (hl.push _) hS (acD (w:=w) (cK _ rfl)) (cq hlt) hz hk' hlen jk
end
end Tb
namespace Tb
open PySem PySem.Spec PySem.SetTable
theorem Gn{α:Type}:∀{l:List α}{n:Nat}(h:n < l.length),(l[n]::l.eraseIdx n).Perm l
 |a::l,0,_=>by simp
 |a::l,n + 1,h=>by have ih:=Gn (l:=l) (n:=n) (by simpa using h);simp only[List.getElem_cons_succ,List.eraseIdx_cons_succ];exact(iN.swap ..).trans (ih.cons a)
theorem afE{α:Type}(next:Nat->Nat):∀(fuel k:Nat) (left:List α) (out:Array α),left.length<=fuel->(vl next fuel k left out).toList.Perm (out.toList++left):=by
 intro fuel
 induction fuel with
 |zero =>
  intro k left out h;obtain rfl:left=[]:=n4.mp (by lia);unfold vl;simp
 |succ fuel ih =>
  intro k left out h;unfold vl;cases left with
  |nil=>simp
  |cons a l =>
   have hlt:next k % (a::l).length < (a::l).length:=l_ _ (by simp);rw[di hlt];simp only;have hlen:((a::l).eraseIdx (next k % (a::l).length)).length<=fuel:=by rw[List.length_eraseIdx_of_lt hlt];simp only[bu]at h ⊢;lia
   refine(ih (k + 1) _ _ hlen).trans ?_;rw[p_,h_];exact n5 _ (Gn hlt)
theorem Zc{α:Type}(next:Nat->Nat)(xs:Array α):(vn next xs).toList.Perm xs.toList:=by unfold vn;simpa using afE next xs.size 0 xs.toList #[] (by simp)
noncomputable def tV(w:ay)(D:ae)(ep:Nat)(L:List lM):Array (Int×aa):=if Fd w=true then vn (w.params.setOrder D ep) (L.map (·.2)).toArray else (L.map (·.2)).toArray
theorem Ka(w:ay)(D:ae)(ep:Nat)(L:List lM):(tV w D ep L).toList.Perm (L.map (·.2)):=by
 unfold tV;split
 ·simpa using Zc (w.params.setOrder D ep) (L.map (·.2)).toArray
 ·exact .refl _
theorem yP(w:ay)(D:ae)(ep:Nat)(L:List lM):(tV w D ep L).size=L.length:=by have:=(Ka w D ep L).length_eq;simpa using this
structure Lies (t:bP)(L:List lM):Prop where
 pl:t.place=(L.map (·.1)).toArray
 so:(L.map (·.1)).Pairwise (· < ·)
 fl:t.fill<=t.mask
theorem Lies.sz{t:bP}{L:List lM}(g:Lies t L):t.place.size=L.length:=by rw[g.pl];simp
theorem Lies.at{t:bP}{L:List lM}(g:Lies t L){i:Nat}(hi:i < L.length):t.place.getD i 0=L[i].1:=by rw[g.pl];simp[ie,hi]
theorem Lies.rise{t:bP}{L:List lM}(g:Lies t L):Gj t.place:=by intro a b hab hb;rw[g.sz]at hb;rw[g.at (show a < L.length by lia),g.at hb];have:=(kR.mp g.so) a b (by simpa using(show a < L.length by lia)) (by simpa using hb) hab;simpa using this
theorem Lies.fits{t:bP}{L:List lM}(g:Lies t L)(hl:L.length<=t.mask):t.fits ((L.map (·.2)).toArray).size=true:=by unfold i9.fits;have h1:=g.fl;simp[g.sz,h1]
theorem Good.lies{t:bP}{L:List lM}(g:Good t L)(hl:L.length<=t.mask):Lies t L:=⟨g.pl,g.so,by unfold fill;rw[g.nd,g.sz];simpa using hl⟩
noncomputable def mq(w:ay)(t:bP)(i:Nat):Nat:=if Fd w=true then 0 else if i=0 then 0 else t.place.getD (i - 1) 0 + 1
section
variable{prog:aE}{w:ay}{A:aT}{E:aa->af->Prop}{s:af}
theorem Xh{D:ae}{L:List lM}{ep:Nat}{t:bP}{i:Nat}{Q:Option (aa×Nat)->af->Prop}(ho:s.heap.get? D=some (jw L ep t))(g:Lies t L)(hl:L.length<=t.mask)(pl:t.plain=true)(ld:t.led=!Fd w)(hi:i<=L.length)
  (h:Q (((tV w D ep L)[i]?).map fun e=>(e.2,mq w t (i + 1))) s):az (ar prog w) A (setNext D (mq w t i) i ep) Q E s:=by
 unfold setNext;refine ah (ki ho rfl (g.fits hl) ?_);unfold setsByText;refine ah (ah (nV (a9 ?_)));cases hb:Fd w with
 |true =>
  have hb':((ar prog w).w.params.followText "set-order")=true:=hb;simp only[hb',if_true,bne_self_eq_false,b8,if_false];unfold setWalk setsByText;refine ah (ah (ki ho rfl (g.fits hl) ?_));refine ah (ah (nV (a9 ?_)));simp only[hb',if_true];refine ah (nV (a9 (a9 ?_)));unfold tV mq at h;simp only[hb,if_true]at h;simp only[mq,hb,if_true];exact h
 |false =>
  have hb':((ar prog w).w.params.followText "set-order")=false:=hb;simp only[hb',b8,if_false];rw[hb]at ld;have hbl:below t.place (mq w t i)=i:=by
   unfold mq;rw[hb];simp only[b8,if_false];obtain⟨b1,b2,b3⟩:=zW g.rise (if i=0 then 0 else t.place.getD (i - 1) 0 + 1);by_cases c:i=0
   ·subst c;simp only[if_true]at b2 ⊢;cases hz:below t.place 0 with
    |zero=>rfl
    |succ n=>have:=b2 0 (by lia);lia
   ·rw[if_neg c]at b1 b2 b3 ⊢;have him:i - 1 < t.place.size:=by rw[g.sz];lia
    have c1:¬below t.place (t.place.getD (i - 1) 0 + 1) < i:=fun z=>by have:=b3 (i - 1) (by lia) him;lia
    have c2:¬i < below t.place (t.place.getD (i - 1) 0 + 1):=fun z=>by have h1:=b2 i z;have h2:=g.rise (i - 1) i (by lia) (by lia);lia
    lia
  have jk:az (ar prog w) A (pure (match ((L.map (·.2)).toArray)[below t.place (mq w t i)]?,t.place[below t.place (mq w t i)]? with
    |some (_,x),some j=>some (x,j + 1)
    |_,_=>none):Sem (Option (aa×Nat))) Q E s:=by
   rw[hbl];refine a9 ?_;unfold tV mq at h;simp only[hb,b8,if_false,Nat.add_eq_zero_iff,vt,and_false,Nat.add_sub_cancel]at h;by_cases c:i < L.length
   ·have e1:((L.map (·.2)).toArray)[i]?=some L[i].2:=by simp[c]
    have e2:t.place[i]?=some (t.place.getD i 0):=QS (by rw[g.sz];exact c);rw[e1]at h ⊢;rw[e2];exact h
   ·have e1:((L.map (·.2)).toArray)[i]?=none:=by simp;lia
    rw[e1]at h ⊢;exact h
  have hdr:∀c:Bool,(!t.plain && c)=false:=fun c=>by rw[pl];rfl
  have hld:∀c:Bool,(!t.led && c)=false:=fun c=>by rw[ld];rfl
  have drop:∀{c:Bool}{x y:Sem (Option (aa×Nat))},c=false->az (ar prog w) A y Q E s->az (ar prog w) A (if c=true then x else y) Q E s:=fun {c x y} hc hy=>by rw[hc];exact hy
  refine drop (hdr _) ?_;refine ah ?_;show az _ _ (if (!t.led && !((L.map (·.2)).toArray).isEmpty)=true then unsupported "set:maker-not-led" else pure ()) _ _ _;rw[hld];exact a9 jk
end
theorem jW:Slot "set_iterator" "__next__" "set_iterator.__next__" :=
 .of (owner:="set_iterator") (n:="__next__") (by rw[vu,vv];kernel_rfl) (by decide+kernel) (by decide+kernel) (by decide+kernel) (by first|exact .inl (by decide+kernel)|exact .inr (by decide+kernel)) (by rw[mw];kernel_rfl)
theorem xV:entryFor table "set_iterator.__next__"=some Builtin.«set_iterator.__next__»:=entryFor_of_tree (by kernel_rfl)
theorem zq(a:aa):mx "set_iterator.__next__" ⟨[a],[]⟩:=by unfold mx;kernel_rfl
theorem LK:entryFor table "set.__iter__"=some Builtin.«frozenset.__iter__»:=entryFor_alias (id':="frozenset.__iter__") (by kernel_rfl) rfl (by decide+kernel) (by kernel_rfl)
theorem zu:Slot "set_iterator" "__iter__" "set_iterator.__iter__" :=
 .of (owner:="set_iterator") (n:="__iter__") (by rw[vu,vv];kernel_rfl) (by decide+kernel) (by decide+kernel) (by decide+kernel) (by first|exact .inl (by decide+kernel)|exact .inr (by decide+kernel)) (by rw[mw];kernel_rfl)
theorem Gp:entryFor table "set_iterator.__iter__"=some Builtin.«dict_keyiterator.__iter__»:=entryFor_alias (id':="dict_keyiterator.__iter__") (by kernel_rfl) rfl (by decide+kernel) (by kernel_rfl)
theorem Iu(a:aa):mx "set_iterator.__iter__" ⟨[a],[]⟩:=by unfold mx;kernel_rfl
noncomputable def jF(w:ay)(t:bP)(D:ae)(n ep i:Nat):Obj:={ cls:=.type "set_iterator",data:=.fields #[cy (mq w t i),cy i,.ref D,cy n,cy ep] }
section
variable{prog:aE}{w:ay}{A:aT}{E:aa->af->Prop}{s:af}{D I:ae}{L:List lM}{ep:Nat}{t:bP}
structure Goes (w:ay)(L:List lM)(t:bP):Prop where
 g:Lies t L
 hl:L.length<=t.mask
 pl:t.plain=true
 ld:t.led=!Fd w
theorem acE{Q:aa->af->Prop}(ho:s.heap.get? D=some (jw L ep t))(g:Goes w L t)(h:Q (.ref s.heap.objs.size) { s with heap:=s.heap.push (jF w t D L.length ep 0) }):az (ar prog w) A (lr (.ref D)) Q E s:=by
 have hT:s.TypeIs (.ref D) "set":=⟨_,ho,rfl⟩
 refine wpAny_pyIter_slot hT F.slot_set_iter (jb F.slot_set_iter hT LK ?_ (F.args_set_iter_1 _));unfold Builtin.«frozenset.__iter__» cS.Frozenset.slot0 cS.Frozenset.sizeOf cS.Frozenset.addrOf;simp only[slotArgs,vw,fS,b8,if_false,c7,bne_self_eq_false];refine ah (ah (a9 (a9 ?_)));refine ah (ah (vx ho rfl (g.g.fits g.hl) (a9 ?_)));have hdr:az (ar prog w) A.in1 (setDrawn D) (fun b s'=>b=false/\s'=s) E s:=by unfold setDrawn setsByText;refine ah (ki ho rfl (g.g.fits g.hl) ?_);refine ah (ah (nV (a9 (a9 ⟨?_,rfl⟩))));show(_ && (!t.plain && _))=false;rw[g.pl];simp
 refine ah (eK hdr (fun b s' hb=>?_) fun _ _ z=>z);obtain⟨rfl,rfl⟩:=hb;simp only[b8,if_false];refine ah (a9 ?_);refine ah (wpAny_setEpoch_of ho rfl (g.g.fits g.hl) ?_);have e0:mq w t 0=0:=by unfold mq;simp
 have eo:(jF w t D L.length ep 0)={ cls:=.type "set_iterator",data:=.fields ([cy 0,cy 0,aa.ref D,cy ((L.map (·.2)).toArray.size:Nat),cy (ep:Nat)]:List aa).toArray }:=by unfold jF;rw[e0];simp
 rw[eo]at h;exact ah (i8 (a9 ⟨_,rfl,"set_iterator",_,⟨_,cK _ rfl,rfl⟩,jW.lookup,h⟩))
theorem CN{i:Nat}{Q:Option aa->af->Prop}{e:Int×aa}(hI:s.heap.get? I=some (jF w t D L.length ep i))(ho:s.heap.get? D=some (jw L ep t))(g:Goes w L t)(hi:i < L.length)(he:(tV w D ep L)[i]?=some e)
  (h:∀h',dP I s.heap h'->h'.get? I=some (jF w t D L.length ep (i + 1))->Q (some e.2) { s with heap:=h' }):az (ar prog w) A (fy (.ref I)) Q E s:=by
 have hT:s.TypeIs (.ref I) "set_iterator":=⟨_,hI,rfl⟩
 unfold fy;refine ah (n6 (my (name:=f6 "__next__") hT jW (jb jW hT xV ?_ (zq _))));unfold Builtin.«set_iterator.__next__»;simp only[slotArgs,vw,fS,b8,if_false,c7,bne_self_eq_false];refine ah (a9 ?_);refine ah (wpAny_fieldsOf hI rfl ?_);simp only[cy];refine ah (vx ho rfl (g.g.fits g.hl) ?_);have hz:((((L.map (·.2)).toArray.size:Nat):Int) != ((L.length:Nat):Int))=false:=by simp
 simp only[hz,b8,if_false,kQ];refine ah (Xh ho g.g g.hl g.pl g.ld (hG hi) ?_);rw[he];simp only[nN];have hd0:(jF w t D L.length ep i).data=.fields #[cy (mq w t i),cy i,.ref D,cy L.length,cy ep]:=rfl;refine ah (j_ hI hd0 (by simp) ?_);have hd1:=kN hd0 (·.setIfInBounds 0 (cy (mq w t (i + 1))));have hI1:=hZ (i7 (·.setIfInBounds 0 (cy (mq w t (i + 1))))) hI (nE hd1);refine ah (j_ hI1 hd1 (by simp) ?_);have hd2:=kN hd1 (·.setIfInBounds 1 (cy (i + 1:Nat)));have hI2:=hZ (i7 (·.setIfInBounds 1 (cy (i + 1:Nat)))) hI1 (nE hd2);refine a9 ⟨_,rfl,a9 (h _ ((ml ..).trans (ml ..)) ?_)⟩;refine hI2.trans ?_;unfold jF i7;simp[cy]
theorem Zd{Q:Option aa->af->Prop}(hh:A.handled=none)(hI:s.heap.get? I=some (jF w t D L.length ep L.length))(ho:s.heap.get? D=some (jw L ep t))(g:Goes w L t)
  (h:∀h',aw.ExtBut I s.heap h'->Q none { s with heap:=h' }):az (ar prog w) A (fy (.ref I)) Q E s:=by
 have hT:s.TypeIs (.ref I) "set_iterator":=⟨_,hI,rfl⟩
 unfold fy;refine ah (n6 (my (name:=f6 "__next__") hT jW (jb jW hT xV ?_ (zq _))));unfold Builtin.«set_iterator.__next__»;simp only[slotArgs,vw,fS,b8,if_false,c7,bne_self_eq_false];refine ah (a9 ?_);refine ah (wpAny_fieldsOf hI rfl ?_);simp only[cy];refine ah (vx ho rfl (g.g.fits g.hl) ?_);have hz:((((L.map (·.2)).toArray.size:Nat):Int) != ((L.length:Nat):Int))=false:=by simp
 simp only[hz,b8,if_false,kQ];refine ah (Xh ho g.g g.hl g.pl g.ld (bj _) ?_);have he:(tV w D ep L)[L.length]?=none:=by rw[Array.getElem?_eq_none];rw[yP];exact bj _
 rw[he];simp only[Option.map_none];have hd0:(jF w t D L.length ep L.length).data=.fields #[cy (mq w t L.length),cy L.length,.ref D,cy L.length,cy ep]:=rfl;refine ah (j_ hI hd0 (by simp) ?_);refine ah ?_;simp only[newExc,newTuple];refine ah (i8 ?_ (by size_fits));refine ah (m:=qB _ _) (qA (a:=aa.none) (by first|rfl|(simp only[qB];rfl)) ?_);refine i8 ?_ (by size_fits);simp only[raiseNew];refine ah (wpAny_handled ?_);rw[show A.in1.handled=none from hh];refine ah (a9 (uv ?_));refine ah (vy (T:="StopIteration") (b:=true) ⟨_,cK _ rfl,rfl⟩ isSubtype_stop ?_);exact a9 (h _ (((ml ..).extBut.push _).push _))
theorem Ze(hh:A.handled=none)(hne:D≠I)(g:Goes w L t) :
  kD prog w A I [I,D] [I] L.length (fun i v=>∃e,(tV w D ep L)[i]?=some e/\v=e.2) (fun i h=>h.get? I=some (jF w t D L.length ep i)/\h.get? D=some (jw L ep t)) where
 sub:=fun b hb=>by simp at hb;simp[hb]
 frame:=fun _ _ _ st hk=>⟨hk I (by simp) _ st.1,hk D (by simp) _ st.2⟩
 item:=fun i s Q E hi st hQ=>by
  have hlt:i < (tV w D ep L).size:=by rw[yP];exact hi
  refine CN st.1 st.2 g hi (qE hlt) fun h' hs hI'=>?_;exact hQ _ h' s.toks ⟨_,qE hlt,rfl⟩ ⟨hI',(hs.2 D hne).trans st.2⟩ fun b o hb e=>(hs.2 b (fun z=>hb (by simp[z]))).trans e
 done:=fun s Q E st hQ=>Zd hh st.1 st.2 g fun h' he=>hQ h' s.toks fun b o hb e=>he b o (fun z=>hb (by simp[z])) e
 self:=fun i s Q E st hQ=>by
  have hT:s.TypeIs (.ref I) "set_iterator":=⟨_,st.1,rfl⟩
  refine wpAny_pyIter_slot hT zu (jb zu hT Gp ?_ (Iu _));show az _ _ (ret (.ref I)) _ _ s;exact a9 ⟨_,rfl,"set_iterator",_,hT,jW.lookup,hQ⟩
end
section
variable{prog:aE}{w:ay}{A:aT}{E:aa->af->Prop}{s:af}{D I:ae}{L:List lM}{ep:Nat}{t:bP}
noncomputable abbrev mz:Obj:={ cls:=.type "list",data:=.seq ([]:List aa).toArray }
theorem acF{Q:Bool->af->Prop}(ho:s.heap.get? D=some (jw L ep t))(h:Q false s):az (ar prog w) A (cS.List.listLengthHint (.ref D)) Q E s:=by
 have hT:s.TypeIs (.ref D) "set":=⟨_,ho,rfl⟩
 unfold cS.List.listLengthHint;refine ah (wpAny_specialOf hT F.slot_set_len.lookup ?_);have e1:splitId "set.__len__"=some ("set","__len__"):=by kernel_rfl
 simp only[e1];refine ah (vy hT sub_set_self ?_);simp only[fS,b8,if_false];have pick:∀{c:Bool}{x y:Sem Bool},c=true->az (ar prog w) A x Q E s->az (ar prog w) A (if c=true then x else y) Q E s:=fun {c x y} hc hy=>by rw[hc];exact hy
 refine pick (by decide+kernel) ?_;refine ah (vc hT ?_);exact a9 h
theorem Rg{Q:List aa->af->Prop}(hh:A.handled=none)(ho:s.heap.get? D=some (jw L ep t))(g:Goes w L t)(hn:L.length<=4900)
  (hQ:∀h' tk,(∀b o,s.heap.get? b=some o->h'.get? b=some o)->s.heap.objs.size<=h'.objs.size->Q ((tV w D ep L).toList.map (·.2)) { s with heap:=h',toks:=tk }):az (ar prog w) A (collect (.ref D)) Q E s:=by
 have Rf:D < s.heap.objs.size:=bE ho;unfold collect;refine ah (vk (ja F.entry_proto_collect ?_));rw[km F.plain_proto_collect _];show az _ A.in1 (newList [] >>= fun l=>again (.builtin "list.__iadd__" ⟨[l,.ref D],[]⟩)) _ _ s;refine ah (i8 ?_);refine a9 ⟨ko F.plain_list_iadd _,ja F.entry_list_iadd ?_⟩;rw[km F.plain_list_iadd _];have p1:∀b o,s.heap.get? b=some o->(s.heap.push mz).get? b=some o:=fun b o e=>cm _ e;have hD1:(s.heap.push mz).get? D=some (jw L ep t):=p1 _ _ ho;have hS1:(s.heap.push mz).get? s.heap.objs.size=some mz:=cK _ rfl;show az _ A.in1 (cS.List.listExtendWith (.ref s.heap.objs.size) (.ref D) (.ref s.heap.objs.size)) _ _ _;unfold cS.List.listExtendWith;have hT:af.TypeIs { s with heap:=s.heap.push mz } (.ref D) "set":=⟨_,hD1,rfl⟩
 refine ah (vc hT ?_);have k1:cS.List.listSameRef (.ref s.heap.objs.size) (.ref D)=false:=by simp[cS.List.listSameRef];exact kC Rf
 have k2:(aa.type "set" == aa.type "list")=false:=by decide
 have k3:(aa.type "set" == aa.type "tuple")=false:=by decide
 simp only[k1,k2,k3,Bool.or_self,b8,if_false];refine ah (acE hD1 g ?_);have p2:∀b o,(s.heap.push mz).get? b=some o->((s.heap.push mz).push (jF w t D L.length ep 0)).get? b=some o:=fun b o e=>cm _ e;have hD2:=p2 _ _ hD1;have hS2:=p2 _ _ hS1;have hI2:((s.heap.push mz).push (jF w t D L.length ep 0)).get? (s.heap.push mz).objs.size=some (jF w t D L.length ep 0):=cK _ rfl;have afF:(s.heap.push mz).objs.size=s.heap.objs.size + 1:=gr ..;refine ah (gm (acF hD2 ?_));have pick:∀{c:Bool}{x y:Sem qS}{R:qS->af->Prop}{F':aa->af->Prop}{s':af},c=true->az (ar prog w) A.in1 x R F' s'->az (ar prog w) A.in1 (if c=true then x else y) R F' s':=fun {c x y R F' s'} hc hy=>by rw[hc];exact hy
 refine pick (by decide+kernel) ?_;refine ah (ij ?_);refine ah ?_;show az _ A.in1 (qV s.heap.objs.size (·.push .none) >>= fun _=>qV s.heap.objs.size (·.pop)) _ _ _;refine ah (mB hS2 rfl ?_);have hS3:=hZ (fm (·.push aa.none)) hS2 rfl;refine mB hS3 rfl ?_;have PN:=hZ (fm (·.pop)) hS3 rfl;generalize hH:(((s.heap.push mz).push (jF w t D L.length ep 0)).update s.heap.objs.size (fm (·.push aa.none))).update s.heap.objs.size (fm (·.pop))=H at PN;have oth:∀b o,b≠s.heap.objs.size->((s.heap.push mz).push (jF w t D L.length ep 0)).get? b=some o->H.get? b=some o:=fun b o hb e=>by rw[<- hH];exact(f_ _ _ (br hb)).trans ((f_ _ _ (br hb)).trans e)
 have W:=(Ze (prog:=prog) (w:=w) (A:=A.in1) (D:=D) (I:=(s.heap.push mz).objs.size) (ep:=ep) (by simpa using hh) (by rw[afF];exact cq (nI Rf)) g).toS;have hSf:s.heap.objs.size∉[(s.heap.push mz).objs.size,D]:=by simp only[bq,dm,or_false,not_or];exact⟨by rw[afF];exact cq (pd _),kC Rf⟩
 refine a9 ⟨ko F.plain_extend_loop _,codeAny_extend_loopS W (by rw[e_];lia) s.heap.objs.size hSf _ L.length 0 _ _ _ rfl (eD _) ⟨oth _ _ (by rw[afF];exact vt _) hI2,oth _ _ (cq Rf) hD2⟩ PN (ItemsOf.nil _) fun s' acc c hm hS' hacc=>?_⟩;show az _ A (load s.heap.objs.size >>= _) _ _ s';refine ah (wpAny_load hS' ?_);have hacc':acc.toList=(tV w D ep L).toList.map (·.2):=by
  apply List.ext_getElem?;intro i;rw[df,kU,kU];cases e:acc[i]? with
  |some v =>
   obtain⟨x,hx,rfl⟩:=hacc.2 i v e;rw[hx];rfl
  |none =>
   have:acc.size<=i:=by simpa using e
   rw[hacc.1]at this;rw[Array.getElem?_eq_none (by rw[yP];exact this)];rfl
 obtain⟨h',g',d',tk',os'⟩:=s';have eg:g'=s.gens:=hm.gens;have ed:d'=s.drawn:=hm.drawn;have eo:os'=s.os:=hm.os;subst eg ed eo;show az _ _ (pure acc.toList) _ _ _;rw[hacc'];refine a9 (hQ h' tk' (fun b o e=>hm.heap b o ?_ (oth b o (cq (bE e)) (p2 _ _ (p1 _ _ e)))) (hG (bE hS')));simp only[bq,dm,or_false,not_or];exact⟨cq (bE e),by rw[afF];exact cq (nI (bE e))⟩
end
section
variable{prog:aE}{w:ay}{A:aT}{E:aa->af->Prop}{s:af}
end
section
variable{prog:aE}{w:ay}{U:ae->List Int->Prop}{A:aT}{E:aa->af->Prop}{s:af}
end
section
variable{prog:aE}{w:ay}{U:ae->List Int->Prop}{A:aT}{E:aa->af->Prop}{s:af}
end
section
variable{prog:aE}{w:ay}{U:ae->List Int->Prop}{A:aT}{E:aa->af->Prop}{s:af}
end
section
variable{prog:aE}{w:ay}{U:ae->List Int->Prop}{A:aT}{E:aa->af->Prop}{s:af}
end
section
variable{prog:aE}{w:ay}{U:ae->List Int->Prop}{A:aT}{E:aa->af->Prop}{s:af}
end
end Tb
namespace So
open PySem PySem.W PyProof.Rows
noncomputable def Sp(lt:Nat->Nat->Bool)(n:Nat){α:Type}:KasT α->(α->Prop)->Prop
 | .ret a,Q=>Q a
 | .ask i j k,Q=>i < n/\j < n/\Sp lt n (k (lt i j)) Q
section
variable{lt:Nat->Nat->Bool}{n:Nat}{α β:Type}
structure Ar (n:Nat)(p:Array Nat):Prop where
 sz:p.size=n
 lt:∀i,p.getD i 0 < n
 pm:p.toList.Perm (b7 n)
noncomputable def Up(lt:Nat->Nat->Bool)(p:Array Nat)(m:Nat):Prop:=∀i j,i < j->j < m->lt (p.getD j 0) (p.getD i 0)=false
noncomputable def Dn(lt:Nat->Nat->Bool)(p:Array Nat)(m:Nat):Prop:=∀i j,i < j->j < m->lt (p.getD i 0) (p.getD j 0)=false
structure Ord (lt:Nat->Nat->Bool):Prop where
 tr:∀a b c,lt b a=false->lt c b=false->lt c a=false
 as:∀a b,lt a b=true->lt b a=false
theorem irr(O:Ord lt)(a:Nat):lt a a=false:=by
 cases h:lt a a with
 |false=>rfl
 |true=>have:=O.as a a h;rw[h]at this;cases this
end
end So
namespace So
open PySem PySem.W PyProof.Rows PySem.Calls
noncomputable def Ea:List Int->List Int->Bool
 | [],[]=>false
 | [],_::_=>true
 |_::_,[]=>false
 |a::as,b::bs=>if a=b then Ea as bs else decide (a < b)
theorem Vd:∀a b:List Int,Ea a b=true->Ea b a=false
 | [],[],h=>by cases h
 | [],_::_,h=>rfl
 |_::_,[],h=>by cases h
 |a::as,b::bs,h=>by
  unfold Ea at h ⊢;by_cases c:a=b
  ·subst c;simp only[if_true]at h ⊢;exact Vd as bs h
  ·rw[if_neg c]at h;rw[if_neg (br c)];have:=of_decide_eq_true h;exact decide_eq_false (by lia)
theorem Ve:∀a b c:List Int,Ea b a=false->Ea c b=false->Ea c a=false
 | [],[],[],_,_=>rfl
 | [],[],_::_,_,_=>rfl
 | [],_::_,[],_,h=>by cases h
 | [],_::_,_::_,_,_=>rfl
 |_::_,[],_,h,_=>by cases h
 |a::as,b::bs,[],_,h=>by cases h
 |a::as,b::bs,c::cs,h1,h2=>by
  unfold Ea at h1 h2 ⊢;by_cases e1:b=a
  ·subst e1;simp only[if_true]at h1;by_cases e2:c=b
   ·subst e2;simp only[if_true]at h2 ⊢;exact Ve as bs cs h1 h2
   ·rw[if_neg e2]at h2 ⊢;exact h2
  ·rw[if_neg e1]at h1;have g1:=of_decide_eq_false h1;by_cases e2:c=b
   ·subst e2;rw[if_neg e1];exact h1
   ·rw[if_neg e2]at h2;have g2:=of_decide_eq_false h2;rw[if_neg (by lia)];exact decide_eq_false (by lia)
theorem acG:∀a b:List Int,Ea a b=false->Ea b a=false->a=b
 | [],[],_,_=>rfl
 | [],_::_,h,_=>by cases h
 |_::_,[],_,h=>by cases h
 |a::as,b::bs,h1,h2=>by
  unfold Ea at h1 h2;by_cases c:a=b
  ·subst c;simp only[if_true]at h1 h2;rw[acG as bs h1 h2]
  ·rw[if_neg c]at h1;rw[if_neg (br c)]at h2;have:=of_decide_eq_false h1;have:=of_decide_eq_false h2;lia
theorem ajb(bM:LL):Ord fun i j=>Ea (bM.getD i []) (bM.getD j []):=⟨fun a b c h1 h2=>Ve _ _ _ h1 h2,fun a b h=>Vd _ _ h⟩
section
variable{prog:aE}{w:ay}{A:aT}{E:aa->af->Prop}{s:af}
noncomputable def alH(prog:aE)(w:ay)(A:aT)(κ:eS)(vs:List aa)(lt:Nat->Nat->Bool)(s:af):Prop :=
 ∀i j (C:Bool->af->Prop) (E:aa->af->Prop),i < vs.length->j < vs.length->C (lt i j) s->az (ar prog w) A (keyLt' κ (vs.getD i aa.none) (vs.getD j aa.none)) C E s
noncomputable def Vf(lt:Nat->Nat->Bool)(vs:List aa)(st:a_):Prop:=∃p:Array Nat,Ar vs.length p/\Up lt p vs.length/\(aI st).map (·.2)=ku (p.toList.map fun i=>vs.getD i aa.none)/\eT st=none
theorem acH{b:Bool}{Q:Bool->af->Prop}:∀{ks js:List Int}{xs ys:List aa}(i:Nat),ItemsAre (cw prog w) ks xs->ItemsAre (cw prog w) js ys->Q (Ea ks js) s ->
  KatLex prog w A b (decide (xs.length < ys.length)) Q (xs.zip ys) i s:=by
 have gen:∀(d:Bool) {ks js:List Int}{xs ys:List aa}(i:Nat),ItemsAre (cw prog w) ks xs->ItemsAre (cw prog w) js ys->d=decide (xs.length < ys.length)->Q (Ea ks js) s->KatLex prog w A b d Q (xs.zip ys) i s:=by
  intro d ks
  induction ks with
  |nil =>
   intro js xs ys i hx hy hd hq;cases hx;cases hy with
   |nil=>subst hd;exact kat_nil hq
   |cons h1 h2=>subst hd;exact kat_nil hq
  |cons k ks ih =>
   intro js xs ys i hx hy hd hq;cases hx with
   |cons h1 h2 =>
    cases hy with
    |nil=>subst hd;exact kat_nil hq
    | @cons j v js vs h3 h4 =>
     obtain⟨t,rfl⟩:=lh h1;obtain⟨u,rfl⟩:=lh h3;refine kat_cons (wpAny_eqBool_int ?_);by_cases e:k=j
     ·subst e;rw[show(k == k)=true from by simp];refine kat_yes (ih (i + 1) h2 h4 (by rw[hd];simp) ?_);unfold Ea at hq;rw[if_pos rfl]at hq;exact hq
     ·rw[show(k == j)=false from by simp[e]];unfold Ea at hq;rw[if_neg e]at hq;refine kat_no ?_;cases (b && i == 0) with
      |true=>exact oneLt_int hq
      |false=>exact kat_one _ _ (wpAny_lt_int hq)
 intro ks js xs ys i hx hy hq;exact gen _ i hx hy rfl hq
theorem afG{a b:ae}{ks js:List Int}{f:Bool}{Q:Bool->af->Prop}(ha:de (cw prog w) s.heap ks a)(hb:de (cw prog w) s.heap js b)(hq:Q (Ea ks js) s) :
  az (ar prog w) A (keyLt' (tuples' f) (.ref a) (.ref b)) Q E s:=by
 obtain⟨o,xs,n,h1,h2,h3,h4⟩:=ha;obtain⟨o',ys,n',h1',h2',h3',h4'⟩:=hb;refine kat_lt h1 h3 h1' h3' ?_;have:=acH (prog:=prog) (w:=w) (A:=A) (b:=f) 0 h4 h4' hq;simpa using this
noncomputable def KeysAre(prog:aE)(w:ay)(h:aw)(vs:List aa)(bM:LL):Prop :=
 bM.length=vs.length/\∀(i:Nat) v,vs[i]?=some v->∃b,v=.ref b/\de (cw prog w) h (bM.getD i []) b
theorem KeysAre.moved{h h':aw}{vs:List aa}{bM:LL}(k:KeysAre prog w h vs bM) (hm:∀b o,h.get? b=some o->o.cls=.type "tuple"->h'.get? b=some o):KeysAre prog w h' vs bM :=
 ⟨k.1,fun i v hv=>let ⟨b,e,o,its,m,q1,q2,q3,q4⟩:=k.2 i v hv;⟨b,e,o,its,m,hm _ _ q1 q2,q2,q3,q4⟩⟩
theorem KeysAre.asks{f:Bool}{vs:List aa}{bM:LL}(k:KeysAre prog w s.heap vs bM):alH prog w A (tuples' f) vs (fun i j=>Ea (bM.getD i []) (bM.getD j [])) s:=by intro i j C E hi hj hC;obtain⟨b,e,hb⟩:=k.2 i vs[i] (di hi);obtain⟨b',e',hb'⟩:=k.2 j vs[j] (di hj);rw[show vs.getD i aa.none=.ref b by simp[hi,e],show vs.getD j aa.none=.ref b' by simp[hj,e']];exact afG hb hb' hC
theorem KeysAre.tups{h:aw}:∀{vs:List aa}{bM:LL},KeysAre prog w h vs bM->(∀ks∈bM,ks≠[])->∃fs:List aa,KatTups h vs fs/\fs.length=vs.length/\∀v∈fs,∃i t,v=.int i t
 | [],bM,k,hn=>⟨[],.nil,rfl,fun v hv=>by cases hv⟩
 |v::vs,[],k,hn=>by cases k.1
 |v::vs,ks::bM,k,hn=>by
  obtain⟨fs,t,l,e⟩:=KeysAre.tups (vs:=vs) (bM:=bM) ⟨by have:=k.1;simpa using this,fun i u hu=>by have:=k.2 (i + 1) u (by simpa using hu);simpa using this⟩ fun x hx=>hn x (.tail _ hx);obtain⟨b,rfl,o,its,m,q1,q2,q3,q4⟩:=k.2 0 v (by simp);have hne:=hn ks (.head _);simp at q4;generalize hits:its.toList=L at q4;cases q4 with
  |nil=>exact absurd rfl hne
  | @cons i v' ks' vs' h1 h2 =>
   obtain⟨tk,rfl⟩:=lh h1;have h0:its[0]?=some (aa.int i tk):=by rw[<- kU,hits];rfl
   refine⟨.int i tk::fs,.cons q1 q2 q3 h0 t,by simp[l],fun u hu=>?_⟩;rcases bq.mp hu with rfl|hu
   ·exact⟨_,_,rfl⟩
   ·exact e u hu
noncomputable def leK(a b:List Int):Prop:=Ea b a=false
noncomputable def Vg(x:List Int):LL->LL
 | []=>[x]
 |y::ys=>if Ea y x=true then y::Vg x ys else x::y::ys
noncomputable def nJ(l:LL):LL:=l.foldr Vg []
theorem CP(x:List Int):∀l,(Vg x l).Perm (x::l)
 | []=>.refl _
 |y::ys=>by
  unfold Vg;split
  ·exact((CP x ys).cons y).trans (iN.swap x y ys)
  ·exact .refl _
theorem oY:∀l,(nJ l).Perm l
 | []=>.refl _
 |x::l=>(CP x (nJ l)).trans ((oY l).cons x)
theorem Xi(x:List Int):∀l,l.Pairwise leK->(Vg x l).Pairwise leK
 | [],_=>by simp[Vg]
 |y::ys,h=>by
  obtain⟨h1,h2⟩:=ke.mp h;unfold Vg;split
  ·rename_i c;refine ke.mpr ⟨fun z hz=>?_,Xi x ys h2⟩;rcases bq.mp ((CP x ys).mem_iff.mp hz) with rfl|hz
   ·exact Vd _ _ c
   ·exact h1 z hz
  ·rename_i c;have c':Ea y x=false:=by simpa using c
   refine ke.mpr ⟨fun z hz=>?_,h⟩;rcases bq.mp hz with rfl|hz
   ·exact c'
   ·exact Ve _ _ _ c' (h1 z hz)
theorem Gq:∀l,(nJ l).Pairwise leK
 | []=>.nil
 |x::l=>Xi x _ (Gq l)
theorem Kc:∀{l l':LL},l.Perm l'->l.Pairwise leK->l'.Pairwise leK->l=l'
 | [],l',p,_,_=>(List.nil_perm.mp p).symm
 |x::l,[],p,_,_=>by cases List.perm_nil.mp p
 |x::l,y::l',p,h,h'=>by
  obtain⟨h1,h2⟩:=ke.mp h;obtain⟨h1',h2'⟩:=ke.mp h';have e:x=y:=by
   have m1:=bq.mp (p.mem_iff.mp (eR (a:=x) (l:=l)));have m2:=bq.mp (p.mem_iff.mpr (eR (a:=y) (l:=l')));rcases m1 with m1|m1
   ·exact m1
   ·rcases m2 with m2|m2
    ·exact m2.symm
    ·exact acG _ _ (h1' x m1) (h1 y m2)
  subst e;rw[Kc (p.cons_inv) h2 h2']
theorem Gr{l l':LL}(p:l.Perm l')(h:l.Pairwise leK):l=nJ l':=Kc (p.trans (oY l').symm) h (Gq l')
noncomputable def Rh(bM:LL)(p:Array Nat):Prop:=p.toList.Perm (b7 bM.length)/\(p.toList.map fun i=>bM.getD i [])=nJ bM
theorem acI{bM:LL}{p:Array Nat}(a:Ar bM.length p)(u:Up (fun i j=>Ea (bM.getD i []) (bM.getD j [])) p bM.length):Rh bM p:=by
 refine⟨a.pm,Gr ?_ ?_⟩
 ·have:=a.pm.map fun i=>bM.getD i [];refine this.trans (n8 ?_);apply kT
  ·simp
  ·intro i h1 h2;simp at h1;simp[h1]
 ·rw[kR];intro i j hi hj hij;simp only[b_,fw]at hi hj;have:=u i j hij (by rw[<- a.sz];exact hj);simp only[List.getElem_map,Array.getElem_toList];unfold leK;rw[kf,kf,qE hi,qE hj]at this;exact this
theorem Ri{bM:LL}(h:bM.length < 2):Rh bM (ku (b7 bM.length)):=by
 refine⟨.refl _,Gr ?_ ?_⟩
 ·refine n8 ?_;apply kT
  ·simp
  ·intro i h1 h2;simp at h1;simp[h1]
 ·rw[kR];intro i j hi hj hij;simp at hi hj;lia
end
end So
namespace Sb
open PySem PySem.W PyProof.Rows
section
variable{prog:aE}{w:ay}{A:aT}{E:aa->af->Prop}{s:af}{a₀ x0:Array ax}{κ:eS}{rk:ax->Int}{lo:Nat}{p0:Array (Nat×Nat×Nat)}
noncomputable def Ax(prog:aE)(w:ay)(A:aT)(s:af)(κ:eS)(rk:ax->Int)(a₀:Array ax):Prop :=
 ∀x y (C:Bool->af->Prop) (E:aa->af->Prop),x∈a₀.toList->y∈a₀.toList->C (decide (rk x < rk y)) s->az (ar prog w) A (keyLt' κ x.1 y.1) C E s
noncomputable def R(rk:ax->Int)(xs:Array ax)(i:Nat):Int:=match xs[i]? with|some p=>rk p|none=>0
theorem pA{xs ys:Array ax}{i j:Nat}(h:xs[i]?=ys[j]?):R rk xs i=R rk ys j:=by unfold R;rw[h]
theorem mQ{xs:Array ax}{i:Nat}{x:ax}(h:xs[i]?=some x):R rk xs i=rk x:=by unfold R;rw[h]
noncomputable def Up(rk:ax->Int)(xs:Array ax)(lo n:Nat):Prop:=∀i j,i<=j->j < n->R rk xs (lo + i)<=R rk xs (lo + j)
noncomputable def Dn(rk:ax->Int)(xs:Array ax)(lo n:Nat):Prop:=∀i j,i<=j->j < n->R rk xs (lo + j)<=R rk xs (lo + i)
structure SB (κ:eS)(a₀ x0:Array ax)(p0:Array (Nat×Nat×Nat))(lo:Nat)(st:a_):Prop where
 perm:(aI st).Perm a₀
 kind:kindOf st=κ
 failed:eT st=none
 pend:bS st=p0
 keep:∀k,k < lo->(aI st)[k]?=x0[k]?
theorem SB.size{st:a_}(h:SB κ a₀ x0 p0 lo st):(aI st).size=a₀.size:=h.perm.size_eq
theorem SB.setArr{st:a_}(h:SB κ a₀ x0 p0 lo st){xs:Array ax}(hp:xs.Perm (aI st))(hk:∀k,k < lo->xs[k]?=(aI st)[k]?):SB κ a₀ x0 p0 lo (setArr st xs) :=
 ⟨hp.trans h.perm,h.kind,h.failed,h.pend,fun k hl=>(hk k hl).trans (h.keep k hl)⟩
theorem acJ{xs:Array ax}(hp:xs.Perm a₀){i:Nat}{x:ax}(h:xs[i]?=some x):x∈a₀.toList:=by obtain⟨hi,rfl⟩:=fR.mp h;exact(q8.mp hp).mem_iff.mp (by simp)
theorem cO{st:a_}{xs:Array ax}{i:Nat}{x:ax}{Q:ax->a_->Prop}(h:xs[i]?=some x)(hq:Q x st):wpS (ar prog w) A E s (c_ xs i) Q st:=by rw[elem'_eq,h];exact bo hq
theorem Gs{st:a_}{x y:ax}{Q:Option Bool->a_->Prop}(ha:Ax prog w A s κ rk a₀)(hk:kindOf st=κ)(hx:x∈a₀.toList)(hy:y∈a₀.toList)(h:Q (some (decide (rk x < rk y))) st) :
  wpS (ar prog w) A E s (lt' x y) Q st:=by
 rw[lt'_eq];refine a6 (gT ?_);rw[hk];refine a6 (kX (n6 (ha x y _ _ hx hy ⟨rfl,?_⟩)));exact bo h
theorem Bm{st:a_}{i j:Nat}{Q:Option Bool->a_->Prop}(ha:Ax prog w A s κ rk a₀)(hB:SB κ a₀ x0 p0 lo st)(hi:i < a₀.size)(hj:j < a₀.size)
  (h:Q (some (decide (R rk (aI st) i < R rk (aI st) j))) st):wpS (ar prog w) A E s (ltAt' i j) Q st:=by
 have e1:(aI st)[i]?=some ((aI st)[i]'(by rw[hB.size];exact hi)):=getElem?_pos _ i _;have e2:(aI st)[j]?=some ((aI st)[j]'(by rw[hB.size];exact hj)):=getElem?_pos _ j _;rw[mQ e1,mQ e2]at h;rw[ltAt'_eq];refine a6 (gT ?_);exact a6 (cO e1 (a6 (cO e2 (Gs ha hB.kind (acJ hB.perm e1) (acJ hB.perm e2) h))))
theorem Fe{st:a_}{i j:Nat}{Q:Unit->a_->Prop}(h:Q () (setArr st (ik (aI st) i j ((j - i) / 2)))) :
  wpS (ar prog w) A E s (n9 i j) Q st:=by
 rw[reverseSlice'_eq];exact iO h
theorem Gu{xs:Array ax}{i j:Nat}(hj:j<=xs.size)(k:Nat) :
  R rk (ik xs i j ((j - i) / 2)) k=if i<=k/\k < j then R rk xs (i + j - 1 - k) else R rk xs k:=by
 have e:=getElem?_mirror_all (i:=i) hj k;by_cases h1:i<=k/\k < j
 ·rw[if_pos h1]at e ⊢;exact pA e
 ·rw[if_neg h1]at e ⊢;exact pA e
theorem lC{xs:Array ax}{i j:Nat}(hj:j<=xs.size)(heq:∀k,i<=k->k < j->R rk xs k=R rk xs (j - 1))(k:Nat) :
  R rk (ik xs i j ((j - i) / 2)) k=R rk xs k:=by
 rw[Gu hj];split
 ·rw[heq _ (by lia) (by lia),heq k (by lia) (by lia)]
 ·rfl
theorem SB.rev{st:a_}(h:SB κ a₀ x0 p0 lo st){i j:Nat}(hi:lo<=i)(hj:j<=a₀.size):SB κ a₀ x0 p0 lo (PyProof.Rows.setArr st (ik (aI st) i j ((j - i) / 2))) :=
 h.setArr (mirror_perm _ _ _ _) fun k hk=>by rw[getElem?_mirror_all (by rw[h.size];exact hj),if_neg (by lia)]
noncomputable def acK(lo a nrem:Nat):StateT a_ Sem AscSt :=
 forIn [a:nrem] ((none,a):AscSt) fun _ __s=>do
  let __x <- ltAt' (lo + __s.snd) (lo + __s.snd - 1)
  match __x with
  |some smaller=>if smaller=true then pure (ForInStep.done (none,__s.snd)) else pure (ForInStep.yield (none,__s.snd + 1))
  |_=>pure (ForInStep.done (some none,__s.snd))
noncomputable def Rj(lo n nrem:Nat):StateT a_ Sem (Option Nat):=do
 n9 lo (lo + n)
 let __s <- acK lo n nrem
 match __s.fst with
 |some r=>pure r
 |none=>pure (some __s.snd)
noncomputable def Xj(lo n nrem:Nat):StateT a_ Sem DescSt :=
 forIn [n:nrem] ((none,n,0):DescSt) fun _ __s=>do
  let __x <- ltAt' (lo + __s.snd.fst) (lo + __s.snd.fst - 1)
  match __x with
  |some smaller =>
   if smaller=true then
    if __s.snd.snd > 0 then do
     n9 (lo + __s.snd.fst - (__s.snd.snd + 1)) (lo + __s.snd.fst)
     pure (ForInStep.yield (none,__s.snd.fst + 1,0))
    else pure (ForInStep.yield (none,__s.snd.fst + 1,0))
   else do
    let __x <- ltAt' (lo + __s.snd.fst - 1) (lo + __s.snd.fst)
    match __x with
    |some larger =>
     if larger=true then pure (ForInStep.done (none,__s.snd.fst,__s.snd.snd))
     else pure (ForInStep.yield (none,__s.snd.fst + 1,__s.snd.snd + 1))
    |_=>pure (ForInStep.done (some none,__s.snd.fst,__s.snd.snd))
  |_=>pure (ForInStep.done (some none,__s.snd.fst,__s.snd.snd))
noncomputable def Rk(lo n nrem:Nat):StateT a_ Sem (Option Nat):=do
 liftM (rule "list.sort.descending-run")
 let __s <- Xj lo (n + 1) nrem
 match __s.fst with
 |some r=>pure r
 |none =>
  if __s.snd.snd > 0 then do
   n9 (lo + __s.snd.fst - (__s.snd.snd + 1)) (lo + __s.snd.fst)
   Rj lo __s.snd.fst nrem
  else Rj lo __s.snd.fst nrem
theorem acL(lo nrem:Nat):countRun' lo nrem=(do
  let __s <- acK lo 1 nrem
  match __s.fst with
  |some r=>pure r
  |none =>
   if (__s.snd == nrem)=true then pure (some __s.snd)
   else if __s.snd > 1 then do
    let __x <- ltAt' lo (lo + __s.snd - 1)
    match __x with
    |some rose=>if rose=true then pure (some __s.snd) else do
      n9 lo (lo + __s.snd)
      Rk lo __s.snd nrem
    |_=>pure none
   else Rk lo __s.snd nrem):=by
 rw[countRun'_eq];unfold Rk Rj Xj acK;dsimp only;congr 1;funext __s;obtain⟨r,n⟩:=__s;cases r with
 |some r=>rfl
 |none =>
  dsimp only;split
  ·rfl
  ·split
   ·congr 1;funext x;cases x with
    |none=>rfl
    |some rose =>
     dsimp only;split
     ·rfl
     ·congr 1;funext _r;congr 1;funext _u;congr 1;congr 1;funext s2;obtain⟨r2,n2,q2⟩:=s2;cases r2 with
      |some r2=>rfl
      |none =>
       dsimp only;split
       ·congr 1;funext _v;congr 1;funext _w;congr 1;funext s3;obtain⟨r3,n3⟩:=s3;cases r3 <;> rfl
       ·congr 1;funext _w;congr 1;funext s3;obtain⟨r3,n3⟩:=s3;cases r3 <;> rfl
   ·congr 1;funext _u;congr 1;congr 1;funext s2;obtain⟨r2,n2,q2⟩:=s2;cases r2 with
    |some r2=>rfl
    |none =>
     dsimp only;split
     ·congr 1;funext _v;congr 1;funext _w;congr 1;funext s3;obtain⟨r3,n3⟩:=s3;cases r3 <;> rfl
     ·congr 1;funext _w;congr 1;funext s3;obtain⟨r3,n3⟩:=s3;cases r3 <;> rfl
end
section
variable{prog:aE}{w:ay}{A:aT}{E:aa->af->Prop}{s:af}{a₀ x0:Array ax}{κ:eS}{rk:ax->Int}{lo:Nat}{p0:Array (Nat×Nat×Nat)}
theorem Xk{st:a_}{a nrem:Nat}{Q:AscSt->a_->Prop}(h0:Ax prog w A s κ rk a₀)(hn:lo + nrem<=a₀.size)(ha:1<=a)(han:a<=nrem)(hB:SB κ a₀ x0 p0 lo st)
  (hs:Up rk (aI st) lo a)
  (h:∀n,a<=n->n<=nrem->Up rk (aI st) lo n->(n=nrem∨R rk (aI st) (lo + n) < R rk (aI st) (lo + (n - 1)))->Q (none,n) st) :
  wpS (ar prog w) A E s (acK lo a nrem) Q st:=by
 unfold acK;refine eP (I:=fun x c st'=>st'=st/\c=(none,x)/\Up rk (aI st) lo x) ?step ?jk ⟨rfl,rfl,hs⟩
 case jk =>
  rintro c st' ⟨rfl,rfl,hs'⟩;rw[show max a nrem=nrem by lia]at hs' ⊢;exact h nrem han (bj _) hs' (.inl rfl)
 case step =>
  rintro x c st' hax hxn ⟨rfl,rfl,hs'⟩;dsimp only;rw[show lo + x - 1=lo + (x - 1) by lia];refine a6 (Bm h0 hB (by lia) (by lia) ?_);by_cases hless:R rk (aI st') (lo + x) < R rk (aI st') (lo + (x - 1))
  ·simp only[hless,decide_true,if_true];exact bo (h x hax (by lia) hs' (.inr hless))
  ·simp only[hless,decide_false,b8,if_false];refine bo ⟨rfl,rfl,fun i j hij hj=>?_⟩;by_cases hjx:j < x
   ·exact hs' i j hij hjx
   ·have hj':j=x:=by lia
    subst hj';by_cases hi':i=j
    ·subst hi';exact gd _
    ·exact eI (hs' i (j - 1) (by lia) (by lia)) (n_.mp hless)
theorem Ke{st:a_}{n nrem:Nat}{Q:Option Nat->a_->Prop}(h0:Ax prog w A s κ rk a₀)(hn:lo + nrem<=a₀.size)(h1:1<=n)(hnn:n<=nrem)(hB:SB κ a₀ x0 p0 lo st)
  (hs:Dn rk (aI st) lo n) (h:∀m st',SB κ a₀ x0 p0 lo st'->1<=m->m<=nrem->Up rk (aI st') lo m->Q (some m) st') :
  wpS (ar prog w) A E s (Rj lo n nrem) Q st:=by
 unfold Rj;have hsz:lo + n<=(aI st).size:=by rw[hB.size];lia
 refine a6 (Fe ?_);have hB':SB κ a₀ x0 p0 lo (setArr st (ik (aI st) lo (lo + n) ((lo + n - lo) / 2))):=hB.rev (bj _) (by lia);refine a6 (Xk h0 hn h1 hnn hB' ?_ fun m hm1 hm2 hsm _=>bo (h m _ hB' (by lia) hm2 hsm));intro i j hij hj;show R rk (ik (aI st) lo (lo + n) ((lo + n - lo) / 2)) (lo + i)<=R rk (ik (aI st) lo (lo + n) ((lo + n - lo) / 2)) (lo + j);rw[Gu hsz,Gu hsz,if_pos (by lia),if_pos (by lia)];have:=hs (n - 1 - j) (n - 1 - i) (by lia) (by lia);rw[show lo + (lo + n) - 1 - (lo + i)=lo + (n - 1 - i) by lia,show lo + (lo + n) - 1 - (lo + j)=lo + (n - 1 - j) by lia];exact this
theorem acM{st:a_}{n nrem:Nat}{Q:DescSt->a_->Prop}(h0:Ax prog w A s κ rk a₀)(hn:lo + nrem<=a₀.size)(h1:1<=n)(hnn:n<=nrem)(hB:SB κ a₀ x0 p0 lo st)
  (hs:Dn rk (aI st) lo n)
  (h:∀m neq st',SB κ a₀ x0 p0 lo st'->n<=m->m<=nrem->Dn rk (aI st') lo m->neq + 1<=m->(∀i,lo + m - (neq + 1)<=i->i < lo + m->R rk (aI st') i=R rk (aI st') (lo + m - 1))->Q (none,m,neq) st') :
  wpS (ar prog w) A E s (Xj lo n nrem) Q st:=by
 unfold Xj;refine eP (I:=fun x c st'=>∃neq,c=(none,x,neq)/\SB κ a₀ x0 p0 lo st'/\Dn rk (aI st') lo x/\neq + 1<=x /\
   (∀i,lo + x - (neq + 1)<=i->i < lo + x->R rk (aI st') i=R rk (aI st') (lo + x - 1))) ?step ?jk ⟨0,rfl,hB,hs,by lia,fun i h1 h2=>by congr 1;lia⟩
 case jk =>
  rintro c st' ⟨neq,rfl,hB',hs',hq,he⟩;rw[show max n nrem=nrem by lia]at hs' hq he ⊢;exact h nrem neq st' hB' hnn (bj _) hs' hq he
 case step =>
  rintro x c st' hax hxn ⟨neq,rfl,hB',hs',hq,he⟩;dsimp only;have hsz:lo + x<=(aI st').size:=by rw[hB'.size];lia
  have e1:lo + x - 1=lo + (x - 1):=by lia
  refine a6 (Bm h0 hB' (by lia) (by lia) ?_);by_cases hless:R rk (aI st') (lo + x) < R rk (aI st') (lo + x - 1)
  ·simp only[hless,decide_true,if_true];rw[e1]at hless;have step1:∀xs:Array ax,(∀k,R rk xs k=R rk (aI st') k)->Dn rk xs lo (x + 1):=by
    intro xs hk i j hij hj;rw[hk,hk];by_cases hjx:j < x
    ·exact hs' i j hij hjx
    ·have hj':j=x:=by lia
     subst hj';by_cases hi':i=j
     ·subst hi';exact gd _
     ·exact eI (gf hless) (hs' i (j - 1) (by lia) (by lia))
   by_cases hneq:neq > 0
   ·rw[if_pos hneq];refine a6 (Fe (bo ⟨0,rfl,hB'.rev (by lia) (by lia),step1 _ (lC hsz he),by lia,fun i h1 h2=>by congr 1;lia⟩))
   ·rw[if_neg hneq];exact bo ⟨0,rfl,hB',step1 _ (fun _=>rfl),by lia,fun i h1 h2=>by congr 1;lia⟩
  ·simp only[hless,decide_false,b8,if_false];refine a6 (Bm h0 hB' (by lia) (by lia) ?_);by_cases hlarger:R rk (aI st') (lo + x - 1) < R rk (aI st') (lo + x)
   ·simp only[hlarger,decide_true,if_true];exact bo (h x neq st' hB' hax (by lia) hs' hq he)
   ·simp only[hlarger,decide_false,b8,if_false];have heqx:R rk (aI st') (lo + x)=R rk (aI st') (lo + x - 1):=by lia
    refine bo ⟨neq + 1,rfl,hB',fun i j hij hj=>?_,by lia,fun i h1 h2=>?_⟩
    ·by_cases hjx:j < x
     ·exact hs' i j hij hjx
     ·have hj':j=x:=by lia
      subst hj';by_cases hi':i=j
      ·subst hi';exact gd _
      ·rw[heqx,e1];exact hs' i (j - 1) (by lia) (by lia)
    ·rw[show lo + (x + 1) - 1=lo + x by lia];by_cases hix:i=lo + x
     ·subst hix;rfl
     ·rw[heqx];exact he i (by lia) (by lia)
theorem Kf{st:a_}{n nrem:Nat}{Q:Option Nat->a_->Prop}(h0:Ax prog w A s κ rk a₀)(hn:lo + nrem<=a₀.size)(hnn:n + 1<=nrem)(hB:SB κ a₀ x0 p0 lo st)
  (hs:Dn rk (aI st) lo (n + 1)) (h:∀m st',SB κ a₀ x0 p0 lo st'->1<=m->m<=nrem->Up rk (aI st') lo m->Q (some m) st') :
  wpS (ar prog w) A E s (Rk lo n nrem) Q st:=by
 unfold Rk;refine a6 (kX (ij ⟨rfl,?_⟩));refine a6 (acM h0 hn (by lia) hnn hB hs fun m neq st' hB' hm1 hm2 hs' hq he=>?_);dsimp only;have hsz:lo + m<=(aI st').size:=by rw[hB'.size];lia
 by_cases hneq:neq > 0
 ·rw[if_pos hneq];refine a6 (Fe (Ke h0 hn (by lia) hm2 (hB'.rev (by lia) (by lia)) ?_ h));intro i j hij hj;show R rk (ik (aI st') _ _ _) _<=R rk (ik (aI st') _ _ _) _;rw[lC hsz he,lC hsz he];exact hs' i j hij hj
 ·rw[if_neg hneq];exact Ke h0 hn (by lia) hm2 hB' hs' h
theorem Zf{st:a_}{nrem:Nat}{Q:Option Nat->a_->Prop}(h0:Ax prog w A s κ rk a₀)(hn:lo + nrem<=a₀.size)(h1:1<=nrem)(hB:SB κ a₀ x0 p0 lo st)
  (h:∀m st',SB κ a₀ x0 p0 lo st'->1<=m->m<=nrem->Up rk (aI st') lo m->Q (some m) st') :
  wpS (ar prog w) A E s (countRun' lo nrem) Q st:=by
 rw[acL];refine a6 (Xk h0 hn (bj 1) h1 hB (fun i j hij hj=>by have e:i=j:=by { lia };subst e;exact gd _) fun n hn1 hn2 hsn hor=>?_);dsimp only;by_cases hnn:n=nrem
 ·rw[if_pos (by simpa using hnn)];exact bo (h n st hB hn1 hn2 hsn)
 ·rw[if_neg (by simpa using hnn)];have hlt:R rk (aI st) (lo + n) < R rk (aI st) (lo + (n - 1)):=hor.resolve_left hnn;by_cases hgt:n > 1
  ·rw[if_pos hgt,show lo + n - 1=lo + (n - 1) by lia];refine a6 (Bm h0 hB (by lia) (by lia) ?_);by_cases hrose:R rk (aI st) lo < R rk (aI st) (lo + (n - 1))
   ·simp only[hrose,decide_true,if_true];exact bo (h n st hB hn1 hn2 hsn)
   ·simp only[hrose,decide_false,b8,if_false];have hsz:lo + n<=(aI st).size:=by rw[hB.size];lia
    have hall':∀k,k < n->R rk (aI st) (lo + k)=R rk (aI st) (lo + (n - 1)):=by intro k hk;have a1:=hsn 0 k (by lia) hk;have a2:=hsn k (n - 1) (by lia) (by lia);rw[md]at a1;lia
    have hall:∀k,lo<=k->k < lo + n->R rk (aI st) k=R rk (aI st) (lo + n - 1):=fun k k1 k2=>by have:=hall' (k - lo) (by lia);rw[show lo + (k - lo)=k by lia]at this;rw[this];congr 1;lia
    refine a6 (Fe (Kf h0 hn (by lia) (hB.rev (bj _) (by lia)) ?_ h));intro i j hij hj;show R rk (ik (aI st) _ _ _) _<=R rk (ik (aI st) _ _ _) _;rw[lC hsz hall,lC hsz hall];by_cases hjn:j < n
    ·rw[hall' i (by lia),hall' j hjn];exact gd _
    ·obtain rfl:j=n:=by lia
     by_cases hi':i=j
     ·subst hi';exact gd _
     ·rw[hall' i (by lia)];exact gf hlt
  ·rw[if_neg hgt];obtain rfl:n=1:=by lia
   refine Kf h0 hn (by lia) hB ?_ h;intro i j hij hj;by_cases hi':i=j
   ·subst hi';exact gd _
   ·obtain rfl:i=0:=by lia
    obtain rfl:j=1:=by lia
    exact gf hlt
theorem Rm{xs:Array ax}{src d:Nat}(hs:src < xs.size)(hd:d<=src)(k:Nat) :
  R rk (bubble xs src d) k=if k=src - d then R rk xs src else if src - d < k/\k<=src then R rk xs (k - 1) else R rk xs k:=by
 have e:=getElem?_bubble hs d hd k;by_cases h1:k=src - d
 ·rw[if_pos h1]at e ⊢;exact pA e
 ·rw[if_neg h1]at e ⊢;by_cases h2:src - d < k/\k<=src
  ·rw[if_pos h2]at e ⊢;exact pA e
  ·rw[if_neg h2]at e ⊢;exact pA e
theorem afH{st:a_}{n ok:Nat}{Q:Bool->a_->Prop}(h0:Ax prog w A s κ rk a₀)(hn:lo + n<=a₀.size)(hok:ok<=n)(hB:SB κ a₀ x0 p0 lo st)(hs:Up rk (aI st) lo ok)
  (h:∀st',SB κ a₀ x0 p0 lo st'->Up rk (aI st') lo n->Q true st'):wpS (ar prog w) A E s (binarySort' lo n ok) Q st:=by
 rw[binarySort'_eq];refine a6 (eA (eP (I:=fun k c st'=>c=(none,())/\SB κ a₀ x0 p0 lo st'/\Up rk (aI st') lo (min k n))
  (Q:=fun c st'=>c=(none,())/\SB κ a₀ x0 p0 lo st'/\Up rk (aI st') lo n) ?step ?jk ?init) ?post)
 case post =>
  rintro c st' ⟨rfl,hB',hs'⟩;exact bo (h st' hB' hs')
 case init =>
  refine⟨rfl,hB,fun i j hij hj=>?_⟩;by_cases h1:ok=0
  ·obtain rfl:i=j:=by lia
   exact gd _
  ·exact hs i j hij (by lia)
 case jk =>
  rintro c st' ⟨hc,hB',hs'⟩;refine⟨hc,hB',?_⟩;rwa [show min (max (max ok 1) n) n=n by lia]at hs'
 case step =>
  rintro k c st' hak hkn ⟨rfl,hB',hs'⟩;rw[show min k n=k by lia]at hs';have hk:lo + k < a₀.size:=by lia
  refine a6 (eA (eP (I:=fun x c st''=>st''=st'/\∃l r,c=(none,l,r)/\l<=r/\r<=k/\r - l<=k - x /\
    (∀i,i < l->R rk (aI st') (lo + i)<=R rk (aI st') (lo + k))/\(∀i,r<=i->i < k->R rk (aI st') (lo + k) < R rk (aI st') (lo + i)))
   (Q:=fun c st''=>st''=st'/\∃l r,c=(none,l,r)/\l<=k /\
    (∀i,i < l->R rk (aI st') (lo + i)<=R rk (aI st') (lo + k))/\(∀i,l<=i->i < k->R rk (aI st') (lo + k) < R rk (aI st') (lo + i))) ?istep ?ifin ?iinit) ?ipost)
  case iinit=>exact⟨rfl,0,k,rfl,by lia,by lia,by lia,fun i hi=>by lia,fun i h1 h2=>by lia⟩
  case ifin =>
   rintro c st'' ⟨rfl,l,r,rfl,hlr,hrk,hm,hlo,hhi⟩;obtain rfl:l=r:=by lia
   exact⟨rfl,l,l,rfl,hrk,hlo,hhi⟩
  case istep =>
   rintro x c st'' _ hxk ⟨rfl,l,r,rfl,hlr,hrk,hm,hlo,hhi⟩;dsimp only;by_cases hge:l ≥ r
   ·rw[if_pos hge];obtain rfl:l=r:=by lia
    exact bo ⟨rfl,l,l,rfl,hrk,hlo,hhi⟩
   ·rw[if_neg hge];refine a6 (Bm h0 hB' hk (by lia) ?_);by_cases hless:R rk (aI st'') (lo + k) < R rk (aI st'') (lo + (l + r) / 2)
    ·simp only[hless,decide_true,if_true];refine bo ⟨rfl,l,(l + r) / 2,rfl,by lia,by lia,by lia,hlo,fun i h1 h2=>?_⟩;exact Int.lt_of_lt_of_le hless (hs' _ _ h1 h2)
    ·simp only[hless,decide_false,b8,if_false];refine bo ⟨rfl,(l + r) / 2 + 1,r,rfl,by lia,by lia,by lia,fun i h1=>?_,hhi⟩;exact eI (hs' i ((l + r) / 2) (by lia) (by lia)) (n_.mp hless)
  case ipost =>
   rintro c st'' ⟨rfl,l,r,rfl,hlk,hlo,hhi⟩;show wpS _ _ _ _ (do moveDown' (lo + k) (lo + l);pure (ForInStep.yield (none,()))) _ _;rw[moveDown'_eq];have hks:lo + k < (aI st'').size:=by rw[hB'.size];exact hk
   refine a6 (iO (bo ⟨rfl,hB'.setArr (bubble_perm _ _ _) (fun q hq=>?_),?_⟩))
   ·rw[getElem?_bubble hks _ (by lia),if_neg (by lia),if_neg (by lia)]
   rw[show min (k + 1) n=k + 1 by lia];intro i j hij hj;show R rk (bubble (aI st'') (lo + k) (lo + k - (lo + l))) (lo + i)<=R rk (bubble (aI st'') (lo + k) (lo + k - (lo + l))) (lo + j);rw[Rm hks (by lia),Rm hks (by lia),show lo + k - (lo + k - (lo + l))=lo + l by lia];have pre:∀q,lo + l < lo + q->lo + q - 1=lo + (q - 1):=fun q hq=>by lia
   repeat' split
   all_goals first
    | (exfalso;lia)
    |exact gd _
    |exact hlo _ (by lia)
    | (rw[pre _ (by lia)];exact gf (hhi _ (by lia) (by lia)))
    |exact hs' _ _ (by lia) (by lia)
    | (rw[pre _ (by lia)];exact hs' _ _ (by lia) (by lia))
    | (rw[pre _ (by lia),pre _ (by lia)];exact hs' _ _ (by lia) (by lia))
end
noncomputable def mK:Bool->Keyed->Array Keyed->Nat->Nat->Nat->StateT SortSt Sem (Option Nat):=sortPriv% PySem.Builtin.gallop
noncomputable def bey(left:Bool)(key:ax)(arr:Array ax)(base i:Nat):StateT a_ Sem (Option Bool):=do
 let x <- c_ arr (base + i)
 if left then lt' x key else return (<- lt' key x).map (!·)
theorem Vh(left:Bool)(key:ax)(arr:Array ax)(base n hint:Nat):mK left key arr base n hint=(do
 let mut lastofs:=0
 let mut ofs:=1
 let mut lo:=0
 let mut hi:=0
 let some right <- bey left key arr base hint|return none
 if right then
  let maxofs:=n - hint
  for _ in [0:n] do
   if ofs ≥ maxofs then break
   let some more <- bey left key arr base (hint + ofs)|return none
   if !more then break
   lastofs:=ofs
   ofs:=2 * ofs + 1
  lo:=hint + lastofs + 1
  hi:=hint + min ofs maxofs
 else
  let maxofs:=hint + 1
  for _ in [0:n] do
   if ofs ≥ maxofs then break
   let some found <- bey left key arr base (hint - ofs)|return none
   if found then break
   lastofs:=ofs
   ofs:=2 * ofs + 1
  lo:=hint + 1 - min ofs maxofs
  hi:=hint - lastofs
 for _ in [0:n] do
  if lo ≥ hi then break
  let m:=lo + (hi - lo) / 2
  let some more <- bey left key arr base m|return none
  if more then lo:=m + 1 else hi:=m
 return some hi):=rfl
section
variable{prog:aE}{w:ay}{A:aT}{E:aa->af->Prop}{s:af}{a₀ x0:Array ax}{κ:eS}{rk:ax->Int}{lo:Nat}{p0:Array (Nat×Nat×Nat)}
noncomputable def bp(rk:ax->Int)(left:Bool)(key:ax)(arr:Array ax)(base i:Nat):Bool:=if left then decide (R rk arr (base + i) < rk key) else decide (R rk arr (base + i)<=rk key)
theorem Fg{st:a_}{left:Bool}{key:ax}{arr:Array ax}{base i:Nat}{Q:Option Bool->a_->Prop}(h0:Ax prog w A s κ rk a₀)(hk:kindOf st=κ)(hm:key∈a₀.toList)(ha:∀x∈arr.toList,x∈a₀.toList)(hi:base + i < arr.size)
  (h:Q (some (bp rk left key arr base i)) st):wpS (ar prog w) A E s (bey left key arr base i) Q st:=by
 have e:arr[base + i]?=some arr[base + i]:=getElem?_pos arr _ hi;have hx:arr[base + i]∈a₀.toList:=ha _ (by simp);unfold bp at h;rw[mQ e]at h;unfold bey;refine a6 (cO e ?_);cases left with
 |true=>simp only[if_true]at h ⊢;exact Gs h0 hk hx hm h
 |false =>
  simp only[b8,if_false]at h ⊢;refine a6 (Gs h0 hk hm hx (bo ?_));have:(some (decide (rk key < rk arr[base + i]))).map (!·)=some (decide (rk arr[base + i]<=rk key)):=by simp only[nN,<- decide_not,n_]
  rw[this];exact h
theorem afI{left:Bool}{key:ax}{arr:Array ax}{base n:Nat}(hu:Up rk arr base n){i j:Nat}(hij:i<=j)(hj:j < n)(h:bp rk left key arr base j=true):bp rk left key arr base i=true:=by have:=hu i j hij hj;unfold bp at h ⊢;cases left <;> simp at h ⊢ <;> lia
theorem oZ{st:a_}{left:Bool}{key:ax}{arr:Array ax}{base n hint:Nat}{Q:Option Nat->a_->Prop}(h0:Ax prog w A s κ rk a₀)(hk:kindOf st=κ)(hm:key∈a₀.toList)(ha:∀x∈arr.toList,x∈a₀.toList)
  (hb:base + n<=arr.size) (hh:hint < n) (hu:Up rk arr base n)
  (h:∀k,k<=n->(∀i,i < k->bp rk left key arr base i=true)->(∀i,k<=i->i < n->bp rk left key arr base i=false)->Q (some k) st) :
  wpS (ar prog w) A E s (mK left key arr base n hint) Q st:=by
 have mono:=fun {i j:Nat}(hij:i<=j) (hj:j < n)=>afI (left:=left) (key:=key) hu hij hj;have acN:∀{i j:Nat},i<=j->j < n->bp rk left key arr base i=false->bp rk left key arr base j=false:=fun {i j} hij hj hf=>by
  cases c:bp rk left key arr base j with
  |false=>rfl
  |true=>rw[mono hij hj c]at hf;cases hf
 have last:∀(l0 h0':Nat),l0<=h0'->h0'<=n->(∀i,i < l0->bp rk left key arr base i=true)->(∀i,h0'<=i->i < n->bp rk left key arr base i=false) ->
   ∀(f:Nat->Option (Option Nat)×Nat×Nat->StateT a_ Sem (ForInStep (Option (Option Nat)×Nat×Nat))) (k:Option (Option Nat)×Nat×Nat->StateT a_ Sem (Option Nat)),
   (∀x l hi,f x (none,l,hi)=if l ≥ hi then pure (ForInStep.done (none,l,hi)) else do
    let __x <- bey left key arr base (l + (hi - l) / 2)
    match __x with
    |some more=>if more=true then pure (ForInStep.yield (none,l + (hi - l) / 2 + 1,hi)) else pure (ForInStep.yield (none,l,l + (hi - l) / 2))
    |_=>pure (ForInStep.done (some none,l,hi)))->(∀l hi,k (none,l,hi)=pure (some hi)) ->
   wpS (ar prog w) A E s (do let r <- forIn [0:n] (none,l0,h0') f;k r) Q st:=by
  intro l0 h0' hlh hhn hlo hhi f k hf hkk;refine a6 (eA (eP (I:=fun x c st'=>st'=st/\∃l r,c=(none,l,r)/\l<=r/\r<=n/\r - l<=n - x/\(∀i,i < l->bp rk left key arr base i=true)/\(∀i,r<=i->i < n->bp rk left key arr base i=false))
   (Q:=fun c st'=>st'=st/\∃r,c=(none,r,r)/\r<=n/\(∀i,i < r->bp rk left key arr base i=true)/\(∀i,r<=i->i < n->bp rk left key arr base i=false)) ?step ?jk ⟨rfl,l0,h0',rfl,hlh,hhn,by lia,hlo,hhi⟩) ?post)
  case post =>
   rintro c st' ⟨rfl,r,rfl,h1,h2,h3⟩;rw[hkk];exact bo (h r h1 h2 h3)
  case jk =>
   rintro c st' ⟨rfl,l,r,rfl,h1,h2,h3,h4,h5⟩;obtain rfl:l=r:=by lia
   exact⟨rfl,l,rfl,h2,h4,h5⟩
  case step =>
   rintro x c st' _ hx ⟨rfl,l,r,rfl,h1,h2,h3,h4,h5⟩;rw[hf];by_cases hge:l ≥ r
   ·rw[if_pos hge];obtain rfl:l=r:=by lia
    exact bo ⟨rfl,l,rfl,h2,h4,h5⟩
   ·rw[if_neg hge];refine a6 (Fg h0 hk hm ha (by lia) ?_);cases c:bp rk left key arr base (l + (r - l) / 2) with
    |true =>
     simp only[if_true];exact bo ⟨rfl,_,r,rfl,by lia,h2,by lia,fun i hi=>mono (show i<=l + (r - l) / 2 by lia) (by lia) c,h5⟩
    |false =>
     simp only[b8,if_false];exact bo ⟨rfl,l,_,rfl,by lia,by lia,by lia,h4,fun i h6 h7=>acN h6 h7 c⟩
 rw[Vh];dsimp only;refine a6 (Fg h0 hk hm ha (by lia) ?_);cases c:bp rk left key arr base hint with
 |true =>
  simp only[if_true];refine a6 (eA (eP (I:=fun x c st'=>st'=st/\∃lf tW,c=(none,lf,tW)/\x + 1<=tW/\lf < tW/\hint + lf < n/\bp rk left key arr base (hint + lf)=true)
   (Q:=fun c st'=>st'=st/\∃lf tW,c=(none,lf,tW)/\lf < tW/\hint + lf < n/\bp rk left key arr base (hint + lf)=true/\(n - hint<=tW∨(hint + tW < n/\bp rk left key arr base (hint + tW)=false))) ?step ?jk ⟨rfl,0,1,rfl,by lia,by lia,by lia,c⟩) ?post)
  case post =>
   rintro c st' ⟨rfl,lf,tW,rfl,h1,h2,h3,h4⟩;refine last (hint + lf + 1) (hint + min tW (n - hint)) (by lia) (by lia) (fun i hi=>mono (show i<=hint + lf by lia) h2 h3) (fun i h5 h6=>?_) _ _ (fun x l hi=>rfl) (fun l hi=>rfl);rcases h4 with h4|⟨h7,h8⟩
   ·lia
   ·exact acN (show hint + tW<=i by lia) h6 h8
  case jk =>
   rintro c st' ⟨rfl,lf,tW,rfl,h1,h2,h3,h4⟩;exact⟨rfl,lf,tW,rfl,h2,h3,h4,.inl (by lia)⟩
  case step =>
   rintro x c st' _ hx ⟨rfl,lf,tW,rfl,h1,h2,h3,h4⟩;dsimp only;by_cases hge:tW ≥ n - hint
   ·rw[if_pos hge];exact bo ⟨rfl,lf,tW,rfl,h2,h3,h4,.inl hge⟩
   ·rw[if_neg hge];refine a6 (Fg h0 hk hm ha (by lia) ?_);cases d:bp rk left key arr base (hint + tW) with
    |true =>
     simp only[fS,b8,if_false];exact bo ⟨rfl,tW,2 * tW + 1,rfl,by lia,by lia,by lia,d⟩
    |false =>
     simp only[qs,if_true];exact bo ⟨rfl,lf,tW,rfl,h2,h3,h4,.inr ⟨by lia,d⟩⟩
 |false =>
  simp only[b8,if_false];refine a6 (eA (eP (I:=fun x c st'=>st'=st/\∃lf tW,c=(none,lf,tW)/\x + 1<=tW/\lf < tW/\lf<=hint/\bp rk left key arr base (hint - lf)=false)
   (Q:=fun c st'=>st'=st/\∃lf tW,c=(none,lf,tW)/\lf < tW/\lf<=hint/\bp rk left key arr base (hint - lf)=false/\(hint + 1<=tW∨(tW<=hint/\bp rk left key arr base (hint - tW)=true))) ?step ?jk ⟨rfl,0,1,rfl,by lia,by lia,by lia,c⟩) ?post)
  case post =>
   rintro c st' ⟨rfl,lf,tW,rfl,h1,h2,h3,h4⟩;refine last (hint + 1 - min tW (hint + 1)) (hint - lf) (by lia) (by lia) (fun i hi=>?_) (fun i h5 h6=>acN h5 h6 h3) _ _ (fun x l hi=>rfl) (fun l hi=>rfl);rcases h4 with h4|⟨h7,h8⟩
   ·lia
   ·exact mono (show i<=hint - tW by lia) (by lia) h8
  case jk =>
   rintro c st' ⟨rfl,lf,tW,rfl,h1,h2,h3,h4⟩;exact⟨rfl,lf,tW,rfl,h2,h3,h4,.inl (by lia)⟩
  case step =>
   rintro x c st' _ hx ⟨rfl,lf,tW,rfl,h1,h2,h3,h4⟩;dsimp only;by_cases hge:tW ≥ hint + 1
   ·rw[if_pos hge];exact bo ⟨rfl,lf,tW,rfl,h2,h3,h4,.inl hge⟩
   ·rw[if_neg hge];refine a6 (Fg h0 hk hm ha (by lia) ?_);cases d:bp rk left key arr base (hint - tW) with
    |false =>
     simp only[b8,if_false];exact bo ⟨rfl,tW,2 * tW + 1,rfl,by lia,by lia,by lia,d⟩
    |true =>
     simp only[if_true];exact bo ⟨rfl,lf,tW,rfl,h2,h3,h4,.inr ⟨by lia,d⟩⟩
end
noncomputable abbrev zY(rk:ax->Int)(l:List ax):Prop:=l.Pairwise fun x y=>rk x<=rk y
structure Mg (rk:ax->Int)(a b out:Array ax)(ia ib:Nat):Prop where
 ha:ia<=a.size
 hb:ib<=b.size
 sz:out.size=ia + ib
 pm:(out.toList++(a.toList.drop ia++b.toList.drop ib)).Perm (a.toList++b.toList)
 up:zY rk out.toList
 bd:∀x∈out.toList,∀y∈a.toList.drop ia++b.toList.drop ib,rk x<=rk y
noncomputable def Iv(rk:ax->Int)(a b m:Array ax):Prop:=m.toList.Perm (a.toList++b.toList)/\zY rk m.toList
section
variable{rk:ax->Int}{a b out:Array ax}{ia ib k:Nat}{x y:ax}
theorem vC(a:Array ax)(i j:Nat):(a.extract i j).toList=(a.toList.drop i).take (j - i):=by rw[Array.toList_extract,List.extract_eq_take_drop]
theorem rF(l:List ax)(i k:Nat):l.drop i=(l.drop i).take k++l.drop (i + k):=by rw[<- List.drop_drop,mh]
theorem Mg.xW(h:Mg rk a b out ia ib)(sa:zY rk a.toList)(hk:ia + k<=a.size)(hc:∀x∈(a.toList.drop ia).take k,∀y∈b.toList.drop ib,rk x<=rk y):Mg rk a b (out++a.extract ia (ia + k)) (ia + k) ib:=by
 have e:(a.extract ia (ia + k)).toList=(a.toList.drop ia).take k:=by rw[vC];congr 1;lia
 have sp:=rF a.toList ia k;have sd:zY rk (a.toList.drop ia):=kc (u6 _ _) sa;rw[sp]at sd;obtain⟨s1,s2,s3⟩:=gN.mp sd;refine⟨hk,h.hb,?_,?_,?_,?_⟩
 ·rw[k6,q9,h.sz];lia
 ·rw[ka,e];refine iN.trans (n8 ?_) h.pm
  conv=>rhs;rw[sp]
  simp only[h_]
 ·rw[ka,e];refine gN.mpr ⟨h.up,s1,fun x hx y hy=>h.bd x hx y ?_⟩;rw[sp];simp[hy]
 ·intro x hx y hy;rw[ka,e]at hx;rcases dA.mp hx with hx|hx
  ·refine h.bd x hx y ?_;rw[sp];rcases dA.mp hy with hy|hy
   ·simp[hy]
   ·simp[hy]
  ·rcases dA.mp hy with hy|hy
   ·exact s3 x hx y hy
   ·exact hc x hx y hy
theorem Mg.swap(h:Mg rk a b out ia ib):Mg rk b a out ib ia:=by
 refine⟨h.hb,h.ha,by rw[h.sz,Nat.add_comm],?_,h.up,fun x hx y hy=>h.bd x hx y ?_⟩
 ·refine(n5 _ kg).trans (h.pm.trans kg)
 ·rcases dA.mp hy with hy|hy <;> simp[hy]
theorem Mg.LQ(h:Mg rk a b out ia ib)(sb:zY rk b.toList)(hk:ib + k<=b.size)(hc:∀y∈(b.toList.drop ib).take k,∀x∈a.toList.drop ia,rk y<=rk x):Mg rk a b (out++b.extract ib (ib + k)) ia (ib + k) :=
 (h.swap.xW sb hk hc).swap
theorem Xl{a:Array ax}{i:Nat}{x:ax}(h:a[i]?=some x):out.push x=out++a.extract i (i + 1):=by apply p9.mp;rw[p_,ka,vC];obtain⟨hi,rfl⟩:=fR.mp h;rw[i6 (by simpa using hi),show i + 1 - i=1 by lia];simp
theorem alI{a:Array ax}{i:Nat}{x z:ax}(h:a[i]?=some x)(hz:z∈(a.toList.drop i).take 1):z=x:=by obtain⟨hi,rfl⟩:=fR.mp h;rw[i6 (by simpa using hi)]at hz;simpa using hz
theorem vD{a:Array ax}{i:Nat}{x z:ax}(sa:zY rk a.toList)(h:a[i]?=some x)(hz:z∈a.toList.drop i):rk x<=rk z:=by
 obtain⟨hi,rfl⟩:=fR.mp h;have sd:zY rk (a.toList.drop i):=kc (u6 _ _) sa;rw[i6 (by simpa using hi)]at hz sd;rcases bq.mp hz with rfl|hz
 ·exact gd _
 ·have:=(ke.mp sd).1 z hz;simpa using this
theorem Mg.DG(h:Mg rk a b out ia ib)(sa:zY rk a.toList)(hx:a[ia]?=some x)(hc:∀y∈b.toList.drop ib,rk x<=rk y):Mg rk a b (out.push x) (ia + 1) ib:=by
 rw[Xl hx];obtain⟨hi,_⟩:=fR.mp hx;exact h.xW sa (by lia) fun z hz y hy=>by rw[alI hx hz];exact hc y hy
theorem Mg.Kg(h:Mg rk a b out ia ib)(sb:zY rk b.toList)(hx:b[ib]?=some x)(hc:∀y∈a.toList.drop ia,rk x<=rk y):Mg rk a b (out.push x) ia (ib + 1):=(h.swap.DG sb hx hc).swap
theorem Mg.done(h:Mg rk a b out ia ib)(sa:zY rk a.toList)(sb:zY rk b.toList)(hc:∀x∈a.toList.drop ia,∀y∈b.toList.drop ib,rk x<=rk y):Iv rk a b (out++a.extract ia a.size++b.extract ib b.size):=by
 have ha:=h.ha;have hb:=h.hb;have h1:=h.xW (k:=a.size - ia) sa (by lia) fun x hx y hy=>hc x (qf hx) y hy;rw[show ia + (a.size - ia)=a.size by lia]at h1;have h2:=h1.LQ (k:=b.size - ib) sb (by lia) fun y hy x hx=>by rw[l5 (by simp)]at hx;cases hx
 rw[show ib + (b.size - ib)=b.size by lia]at h2;refine⟨?_,h2.up⟩;have:=h2.pm;rw[l5 (by simp),l5 (by simp)]at this;simpa using this
theorem Mg.acO(h:Mg rk a b out ia ib)(sa:zY rk a.toList)(sb:zY rk b.toList)(hc:∀y∈b.toList.drop ib,∀x∈a.toList.drop ia,rk y<=rk x):Iv rk a b (out++b.extract ib b.size++a.extract ia a.size):=by obtain⟨h1,h2⟩:=h.swap.done sb sa hc;exact⟨h1.trans kg,h2⟩
theorem rm{a:Array ax}{i k:Nat}{z:ax}(hz:z∈(a.toList.drop i).take k):∃j,j < k/\a[i + j]?=some z:=by
 obtain⟨j,hj⟩:=k7.mp hz;have hk:j < k:=by
  rcases q_ j k with h|h
  ·exact h
  ·rw[rf h]at hj;cases hj
 rw[lL hk,oa]at hj;exact⟨j,hk,by simpa using hj⟩
theorem Ft{a:Array ax}{i:Nat}{z:ax}(hz:z∈a.toList.drop i):∃j,i + j < a.size/\a[i + j]?=some z:=by
 obtain⟨j,hj⟩:=k7.mp hz;rw[oa]at hj;have h2:a[i + j]?=some z:=by simpa using hj
 exact⟨j,(fR.mp h2).1,h2⟩
theorem Ro(sa:zY rk a.toList)(i n:Nat)(h:i + n<=a.size):Up rk a i n:=by
 intro p q hpq hq;have hp':i + p < a.size:=by lia
 have hq':i + q < a.size:=by lia
 rw[mQ (getElem?_pos a (i + p) hp'),mQ (getElem?_pos a (i + q) hq')];by_cases e:p=q
 ·subst e;exact gd _
 ·have:=kR.mp sa (i + p) (i + q) (by simpa using hp') (by simpa using hq') (by lia);simpa using this
end
noncomputable def Gv:Array Keyed->Array Keyed->StateT SortSt Sem (Array Keyed):=sortPriv% PySem.Builtin.mergeLo
noncomputable def ur(g:Nat):StateT a_ Sem Unit:=modify fun s=>rh (kindOf s) (aI s) (bS s) g (eT s)
theorem Rp(a b:Array ax):Gv a b=(do
 rule "list.sort.merge-lo"
 let total:=a.size + b.size
 let done (out:Array ax) (ia ib:Nat):=out++a.extract ia a.size++b.extract ib b.size
 let lastOfA (out:Array ax) (ia ib:Nat):=out++b.extract ib b.size++a.extract ia a.size
 let mut out:Array ax:=#[<- c_ b 0]
 let mut ia:=0
 let mut ib:=1
 if ib == b.size then return done out ia ib
 if ia + 1 == a.size then return lastOfA out ia ib
 let mut minGallop:=gallopOf (<- get)
 for _ in [0:total] do
  let mut acount:=0
  let mut bcount:=0
  for _ in [0:total] do
   let some bWins <- lt' (<- c_ b ib) (<- c_ a ia)|return done out ia ib
   if bWins then
    out:=out.push (<- c_ b ib);ib:=ib + 1;bcount:=bcount + 1;acount:=0
    if ib == b.size then return done out ia ib
    if bcount ≥ minGallop then break
   else
    out:=out.push (<- c_ a ia);ia:=ia + 1;acount:=acount + 1;bcount:=0
    if ia + 1 == a.size then return lastOfA out ia ib
    if acount ≥ minGallop then break
  rule "list.sort.gallop"
  minGallop:=minGallop + 1
  for _ in [0:total] do
   if minGallop > 1 then minGallop:=minGallop - 1
   ur minGallop
   let some k <- mK false (<- c_ b ib) a ia (a.size - ia) 0|return done out ia ib
   acount:=k
   if k > 0 then
    out:=out++a.extract ia (ia + k);ia:=ia + k
    if ia + 1 == a.size then return lastOfA out ia ib
    if ia == a.size then return done out ia ib
   out:=out.push (<- c_ b ib);ib:=ib + 1
   if ib == b.size then return done out ia ib
   let some k <- mK true (<- c_ a ia) b ib (b.size - ib) 0|return done out ia ib
   bcount:=k
   if k > 0 then
    out:=out++b.extract ib (ib + k);ib:=ib + k
    if ib == b.size then return done out ia ib
   out:=out.push (<- c_ a ia);ia:=ia + 1
   if ia + 1 == a.size then return lastOfA out ia ib
   if acount < 7 && bcount < 7 then break
  minGallop:=minGallop + 1
  ur minGallop
 unsupported "internal:list.sort.merge-bound"):=rfl
noncomputable abbrev LoS:=Option (Array ax)×Array ax×Nat×Nat×Nat×Nat×Nat
noncomputable def Xm(a b out:Array ax)(ia ib mg ac bc:Nat):StateT a_ Sem (ForInStep LoS):=do
 let x <- c_ a ia
 if (ia + 1 + 1 == a.size)=true then pure (.done (some (out.push x++b.extract ib b.size++a.extract (ia + 1) a.size),out.push x,ia + 1,ib,mg,ac,bc))
 else if (decide (ac < 7) && decide (bc < 7))=true then pure (.done (none,out.push x,ia + 1,ib,mg,ac,bc))
 else pure (.yield (none,out.push x,ia + 1,ib,mg,ac,bc))
noncomputable def Ma(a b out:Array ax)(ia ib mg ac bc:Nat):StateT a_ Sem (ForInStep LoS):=do
 let y <- c_ b ib
 if (ib + 1 == b.size)=true then pure (.done (some (out.push y++a.extract ia a.size++b.extract (ib + 1) b.size),out.push y,ia,ib + 1,mg,ac,bc))
 else do
  let x <- c_ a ia
  let __x <- mK true x b (ib + 1) (b.size - (ib + 1)) 0
  match __x with
  |some k =>
   if k > 0 then
    if (ib + 1 + k == b.size)=true then pure (.done (some (out.push y++b.extract (ib + 1) (ib + 1 + k)++a.extract ia a.size++b.extract (ib + 1 + k) b.size),out.push y++b.extract (ib + 1) (ib + 1 + k),ia,ib + 1 + k,mg,ac,k))
    else Xm a b (out.push y++b.extract (ib + 1) (ib + 1 + k)) ia (ib + 1 + k) mg ac k
   else Xm a b (out.push y) ia (ib + 1) mg ac k
  |_=>pure (.done (some (out.push y++a.extract ia a.size++b.extract (ib + 1) b.size),out.push y,ia,ib + 1,mg,ac,bc))
noncomputable def gB(st st':a_):Prop:=aI st'=aI st/\kindOf st'=kindOf st/\bS st'=bS st/\eT st'=eT st
theorem gB.refl(st:a_):gB st st:=⟨rfl,rfl,rfl,rfl⟩
theorem gB.trans{x y z:a_}(h:gB x y)(g:gB y z):gB x z:=⟨g.1.trans h.1,g.2.1.trans h.2.1,g.2.2.1.trans h.2.2.1,g.2.2.2.trans h.2.2.2⟩
section
variable{prog:aE}{w:ay}{A:aT}{E:aa->af->Prop}{s:af}{a₀:Array ax}{κ:eS}{rk:ax->Int}{a b:Array ax}
theorem uw{g:Nat}{Q:Unit->a_->Prop}{st:a_}(h:∀st',gB st st'->Q () st'):wpS (ar prog w) A E s (ur g) Q st :=
 iO (h _ ⟨rfl,rfl,rfl,rfl⟩)
structure Rq (prog:aE)(w:ay)(A:aT)(s:af)(κ:eS)(rk:ax->Int)(a₀ a b:Array ax):Prop where
 h0:Ax prog w A s κ rk a₀
 sa:zY rk a.toList
 sb:zY rk b.toList
 ma:∀x∈a.toList,x∈a₀.toList
 mb:∀x∈b.toList,x∈a₀.toList
 la:0 < a.size
 lb:0 < b.size
 lt0:R rk b 0 < R rk a 0
 last:∀x∈b.toList,rk x<=R rk a (a.size - 1)
theorem tY{xs:Array ax}{i:Nat}{x:ax}(h:xs[i]?=some x):x∈xs.toList:=by obtain⟨hi,rfl⟩:=fR.mp h;simp
theorem jx{xs:Array ax}{i:Nat}(h:i < xs.size):∃x,xs[i]?=some x:=⟨_,getElem?_pos xs i h⟩
theorem Rq.Xn(m:Rq prog w A s κ rk a₀ a b){out:Array ax}{ia ib:Nat}(h:Mg rk a b out ia ib)(e:ia + 1=a.size):Iv rk a b (out++b.extract ib b.size++a.extract ia a.size):=by refine h.acO m.sa m.sb fun y hy x hx=>?_;obtain⟨x',hx'⟩:=jx (xs:=a) (i:=ia) (by lia);have e1:=m.last y (List.mem_of_mem_drop hy);rw[show a.size - 1=ia by lia,mQ hx']at e1;exact eI e1 (vD m.sa hx' hx)
theorem Rq.afJ(m:Rq prog w A s κ rk a₀ a b){out:Array ax}{ia ib:Nat}(h:Mg rk a b out ia ib)(e:ib=b.size):Iv rk a b (out++a.extract ia a.size++b.extract ib b.size):=by refine h.done m.sa m.sb fun x hx y hy=>?_;subst e;rw[l5 (by simp)]at hy;cases hy
noncomputable def LoQ(rk:ax->Int)(a b:Array ax)(κ:eS)(st:a_)(n:Nat):ForInStep LoS->a_->Prop:=fun r st'=>gB st st'/\match r with
 | .done c=>(∃m,c.1=some m/\Iv rk a b m)∨(c.1=none/\Mg rk a b c.2.1 c.2.2.1 c.2.2.2.1/\c.2.2.1 + 1 < a.size/\c.2.2.2.1 < b.size/\n<=c.2.1.size)
 | .yield c=>c.1=none/\Mg rk a b c.2.1 c.2.2.1 c.2.2.2.1/\c.2.2.1 + 1 < a.size/\c.2.2.2.1 < b.size/\n < c.2.1.size
theorem Kh(m:Rq prog w A s κ rk a₀ a b){out:Array ax}{ia ib mg ac bc n:Nat}{st0 st:a_}(hS:gB st0 st)(h:Mg rk a b out ia ib)(h1:ia + 1 < a.size)(h2:ib < b.size)(hn:n<=out.size)(hc:∀x y,a[ia]?=some x->y∈b.toList.drop ib->rk x<=rk y) :
  wpS (ar prog w) A E s (Xm a b out ia ib mg ac bc) (LoQ rk a b κ st0 n) st:=by
 unfold Xm;obtain⟨x,hx⟩:=jx (xs:=a) (i:=ia) (by lia);refine a6 (cO hx ?_);have h':=h.DG m.sa hx (fun y hy=>hc x y hx hy);have sz:n < (out.push x).size:=by rw[g9];lia
 split
 ·rename_i e;exact bo ⟨hS,.inl ⟨_,rfl,m.Xn h' (by simpa using e)⟩⟩
 ·rename_i e;have e':ia + 1 + 1 < a.size:=by
   have:¬ia + 1 + 1=a.size:=by simpa using e
   lia
  split
  ·exact bo ⟨hS,.inr ⟨rfl,h',e',h2,hG sz⟩⟩
  ·exact bo ⟨hS,rfl,h',e',h2,sz⟩
theorem Gw(m:Rq prog w A s κ rk a₀ a b){out:Array ax}{ia ib mg ac bc n:Nat}{st0 st:a_}(hk:kindOf st=κ)(hS:gB st0 st)(h:Mg rk a b out ia ib)(h1:ia + 1 < a.size)(h2:ib < b.size)(hn:n<=out.size)(hc:∀y x,b[ib]?=some y->x∈a.toList.drop ia->rk y<=rk x) :
  wpS (ar prog w) A E s (Ma a b out ia ib mg ac bc) (LoQ rk a b κ st0 n) st:=by
 unfold Ma;obtain⟨y,hy⟩:=jx (xs:=b) (i:=ib) h2;refine a6 (cO hy ?_);have h':=h.Kg m.sb hy (fun x hx=>hc y x hy hx);have sz:n < (out.push y).size:=by rw[g9];lia
 split
 ·rename_i e;exact bo ⟨hS,.inl ⟨_,rfl,m.afJ h' (by simpa using e)⟩⟩
 ·rename_i e;have e':ib + 1 < b.size:=by
   have:¬ib + 1=b.size:=by simpa using e
   lia
  obtain⟨x,hx⟩:=jx (xs:=a) (i:=ia) (by lia);refine a6 (cO hx ?_);refine a6 (oZ m.h0 hk (m.ma x (tY hx)) m.mb (by lia) (by lia) (Ro m.sb _ _ (by lia)) fun k k1 k2 k3=>?_);have chunk:∀z∈(b.toList.drop (ib + 1)).take k,∀v∈a.toList.drop ia,rk z<=rk v:=fun z hz v hv=>by
   obtain⟨j,hj,ej⟩:=rm hz;have:=k2 j hj;unfold bp at this;rw[mQ ej]at this;have q:rk z < rk x:=by simpa using this
   exact eI (gf q) (vD m.sa hx hv)
  have rest:∀v,v∈b.toList.drop (ib + 1 + k)->rk x<=rk v:=fun v hv=>by obtain⟨j,hj,ej⟩:=Ft hv;rw[og (ib + 1) k j]at ej;have:=k3 (k + j) (by lia) (by lia);unfold bp at this;rw[mQ ej]at this;simpa using this
  dsimp only;split
  ·rename_i kp;have h'':=h'.LQ m.sb (k:=k) (by lia) chunk;have sz':n<=(out.push y++b.extract (ib + 1) (ib + 1 + k)).size:=by rw[k6];lia
   split
   ·rename_i e2;exact bo ⟨hS,.inl ⟨_,rfl,m.afJ h'' (by simpa using e2)⟩⟩
   ·rename_i e2;have e2':ib + 1 + k < b.size:=by
     have:¬ib + 1 + k=b.size:=by simpa using e2
     lia
    exact Kh m hS h'' h1 e2' sz' fun x' v hx' hv=>by rw[hx]at hx';cases hx';exact rest v hv
  ·rename_i kp;obtain rfl:k=0:=by lia
   exact Kh m hS h' h1 e' (hG sz) fun x' v hx' hv=>by rw[hx]at hx';cases hx';exact rest v hv
end
section
variable{prog:aE}{w:ay}{A:aT}{E:aa->af->Prop}{s:af}{a₀:Array ax}{κ:eS}{rk:ax->Int}{a b:Array ax}
theorem Mg.nil:Mg rk a b #[] 0 0:=⟨eD _,eD _,rfl,by simp,by simp,fun x hx=>by simp at hx⟩
theorem lD{a b:Nat}(h:¬(a == b)=true):a≠b:=fun e=>h (by simp[e])
theorem pL{a b:Nat}(h:(a == b)=true):a=b:=by simpa using h
theorem dw{α:Type}{c:Prop}[Decidable c]{t f:StateT a_ Sem α}{Q:α->a_->Prop}{st:a_}(ht:c->wpS (ar prog w) A E s t Q st)(hf:¬c->wpS (ar prog w) A E s f Q st):wpS (ar prog w) A E s (if c then t else f) Q st:=by
 by_cases h:c
 ·rw[if_pos h];exact ht h
 ·rw[if_neg h];exact hf h
theorem Gx(m:Rq prog w A s κ rk a₀ a b){out:Array ax}{ia ib n:Nat}{st0 st:a_}(hk:kindOf st=κ)(hS:gB st0 st)(h:Mg rk a b out ia ib)(h1:ia + 1 < a.size)(h2:ib < b.size)(hn:n<=out.size)
  {f:Option Nat->StateT a_ Sem (ForInStep LoS)}{mg bc:Nat}(hf:∀k,f (some k)=if k > 0 then
    if (ia + k + 1 == a.size)=true then pure (.done (some (out++a.extract ia (ia + k)++b.extract ib b.size++a.extract (ia + k) a.size),out++a.extract ia (ia + k),ia + k,ib,mg,k,bc))
    else if (ia + k == a.size)=true then pure (.done (some (out++a.extract ia (ia + k)++a.extract (ia + k) a.size++b.extract ib b.size),out++a.extract ia (ia + k),ia + k,ib,mg,k,bc))
    else Ma a b (out++a.extract ia (ia + k)) (ia + k) ib mg k bc
   else Ma a b out ia ib mg k bc) :
  wpS (ar prog w) A E s (do let y <- c_ b ib;let r <- mK false y a ia (a.size - ia) 0;f r) (LoQ rk a b κ st0 n) st:=by
 obtain⟨y,hy⟩:=jx (xs:=b) (i:=ib) h2;refine a6 (cO hy ?_);refine a6 (oZ m.h0 hk (m.mb y (tY hy)) m.ma (by lia) (by lia) (Ro m.sa _ _ (by lia)) fun k k1 k2 k3=>?_);rw[hf];have chunk:∀z∈(a.toList.drop ia).take k,∀v∈b.toList.drop ib,rk z<=rk v:=fun z hz v hv=>by
  obtain⟨j,hj,ej⟩:=rm hz;have:=k2 j hj;unfold bp at this;rw[mQ ej]at this;have q:rk z<=rk y:=by simpa using this
  exact eI q (vD m.sb hy hv)
 have rest:∀v,v∈a.toList.drop (ia + k)->rk y<=rk v:=fun v hv=>by
  obtain⟨j,hj,ej⟩:=Ft hv;rw[og ia k j]at ej;have:=k3 (k + j) (by lia) (by lia);unfold bp at this;rw[mQ ej]at this;have q:rk y < rk v:=by simpa using this
  exact gf q
 split
 ·rename_i kp;have h':=h.xW m.sa (k:=k) (by lia) chunk;have sz':n<=(out++a.extract ia (ia + k)).size:=by rw[k6];lia
  split
  ·rename_i e;exact bo ⟨hS,.inl ⟨_,rfl,m.Xn h' (pL e)⟩⟩
  ·rename_i e;have e:=lD e;split
   ·rename_i e2;refine bo ⟨hS,.inl ⟨_,rfl,h'.done m.sa m.sb fun x hx=>?_⟩⟩;rw[pL e2,l5 (by simp)]at hx;cases hx
   ·rename_i e2;have e2:=lD e2;exact Gw m hk hS h' (by lia) h2 sz' fun y' x hy' hx=>by rw[hy]at hy';cases hy';exact rest x hx
 ·rename_i kp;obtain rfl:k=0:=by lia
  exact Gw m hk hS h h1 h2 hn fun y' x hy' hx=>by rw[hy]at hy';cases hy';exact rest x hx
theorem Rr(m:Rq prog w A s κ rk a₀ a b){st:a_}(hk:kindOf st=κ){Q:Array ax->a_->Prop}(h:∀mm st',gB st st'->Iv rk a b mm->Q mm st') :
  wpS (ar prog w) A E s (Gv a b) Q st:=by
 rw[Rp];dsimp only;refine a6 (kX (ij ⟨rfl,?_⟩));obtain⟨y0,hy0⟩:=jx (xs:=b) (i:=0) m.lb;obtain⟨x0,hx0⟩:=jx (xs:=a) (i:=0) m.la;refine a6 (cO hy0 ?_);have l0:=m.lt0;rw[mQ hy0,mQ hx0]at l0;have M0:Mg rk a b #[y0] 0 1:=Mg.nil.Kg m.sb hy0 fun v hv=>eI (gf l0) (vD m.sa hx0 hv);have la:=m.la;have lb:=m.lb;refine dw (fun e=>bo (h _ _ (.refl _) (m.afJ M0 (pL e)))) fun e1=>?_;have e1:=lD e1;refine dw (fun e=>bo (h _ _ (.refl _) (m.Xn M0 (pL e)))) fun e2=>?_;have e2:=lD e2;refine a6 (gT ?_);refine a6 (eA (eP (I:=fun x c st'=>gB st st'/\∃out ia ib mg,c=(none,out,ia,ib,mg)/\Mg rk a b out ia ib/\ia + 1 < a.size/\ib < b.size/\x + 1<=out.size)
  (Q:=fun c st'=>gB st st'/\∃mm rest,c=(some mm,rest)/\Iv rk a b mm) ?step ?jk ⟨.refl _,#[y0],0,1,_,rfl,M0,by lia,by lia,by simp⟩) ?post)
 case post =>
  rintro c st' ⟨hS,mm,rest,rfl,hr⟩;exact bo (h mm st' hS hr)
 case jk =>
  rintro c st' ⟨hS,out,ia,ib,mg,rfl,hM,h1,h2,h3⟩;have:=hM.sz;lia
 case step =>
  rintro x c st' _ hx ⟨hS,out,ia,ib,mg,rfl,hM,h1,h2,h3⟩;dsimp only;refine a6 (eA (eP (I:=fun y c st''=>gB st st''/\∃out ia ib ac bc,c=(none,out,ia,ib,ac,bc)/\Mg rk a b out ia ib/\ia + 1 < a.size/\ib < b.size/\x + 1 + y<=out.size)
   (Q:=fun c st''=>gB st st''/\((∃mm rest,c=(some mm,rest)/\Iv rk a b mm)∨∃out ia ib ac bc,c=(none,out,ia,ib,ac,bc)/\Mg rk a b out ia ib/\ia + 1 < a.size/\ib < b.size/\x + 2<=out.size)) ?istep ?ifin ⟨hS,out,ia,ib,0,0,rfl,hM,h1,h2,by lia⟩) ?ipost)
  case ifin =>
   rintro c st'' ⟨hS,out,ia,ib,ac,bc,rfl,hM,h1,h2,h3⟩;have:=hM.sz;lia
  case istep =>
   rintro y c st'' _ hy ⟨hS,out,ia,ib,ac,bc,rfl,hM,h1,h2,h3⟩;dsimp only;obtain⟨p,hp⟩:=jx (xs:=b) (i:=ib) h2;obtain⟨q,hq⟩:=jx (xs:=a) (i:=ia) (by lia);refine a6 (cO hp (a6 (cO hq (a6 (Gs m.h0 (hS.2.1.trans hk) (m.mb p (tY hp)) (m.ma q (tY hq)) ?_)))));by_cases c:rk p < rk q
   ·simp only[c,decide_true,if_true];refine a6 (cO hp ?_);have hM':=hM.Kg m.sb hp fun v hv=>eI (gf c) (vD m.sa hq hv);split
    ·rename_i e;exact bo ⟨hS,.inl ⟨_,_,rfl,m.afJ hM' (pL e)⟩⟩
    ·rename_i e;have e:=lD e;split
     ·exact bo ⟨hS,.inr ⟨_,_,_,_,_,rfl,hM',h1,by lia,by rw[g9];lia⟩⟩
     ·exact bo ⟨hS,_,_,_,_,_,rfl,hM',h1,by lia,by rw[g9];lia⟩
   ·simp only[c,decide_false,b8,if_false];refine a6 (cO hq ?_);have hM':=hM.DG m.sa hq fun v hv=>eI (n_.mp c) (vD m.sb hp hv);split
    ·rename_i e;exact bo ⟨hS,.inl ⟨_,_,rfl,m.Xn hM' (pL e)⟩⟩
    ·rename_i e;have e:=lD e;split
     ·exact bo ⟨hS,.inr ⟨_,_,_,_,_,rfl,hM',by lia,h2,by rw[g9];lia⟩⟩
     ·exact bo ⟨hS,_,_,_,_,_,rfl,hM',by lia,h2,by rw[g9];lia⟩
  case ipost =>
   rintro c st'' ⟨hS,⟨mm,rest,rfl,hr⟩|⟨out,ia,ib,ac,bc,rfl,hM,h1,h2,h3⟩⟩
   ·exact bo ⟨hS,mm,_,rfl,hr⟩
   ·dsimp only;refine a6 (kX (ij ⟨rfl,?_⟩));refine a6 (eA (eP (I:=fun y c st3=>gB st st3/\∃out ia ib mg ac bc,c=(none,out,ia,ib,mg,ac,bc)/\Mg rk a b out ia ib/\ia + 1 < a.size/\ib < b.size/\x + 2 + y<=out.size)
     (Q:=fun c st3=>gB st st3/\((∃mm rest,c=(some mm,rest)/\Iv rk a b mm)∨∃out ia ib mg ac bc,c=(none,out,ia,ib,mg,ac,bc)/\Mg rk a b out ia ib/\ia + 1 < a.size/\ib < b.size/\x + 2<=out.size)) ?acP ?aje ⟨hS,out,ia,ib,_,ac,bc,rfl,hM,h1,h2,by lia⟩) ?acQ)
    case aje =>
     rintro c st3 ⟨hS,out,ia,ib,mg,ac,bc,rfl,hM,h1,h2,h3⟩;have:=hM.sz;lia
    case acQ =>
     rintro c st3 ⟨hS,⟨mm,rest,rfl,hr⟩|⟨out,ia,ib,mg,ac,bc,rfl,hM,h1,h2,h3⟩⟩
     ·exact bo ⟨hS,mm,_,rfl,hr⟩
     ·dsimp only;refine a6 (uw fun JV PN=>?_);exact bo ⟨hS.trans PN,_,_,_,_,rfl,hM,h1,h2,by lia⟩
    case acP =>
     rintro y c st3 _ hy ⟨hS,out,ia,ib,mg,ac,bc,rfl,hM,h1,h2,h3⟩;have cD:∀(c:LoS) (st':a_),LoQ rk a b κ st (x + 2 + y) (.done c) st'->gB st st'/\((∃mm rest,c=(some mm,rest)/\Iv rk a b mm)∨∃out ia ib mg ac bc,c=(none,out,ia,ib,mg,ac,bc)/\Mg rk a b out ia ib/\ia + 1 < a.size/\ib < b.size/\x + 2<=out.size):=by
      rintro⟨c1,out,ia,ib,mg,ac,bc⟩ st' ⟨hS,⟨mm,e,hr⟩|⟨e,hM,h1,h2,h3⟩⟩
      ·cases e;exact⟨hS,.inl ⟨mm,_,rfl,hr⟩⟩
      ·cases e;dsimp only at h1 h2 h3;exact⟨hS,.inr ⟨_,_,_,_,_,_,rfl,hM,h1,h2,by lia⟩⟩
     have cY:∀(c:LoS) (st':a_),LoQ rk a b κ st (x + 2 + y) (.yield c) st'->gB st st'/\∃out ia ib mg ac bc,c=(none,out,ia,ib,mg,ac,bc)/\Mg rk a b out ia ib/\ia + 1 < a.size/\ib < b.size/\x + 2 + (y + 1)<=out.size:=by rintro⟨c1,out,ia,ib,mg,ac,bc⟩ st' ⟨hS,e,hM,h1,h2,h3⟩;cases e;dsimp only at h1 h2 h3;exact⟨hS,_,_,_,_,_,_,rfl,hM,h1,h2,by lia⟩
     dsimp only;refine dw (fun _=>?_) (fun _=>?_)
     ·refine a6 (uw fun JV PN=>?_);exact eA (Gx m ((hS.trans PN).2.1.trans hk) (hS.trans PN) hM h1 h2 h3 (fun k=>rfl)) fun r st' hq=>match r,hq with|.done c,hq=>cD c st' hq|.yield c,hq=>cY c st' hq
     ·refine a6 (uw fun JV PN=>?_);exact eA (Gx m ((hS.trans PN).2.1.trans hk) (hS.trans PN) hM h1 h2 h3 (fun k=>rfl)) fun r st' hq=>match r,hq with|.done c,hq=>cD c st' hq|.yield c,hq=>cY c st' hq
end
noncomputable def Gy:Array Keyed->Array Keyed->StateT SortSt Sem (Array Keyed):=sortPriv% PySem.Builtin.mergeHi
theorem Rt(a b:Array ax):Gy a b=(do
 rule "list.sort.merge-hi"
 let total:=a.size + b.size
 let done (out:Array ax) (na nb:Nat):=a.extract 0 na++b.extract 0 nb++out.reverse
 let firstOfB (out:Array ax) (na nb:Nat):=b.extract 0 nb++a.extract 0 na++out.reverse
 let mut na:=a.size - 1
 let mut nb:=b.size
 let mut out:Array ax:=#[<- c_ a na]
 if na == 0 then return done out na nb
 if nb == 1 then return firstOfB out na nb
 let mut minGallop:=gallopOf (<- get)
 for _ in [0:total] do
  let mut acount:=0
  let mut bcount:=0
  for _ in [0:total] do
   let some aWins <- lt' (<- c_ b (nb - 1)) (<- c_ a (na - 1))|return done out na nb
   if aWins then
    na:=na - 1;out:=out.push (<- c_ a na);acount:=acount + 1;bcount:=0
    if na == 0 then return done out na nb
    if acount ≥ minGallop then break
   else
    nb:=nb - 1;out:=out.push (<- c_ b nb);bcount:=bcount + 1;acount:=0
    if nb == 1 then return firstOfB out na nb
    if bcount ≥ minGallop then break
  rule "list.sort.gallop"
  minGallop:=minGallop + 1
  for _ in [0:total] do
   if minGallop > 1 then minGallop:=minGallop - 1
   ur minGallop
   let some at_ <- mK false (<- c_ b (nb - 1)) a 0 na (na - 1)|return done out na nb
   let k:=na - at_
   acount:=k
   if k > 0 then
    out:=out++(a.extract at_ na).reverse;na:=at_
    if na == 0 then return done out na nb
   nb:=nb - 1;out:=out.push (<- c_ b nb)
   if nb == 1 then return firstOfB out na nb
   let some at_ <- mK true (<- c_ a (na - 1)) b 0 nb (nb - 1)|return done out na nb
   let k:=nb - at_
   bcount:=k
   if k > 0 then
    out:=out++(b.extract at_ nb).reverse;nb:=at_
    if nb == 1 then return firstOfB out na nb
    if nb == 0 then return done out na nb
   na:=na - 1;out:=out.push (<- c_ a na)
   if na == 0 then return done out na nb
   if acount < 7 && bcount < 7 then break
  minGallop:=minGallop + 1
  ur minGallop
 unsupported "internal:list.sort.merge-bound"):=rfl
structure Mh (rk:ax->Int)(a b out:Array ax)(na nb:Nat):Prop where
 ha:na<=a.size
 hb:nb<=b.size
 sz:out.size + (na + nb)=a.size + b.size
 pm:((a.toList.take na++b.toList.take nb)++out.toList.reverse).Perm (a.toList++b.toList)
 up:zY rk out.toList.reverse
 bd:∀y∈a.toList.take na++b.toList.take nb,∀x∈out.toList,rk y<=rk x
section
variable{rk:ax->Int}{a b out:Array ax}{na nb k:Nat}{x y:ax}
theorem Vi(l:List ax){i n:Nat}(h:i<=n):l.take n=l.take i++(l.take n).drop i:=by
 conv=>lhs;rw[<- mh i (l.take n)]
 rw[List.take_take,Nat.min_eq_left h]
theorem Mh.xW(h:Mh rk a b out na nb)(sa:zY rk a.toList)(hk:k<=na)(hc:∀x∈(a.toList.take na).drop k,∀y∈b.toList.take nb,rk y<=rk x):Mh rk a b (out++(a.extract k na).reverse) k nb:=by
 have ha:=h.ha;have e:(a.extract k na).toList=(a.toList.take na).drop k:=by rw[vC,List.drop_take]
 have sp:=Vi a.toList hk;have sd:zY rk (a.toList.take na):=kc (nv _ _) sa;rw[sp]at sd;obtain⟨s1,s2,s3⟩:=gN.mp sd;have er:(out++(a.extract k na).reverse).toList.reverse=(a.toList.take na).drop k++out.toList.reverse:=by rw[ka,List.reverse_append,Array.toList_reverse,List.reverse_reverse,e]
 refine⟨by lia,h.hb,?_,?_,?_,?_⟩
 ·have:=h.sz;rw[k6,Array.size_reverse,q9];lia
 ·rw[er];refine iN.trans ?_ h.pm
  conv=>rhs;rw[sp]
  simp only[h_];refine n5 _ ?_;rw[<- h_,<- h_];exact vE _ kg
 ·rw[er];refine gN.mpr ⟨s2,h.up,fun x hx y hy=>h.bd x ?_ y (rj.mp hy)⟩;rw[sp];simp[hx]
 ·intro y hy x hx;have hx':x∈(a.toList.take na).drop k++out.toList.reverse:=by rw[<- er];exact rj.mpr hx
  rcases dA.mp hx' with hx|hx
  ·rcases dA.mp hy with hy|hy
   ·exact s3 y hy x hx
   ·exact hc x hx y hy
  ·refine h.bd y ?_ x (rj.mp hx);rw[sp];rcases dA.mp hy with hy|hy <;> simp[hy]
theorem Mh.swap(h:Mh rk a b out na nb):Mh rk b a out nb na:=by
 refine⟨h.hb,h.ha,by have:=h.sz;lia,?_,h.up,fun y hy x hx=>h.bd y ?_ x hx⟩
 ·exact(vE _ kg).trans (h.pm.trans kg)
 ·rcases dA.mp hy with hy|hy <;> simp[hy]
theorem Mh.LQ(h:Mh rk a b out na nb)(sb:zY rk b.toList)(hk:k<=nb)(hc:∀y∈(b.toList.take nb).drop k,∀x∈a.toList.take na,rk x<=rk y):Mh rk a b (out++(b.extract k nb).reverse) na k :=
 (h.swap.xW sb hk hc).swap
theorem acR{a:Array ax}{n:Nat}{x:ax}(hn:0 < n)(h:a[n - 1]?=some x):out.push x=out++(a.extract (n - 1) n).reverse:=by
 have e:=Xl (out:=#[]) h;have e2:a.extract (n - 1) n=#[x]:=by rw[show n - 1 + 1=n by lia]at e;simpa using e.symm
 rw[e2];rfl
theorem anT{a:Array ax}{n:Nat}{x z:ax}(hn:0 < n)(h:a[n - 1]?=some x)(hz:z∈(a.toList.take n).drop (n - 1)):z=x:=by
 obtain⟨j,hj⟩:=k7.mp hz;rw[oa]at hj;have hl:n - 1 + j < n:=by
  rcases q_ (n - 1 + j) n with q|q
  ·exact q
  ·rw[rf q]at hj;cases hj
 obtain rfl:j=0:=by lia
 rw[lL hl]at hj;have:a[n - 1]?=some z:=by simpa using hj
 rw[this]at h;cases h;rfl
theorem Bo{a:Array ax}{n:Nat}{x z:ax}(hn:0 < n)(sa:zY rk a.toList)(h:a[n - 1]?=some x)(hz:z∈a.toList.take n):rk z<=rk x:=by
 obtain⟨j,hj⟩:=k7.mp hz;have hl:j < n:=by
  rcases q_ j n with q|q
  ·exact q
  ·rw[rf q]at hj;cases hj
 rw[lL hl]at hj;have hj':a[j]?=some z:=by simpa using hj
 obtain⟨q1,_⟩:=fR.mp hj';obtain⟨q2,_⟩:=fR.mp h;have:=Ro sa 0 a.size (by lia) j (n - 1) (by lia) (by lia);rw[jn,jn,mQ hj',mQ h]at this;exact this
theorem Mh.DG(h:Mh rk a b out na nb)(sa:zY rk a.toList)(hn:0 < na)(hx:a[na - 1]?=some x)(hc:∀y∈b.toList.take nb,rk y<=rk x):Mh rk a b (out.push x) (na - 1) nb:=by
 rw[acR hn hx];exact h.xW sa (by lia) fun z hz y hy=>by rw[anT hn hx hz];exact hc y hy
theorem Mh.Kg(h:Mh rk a b out na nb)(sb:zY rk b.toList)(hn:0 < nb)(hx:b[nb - 1]?=some x)(hc:∀y∈a.toList.take na,rk y<=rk x):Mh rk a b (out.push x) na (nb - 1):=(h.swap.DG sb hn hx hc).swap
theorem Mh.done(h:Mh rk a b out na nb)(sa:zY rk a.toList)(sb:zY rk b.toList)(hc:∀x∈a.toList.take na,∀y∈b.toList.take nb,rk x<=rk y):Iv rk a b (a.extract 0 na++b.extract 0 nb++out.reverse):=by
 have e:(a.extract 0 na++b.extract 0 nb++out.reverse).toList=(a.toList.take na++b.toList.take nb)++out.toList.reverse:=by rw[ka,ka,vC,vC,Array.toList_reverse];simp
 refine⟨by rw[e];exact h.pm,?_⟩;rw[e];refine gN.mpr ⟨gN.mpr ⟨kc (nv _ _) sa,kc (nv _ _) sb,hc⟩,h.up,fun y hy x hx=>h.bd y hy x (rj.mp hx)⟩
theorem Mh.acO(h:Mh rk a b out na nb)(sa:zY rk a.toList)(sb:zY rk b.toList)(hc:∀y∈b.toList.take nb,∀x∈a.toList.take na,rk y<=rk x):Iv rk a b (b.extract 0 nb++a.extract 0 na++out.reverse):=by obtain⟨h1,h2⟩:=h.swap.done sb sa hc;exact⟨h1.trans kg,h2⟩
theorem Mf{a:Array ax}{n k:Nat}{z:ax}(hz:z∈(a.toList.take n).drop k):∃j,k<=j/\j < n/\a[j]?=some z:=by
 obtain⟨j,hj⟩:=k7.mp hz;rw[oa]at hj;have hl:k + j < n:=by
  rcases q_ (k + j) n with q|q
  ·exact q
  ·rw[rf q]at hj;cases hj
 rw[lL hl]at hj;exact⟨k + j,by lia,hl,by simpa using hj⟩
theorem Xo{a:Array ax}{n:Nat}{z:ax}(hz:z∈a.toList.take n):∃j,j < n/\a[j]?=some z:=by obtain⟨j,_,h2,h3⟩:=Mf (k:=0) (by simpa using hz);exact⟨j,h2,h3⟩
theorem Mh.nil:Mh rk a b #[] a.size b.size:=⟨bj _,bj _,by simp,by rw[qc (by simp),qc (by simp)];simp,by simp,fun y _ x hx=>by simp at hx⟩
end
noncomputable abbrev HiS:=Option (Array ax)×Nat×Nat×Array ax×Nat×Nat×Nat
noncomputable def Xp(a b out:Array ax)(na nb mg ac bc:Nat):StateT a_ Sem (ForInStep HiS):=do
 let x <- c_ a (na - 1)
 if (na - 1 == 0)=true then pure (.done (some (a.extract 0 (na - 1)++b.extract 0 nb++(out.push x).reverse),na - 1,nb,out.push x,mg,ac,bc))
 else if (decide (ac < 7) && decide (bc < 7))=true then pure (.done (none,na - 1,nb,out.push x,mg,ac,bc))
 else pure (.yield (none,na - 1,nb,out.push x,mg,ac,bc))
noncomputable def Mi(a b out:Array ax)(na nb mg ac bc:Nat):StateT a_ Sem (ForInStep HiS):=do
 let y <- c_ b (nb - 1)
 if (nb - 1 == 1)=true then pure (.done (some (b.extract 0 (nb - 1)++a.extract 0 na++(out.push y).reverse),na,nb - 1,out.push y,mg,ac,bc))
 else do
  let x <- c_ a (na - 1)
  let __x <- mK true x b 0 (nb - 1) (nb - 1 - 1)
  match __x with
  |some k =>
   if nb - 1 - k > 0 then
    if (k == 1)=true then pure (.done (some (b.extract 0 k++a.extract 0 na++(out.push y++(b.extract k (nb - 1)).reverse).reverse),na,k,out.push y++(b.extract k (nb - 1)).reverse,mg,ac,nb - 1 - k))
    else if (k == 0)=true then pure (.done (some (a.extract 0 na++b.extract 0 k++(out.push y++(b.extract k (nb - 1)).reverse).reverse),na,k,out.push y++(b.extract k (nb - 1)).reverse,mg,ac,nb - 1 - k))
    else Xp a b (out.push y++(b.extract k (nb - 1)).reverse) na k mg ac (nb - 1 - k)
   else Xp a b (out.push y) na (nb - 1) mg ac (nb - 1 - k)
  |_=>pure (.done (some (a.extract 0 na++b.extract 0 (nb - 1)++(out.push y).reverse),na,nb - 1,out.push y,mg,ac,bc))
section
variable{prog:aE}{w:ay}{A:aT}{E:aa->af->Prop}{s:af}{a₀:Array ax}{κ:eS}{rk:ax->Int}{a b:Array ax}
theorem Rq.afK(m:Rq prog w A s κ rk a₀ a b){out:Array ax}{na nb:Nat}(h:Mh rk a b out na nb)(e:nb=1):Iv rk a b (b.extract 0 nb++a.extract 0 na++out.reverse):=by refine h.acO m.sa m.sb fun y hy x hx=>?_;subst e;obtain⟨x',hx'⟩:=jx (xs:=a) (i:=0) m.la;obtain⟨y',hy'⟩:=jx (xs:=b) (i:=0) m.lb;have e1:=m.lt0;rw[mQ hx',mQ hy']at e1;have e2:=Bo (n:=1) (by lia) m.sb hy' hy;have e3:=vD (i:=0) m.sa hx' (by simpa using qf hx);lia
theorem Rq.noA(m:Rq prog w A s κ rk a₀ a b){out:Array ax}{na nb:Nat}(h:Mh rk a b out na nb)(e:na=0):Iv rk a b (a.extract 0 na++b.extract 0 nb++out.reverse):=by refine h.done m.sa m.sb fun x hx=>?_;subst e;simp at hx
noncomputable def HiQ(rk:ax->Int)(a b:Array ax)(κ:eS)(st:a_)(n:Nat):ForInStep HiS->a_->Prop:=fun r st'=>gB st st'/\match r with
 | .done c=>(∃m,c.1=some m/\Iv rk a b m)∨(c.1=none/\Mh rk a b c.2.2.2.1 c.2.1 c.2.2.1/\0 < c.2.1/\1 < c.2.2.1/\n<=c.2.2.2.1.size)
 | .yield c=>c.1=none/\Mh rk a b c.2.2.2.1 c.2.1 c.2.2.1/\0 < c.2.1/\1 < c.2.2.1/\n < c.2.2.2.1.size
theorem Kl(m:Rq prog w A s κ rk a₀ a b){out:Array ax}{na nb mg ac bc n:Nat}{st0 st:a_}(hS:gB st0 st)(h:Mh rk a b out na nb)(h1:0 < na)(h2:1 < nb)(hn:n<=out.size)(hc:∀x y,a[na - 1]?=some x->y∈b.toList.take nb->rk y<=rk x) :
  wpS (ar prog w) A E s (Xp a b out na nb mg ac bc) (HiQ rk a b κ st0 n) st:=by
 unfold Xp;have ha:=h.ha;obtain⟨x,hx⟩:=jx (xs:=a) (i:=na - 1) (by lia);refine a6 (cO hx ?_);have h':=h.DG m.sa h1 hx (fun y hy=>hc x y hx hy);have sz:n < (out.push x).size:=by rw[g9];lia
 refine dw (fun e=>bo ⟨hS,.inl ⟨_,rfl,m.noA h' (pL e)⟩⟩) fun e=>?_;have e:=lD e;exact dw (fun _=>bo ⟨hS,.inr ⟨rfl,h',by show 0 < na - 1;lia,h2,hG sz⟩⟩) fun _=>bo ⟨hS,rfl,h',by show 0 < na - 1;lia,h2,sz⟩
theorem Gz(m:Rq prog w A s κ rk a₀ a b){out:Array ax}{na nb mg ac bc n:Nat}{st0 st:a_}(hk:kindOf st=κ)(hS:gB st0 st)(h:Mh rk a b out na nb)(h1:0 < na)(h2:1 < nb)(hn:n<=out.size)(hc:∀y x,b[nb - 1]?=some y->x∈a.toList.take na->rk x<=rk y) :
  wpS (ar prog w) A E s (Mi a b out na nb mg ac bc) (HiQ rk a b κ st0 n) st:=by
 unfold Mi;have ha:=h.ha;have hb:=h.hb;obtain⟨y,hy⟩:=jx (xs:=b) (i:=nb - 1) (by lia);refine a6 (cO hy ?_);have h':=h.Kg m.sb (by lia) hy (fun x hx=>hc y x hy hx);have sz:n < (out.push y).size:=by rw[g9];lia
 refine dw (fun e=>bo ⟨hS,.inl ⟨_,rfl,m.afK h' (pL e)⟩⟩) fun e=>?_;have e:=lD e;obtain⟨x,hx⟩:=jx (xs:=a) (i:=na - 1) (by lia);refine a6 (cO hx ?_);refine a6 (oZ m.h0 hk (m.ma x (tY hx)) m.mb (by lia) (by lia) (Ro m.sb _ _ (by lia)) fun k k1 k2 k3=>?_);have chunk:∀z∈(b.toList.take (nb - 1)).drop k,∀v∈a.toList.take na,rk v<=rk z:=fun z hz v hv=>by
  obtain⟨j,j1,j2,ej⟩:=Mf hz;have:=k3 j j1 j2;unfold bp at this;rw[jn,mQ ej]at this;have q:rk x<=rk z:=by simpa using this
  exact eI (Bo h1 m.sa hx hv) q
 have rest:∀v,v∈b.toList.take k->rk v<=rk x:=fun v hv=>by
  obtain⟨j,hj,ej⟩:=Xo hv;have:=k2 j hj;unfold bp at this;rw[jn,mQ ej]at this;have q:rk v < rk x:=by simpa using this
  exact gf q
 dsimp only;refine dw (fun kp=>?_) fun kp=>?_
 ·have h'':=h'.LQ m.sb (k:=k) (by lia) chunk;have sz':n<=(out.push y++(b.extract k (nb - 1)).reverse).size:=by rw[k6];lia
  refine dw (fun e2=>bo ⟨hS,.inl ⟨_,rfl,m.afK h'' (pL e2)⟩⟩) fun e2=>?_;have e2:=lD e2;refine dw (fun e3=>bo ⟨hS,.inl ⟨_,rfl,h''.done m.sa m.sb fun x _ y hy=>?_⟩⟩) fun e3=>?_
  ·rw[pL e3]at hy;simp at hy
  ·have e3:=lD e3;exact Kl m hS h'' h1 (by lia) sz' fun x' v hx' hv=>by rw[hx]at hx';cases hx';exact rest v hv
 ·obtain rfl:k=nb - 1:=by lia
  exact Kl m hS h' h1 (by lia) (hG sz) fun x' v hx' hv=>by rw[hx]at hx';cases hx';exact rest v hv
theorem GC(m:Rq prog w A s κ rk a₀ a b){out:Array ax}{na nb n:Nat}{st0 st:a_}(hk:kindOf st=κ)(hS:gB st0 st)(h:Mh rk a b out na nb)(h1:0 < na)(h2:1 < nb)(hn:n<=out.size)
  {f:Option Nat->StateT a_ Sem (ForInStep HiS)}{mg bc:Nat}(hf:∀k,f (some k)=if na - k > 0 then
    if (k == 0)=true then pure (.done (some (a.extract 0 k++b.extract 0 nb++(out++(a.extract k na).reverse).reverse),k,nb,out++(a.extract k na).reverse,mg,na - k,bc))
    else Mi a b (out++(a.extract k na).reverse) k nb mg (na - k) bc
   else Mi a b out na nb mg (na - k) bc) :
  wpS (ar prog w) A E s (do let y <- c_ b (nb - 1);let r <- mK false y a 0 na (na - 1);f r) (HiQ rk a b κ st0 n) st:=by
 have ha:=h.ha;have hb:=h.hb;obtain⟨y,hy⟩:=jx (xs:=b) (i:=nb - 1) (by lia);refine a6 (cO hy ?_);refine a6 (oZ m.h0 hk (m.mb y (tY hy)) m.ma (by lia) (by lia) (Ro m.sa _ _ (by lia)) fun k k1 k2 k3=>?_);rw[hf];have chunk:∀z∈(a.toList.take na).drop k,∀v∈b.toList.take nb,rk v<=rk z:=fun z hz v hv=>by
  obtain⟨j,j1,j2,ej⟩:=Mf hz;have:=k3 j j1 j2;unfold bp at this;rw[jn,mQ ej]at this;have q:rk y < rk z:=by simpa using this
  exact eI (Bo (by lia) m.sb hy hv) (gf q)
 have rest:∀v,v∈a.toList.take k->rk v<=rk y:=fun v hv=>by obtain⟨j,hj,ej⟩:=Xo hv;have:=k2 j hj;unfold bp at this;rw[jn,mQ ej]at this;simpa using this
 refine dw (fun kp=>?_) fun kp=>?_
 ·have h':=h.xW m.sa (k:=k) (by lia) chunk;have sz':n<=(out++(a.extract k na).reverse).size:=by rw[k6];lia
  refine dw (fun e=>bo ⟨hS,.inl ⟨_,rfl,m.noA h' (pL e)⟩⟩) fun e=>?_;have e:=lD e;exact Gz m hk hS h' (by lia) h2 sz' fun y' x hy' hx=>by rw[hy]at hy';cases hy';exact rest x hx
 ·obtain rfl:k=na:=by lia
  exact Gz m hk hS h h1 h2 hn fun y' x hy' hx=>by rw[hy]at hy';cases hy';exact rest x hx
theorem Ru(m:Rq prog w A s κ rk a₀ a b){st:a_}(hk:kindOf st=κ){Q:Array ax->a_->Prop}(h:∀mm st',gB st st'->Iv rk a b mm->Q mm st') :
  wpS (ar prog w) A E s (Gy a b) Q st:=by
 rw[Rt];dsimp only;have la:=m.la;have lb:=m.lb;refine a6 (kX (ij ⟨rfl,?_⟩));obtain⟨x0,hx0⟩:=jx (xs:=a) (i:=a.size - 1) (by lia);refine a6 (cO hx0 ?_);have M0:Mh rk a b #[x0] (a.size - 1) b.size:=Mh.nil.DG m.sa la hx0 fun v hv=>by have:=m.last v (qf hv);rwa [mQ hx0]at this
 refine dw (fun e=>bo (h _ _ (.refl _) (m.noA M0 (pL e)))) fun e1=>?_;have e1:=lD e1;refine dw (fun e=>bo (h _ _ (.refl _) (m.afK M0 (pL e)))) fun e2=>?_;have e2:=lD e2;refine a6 (gT ?_);refine a6 (eA (eP (I:=fun x c st'=>gB st st'/\∃na nb out mg,c=(none,na,nb,out,mg)/\Mh rk a b out na nb/\0 < na/\1 < nb/\x + 1<=out.size)
  (Q:=fun c st'=>gB st st'/\∃mm rest,c=(some mm,rest)/\Iv rk a b mm) ?step ?jk ⟨.refl _,_,_,#[x0],_,rfl,M0,by lia,by lia,by simp⟩) ?post)
 case post =>
  rintro c st' ⟨hS,mm,rest,rfl,hr⟩;exact bo (h mm st' hS hr)
 case jk =>
  rintro c st' ⟨hS,na,nb,out,mg,rfl,hM,h1,h2,h3⟩;have:=hM.sz;lia
 case step =>
  rintro x c st' _ hx ⟨hS,na,nb,out,mg,rfl,hM,h1,h2,h3⟩;dsimp only;refine a6 (eA (eP (I:=fun y c st''=>gB st st''/\∃na nb out ac bc,c=(none,na,nb,out,ac,bc)/\Mh rk a b out na nb/\0 < na/\1 < nb/\x + 1 + y<=out.size)
   (Q:=fun c st''=>gB st st''/\((∃mm rest,c=(some mm,rest)/\Iv rk a b mm)∨∃na nb out ac bc,c=(none,na,nb,out,ac,bc)/\Mh rk a b out na nb/\0 < na/\1 < nb/\x + 2<=out.size)) ?istep ?ifin ⟨hS,na,nb,out,0,0,rfl,hM,h1,h2,by lia⟩) ?ipost)
  case ifin =>
   rintro c st'' ⟨hS,na,nb,out,ac,bc,rfl,hM,h1,h2,h3⟩;have:=hM.sz;lia
  case istep =>
   rintro y c st'' _ hy ⟨hS,na,nb,out,ac,bc,rfl,hM,h1,h2,h3⟩;dsimp only;have ha:=hM.ha;have hb:=hM.hb;obtain⟨p,hp⟩:=jx (xs:=b) (i:=nb - 1) (by lia);obtain⟨q,hq⟩:=jx (xs:=a) (i:=na - 1) (by lia);refine a6 (cO hp (a6 (cO hq (a6 (Gs m.h0 (hS.2.1.trans hk) (m.mb p (tY hp)) (m.ma q (tY hq)) ?_)))));by_cases c:rk p < rk q
   ·simp only[c,decide_true,if_true];refine a6 (cO hq ?_);have hM':=hM.DG m.sa h1 hq fun v hv=>eI (Bo (by lia) m.sb hp hv) (gf c);refine dw (fun e=>bo ⟨hS,.inl ⟨_,_,rfl,m.noA hM' (pL e)⟩⟩) fun e=>?_;have e:=lD e;exact dw (fun _=>bo ⟨hS,.inr ⟨_,_,_,_,_,rfl,hM',by lia,h2,by rw[g9];lia⟩⟩) fun _=>bo ⟨hS,_,_,_,_,_,rfl,hM',by lia,h2,by rw[g9];lia⟩
   ·simp only[c,decide_false,b8,if_false];refine a6 (cO hp ?_);have hM':=hM.Kg m.sb (by lia) hp fun v hv=>eI (Bo h1 m.sa hq hv) (n_.mp c);refine dw (fun e=>bo ⟨hS,.inl ⟨_,_,rfl,m.afK hM' (pL e)⟩⟩) fun e=>?_;have e:=lD e;exact dw (fun _=>bo ⟨hS,.inr ⟨_,_,_,_,_,rfl,hM',h1,by lia,by rw[g9];lia⟩⟩) fun _=>bo ⟨hS,_,_,_,_,_,rfl,hM',h1,by lia,by rw[g9];lia⟩
  case ipost =>
   rintro c st'' ⟨hS,⟨mm,rest,rfl,hr⟩|⟨na,nb,out,ac,bc,rfl,hM,h1,h2,h3⟩⟩
   ·exact bo ⟨hS,mm,_,rfl,hr⟩
   ·dsimp only;refine a6 (kX (ij ⟨rfl,?_⟩));refine a6 (eA (eP (I:=fun y c st3=>gB st st3/\∃na nb out mg ac bc,c=(none,na,nb,out,mg,ac,bc)/\Mh rk a b out na nb/\0 < na/\1 < nb/\x + 2 + y<=out.size)
     (Q:=fun c st3=>gB st st3/\((∃mm rest,c=(some mm,rest)/\Iv rk a b mm)∨∃na nb out mg ac bc,c=(none,na,nb,out,mg,ac,bc)/\Mh rk a b out na nb/\0 < na/\1 < nb/\x + 2<=out.size)) ?acP ?aje ⟨hS,na,nb,out,_,ac,bc,rfl,hM,h1,h2,by lia⟩) ?acQ)
    case aje =>
     rintro c st3 ⟨hS,na,nb,out,mg,ac,bc,rfl,hM,h1,h2,h3⟩;have:=hM.sz;lia
    case acQ =>
     rintro c st3 ⟨hS,⟨mm,rest,rfl,hr⟩|⟨na,nb,out,mg,ac,bc,rfl,hM,h1,h2,h3⟩⟩
     ·exact bo ⟨hS,mm,_,rfl,hr⟩
     ·dsimp only;refine a6 (uw fun JV PN=>?_);exact bo ⟨hS.trans PN,_,_,_,_,rfl,hM,h1,h2,by lia⟩
    case acP =>
     rintro y c st3 _ hy ⟨hS,na,nb,out,mg,ac,bc,rfl,hM,h1,h2,h3⟩;have cD:∀(c:HiS) (st':a_),HiQ rk a b κ st (x + 2 + y) (.done c) st'->gB st st'/\((∃mm rest,c=(some mm,rest)/\Iv rk a b mm)∨∃na nb out mg ac bc,c=(none,na,nb,out,mg,ac,bc)/\Mh rk a b out na nb/\0 < na/\1 < nb/\x + 2<=out.size):=by
      rintro⟨c1,na,nb,out,mg,ac,bc⟩ st' ⟨hS,⟨mm,e,hr⟩|⟨e,hM,h1,h2,h3⟩⟩
      ·cases e;exact⟨hS,.inl ⟨mm,_,rfl,hr⟩⟩
      ·cases e;dsimp only at h1 h2 h3;exact⟨hS,.inr ⟨_,_,_,_,_,_,rfl,hM,h1,h2,by lia⟩⟩
     have cY:∀(c:HiS) (st':a_),HiQ rk a b κ st (x + 2 + y) (.yield c) st'->gB st st'/\∃na nb out mg ac bc,c=(none,na,nb,out,mg,ac,bc)/\Mh rk a b out na nb/\0 < na/\1 < nb/\x + 2 + (y + 1)<=out.size:=by rintro⟨c1,na,nb,out,mg,ac,bc⟩ st' ⟨hS,e,hM,h1,h2,h3⟩;cases e;dsimp only at h1 h2 h3;exact⟨hS,_,_,_,_,_,_,rfl,hM,h1,h2,by lia⟩
     dsimp only;refine dw (fun _=>?_) (fun _=>?_)
     ·refine a6 (uw fun JV PN=>?_);exact eA (GC m ((hS.trans PN).2.1.trans hk) (hS.trans PN) hM h1 h2 h3 (fun k=>rfl)) fun r st' hq=>match r,hq with|.done c,hq=>cD c st' hq|.yield c,hq=>cY c st' hq
     ·refine a6 (uw fun JV PN=>?_);exact eA (GC m ((hS.trans PN).2.1.trans hk) (hS.trans PN) hM h1 h2 h3 (fun k=>rfl)) fun r st' hq=>match r,hq with|.done c,hq=>cD c st' hq|.yield c,hq=>cY c st' hq
end
theorem Rv(i:Nat):mergeAt' i=(do
 let s <- get
 let (some (sa,na,power),some (sb,nb,_)):=((bS s)[i]?,(bS s)[i + 1]?)|unsupported "internal:list.sort.pending"
 set (mE s (((bS s).setIfInBounds i (sa,na + nb,power)).eraseIdxIfInBounds (i + 1)))
 let some k <- mK false (<- c_ (aI s) sb) (aI s) sa na 0|return false
 let (sa,na):=(sa + k,na - k)
 if na == 0 then return true
 let some nb <- mK true (<- c_ (aI s) (sa + na - 1)) (aI s) sb nb (nb - 1)|return false
 if nb == 0 then return true
 let x:=(aI s).extract sa sb
 let y:=(aI s).extract sb (sb + nb)
 let merged <- if na<=nb then Gv x y else Gy x y
 modify fun s=>setArr s (merged.toList.zipIdx.foldl (fun a (p,j)=>a.setIfInBounds (sa + j) p) (aI s))
 return (eT (<- get)).isNone):=rfl
section
variable{prog:aE}{w:ay}{A:aT}{E:aa->af->Prop}{s:af}{a₀:Array ax}{κ:eS}{rk:ax->Int}
theorem Rw{base:Nat}:∀(M:List ax) (n:Nat) (Pre Z T:List ax) (arr:Array ax),arr.toList=Pre++(Z++T)->base + n=Pre.length->M.length=Z.length ->
  ((M.zipIdx n).foldl (fun a (p:ax×Nat)=>a.setIfInBounds (base + p.2) p.1) arr).toList=Pre++(M++T)
 | [],n,Pre,Z,T,arr,h,_,hl=>by obtain rfl:Z=[]:=n4.mp hl.symm;simpa using h
 |m::M,n,Pre,Z,T,arr,h,hb,hl=>by
  cases Z with
  |nil=>cases hl
  |cons z Z =>
   have e:(arr.setIfInBounds (base + n) m).toList=(Pre++[m])++(Z++T):=by rw[Array.toList_setIfInBounds,h,hb];simp[List.set_append]
   have:=Rw (base:=base) M (n + 1) (Pre++[m]) Z T _ e (by simp;lia) (by simpa using hl);rw[vF,j9,this];simp
theorem Mj{xs:Array ax}{P L S:List ax}(h:xs.toList=P++(L++S)){i:Nat}(hi:i < L.length):R rk xs (P.length + i)=rk L[i]:=by refine mQ ?_;rw[<- kU,h,gu (by lia),f9 (by lia)];rw[show P.length + i - P.length=i by lia,di hi]
theorem Vj{xs:Array ax}{P L S:List ax}(h:xs.toList=P++(L++S)):Up rk xs P.length L.length↔zY rk L:=by
 constructor
 ·intro u;refine kR.mpr ?_;intro i j hi hj hij;have:=u i j (by lia) hj;rwa [Mj h hi,Mj h hj]at this
 ·intro u i j hij hj;rw[Mj h (by lia),Mj h hj];by_cases e:i=j
  ·subst e;exact gd _
  ·exact kR.mp u i j (by lia) hj (by lia)
theorem Rx{st:a_}{i sa na nb pw pw2:Nat}{Q:Bool->a_->Prop}(h0:Ax prog w A s κ rk a₀)(hp:(aI st).Perm a₀)(hk:kindOf st=κ)(hf:eT st=none)
  (hi:(bS st)[i]?=some (sa,na,pw)) (hj:(bS st)[i + 1]?=some (sa + na,nb,pw2)) (na1:1<=na) (nb1:1<=nb) (hz:sa + na + nb<=a₀.size) (ua:Up rk (aI st) sa na) (ub:Up rk (aI st) (sa + na) nb)
  (h:∀st',(aI st').Perm a₀->kindOf st'=κ->eT st'=none->bS st'=((bS st).setIfInBounds i (sa,na + nb,pw)).eraseIdxIfInBounds (i + 1)->(∀q,q < sa∨sa + na + nb<=q->(aI st')[q]?=(aI st)[q]?)->Up rk (aI st') sa (na + nb)->Q true st') :
  wpS (ar prog w) A E s (mergeAt' i) Q st:=by
 rw[Rv];refine a6 (gT ?_);dsimp only;rw[hi,hj];dsimp only;have anU:∀(st1:a_) (Q':PUnit->a_->Prop),Q' ⟨⟩ st1->wpS (ar prog w) A E s (set st1:StateT a_ Sem PUnit) Q' st:=fun st1 Q' hq=>by unfold wpS;rw[StateT.run_set];exact a9 ⟨rfl,hq⟩
 refine a6 (anU _ _ ?_);have sz:(aI st).size=a₀.size:=hp.size_eq;have mem:∀x∈(aI st).toList,x∈a₀.toList:=fun x hx=>(q8.mp hp).mem_iff.mp hx;generalize afL:mE st (((bS st).setIfInBounds i (sa,na + nb,pw)).eraseIdxIfInBounds (i + 1))=st1;have k1:kindOf st1=κ:=by rw[<- afL];exact hk
 have f1:eT st1=none:=by rw[<- afL];exact hf
 have a1:aI st1=aI st:=by rw[<- afL]
 have p1:bS st1=((bS st).setIfInBounds i (sa,na + nb,pw)).eraseIdxIfInBounds (i + 1):=by rw[<- afL]
 obtain⟨y,hy⟩:=jx (xs:=aI st) (i:=sa + na) (by lia);obtain⟨z,hz'⟩:=jx (xs:=aI st) (i:=sa + na - 1) (by lia);generalize aI st=xs at *;refine a6 (cO hy ?_);refine a6 (oZ h0 k1 (mem y (tY hy)) mem (by lia) (by lia) ua fun k kn kl kr=>?_);have kl':∀q,q < k->R rk xs (sa + q)<=rk y:=fun q hq=>by have:=kl q hq;unfold bp at this;simpa using this
 have kr':∀q,k<=q->q < na->rk y < R rk xs (sa + q):=fun q h1 h2=>by have:=kr q h1 h2;unfold bp at this;simpa using this
 have ub0:∀q,q < nb->rk y<=R rk xs (sa + na + q):=fun q hq=>by have:=ub 0 q (by lia) hq;rwa [md,mQ hy]at this
 have whole:(∀q,q < na->∀q',q' < nb->R rk xs (sa + q)<=R rk xs (sa + na + q'))->Up rk xs sa (na + nb):=fun hq i j hij hj=>by
  by_cases c:j < na
  ·exact ua i j hij c
  ·by_cases d:i < na
   ·have:=hq i d (j - na) (by lia);rwa [show sa + na + (j - na)=sa + j by lia]at this
   ·have:=ub (i - na) (j - na) (by lia) (by lia);rwa [show sa + na + (j - na)=sa + j by lia,show sa + na + (i - na)=sa + i by lia]at this
 dsimp only;refine dw (fun e=>bo ?_) fun e=>?_
 ·have e:=pL e;refine h st1 (by rw[a1];exact hp) k1 f1 p1 (fun _ _=>by rw[a1]) ?_;rw[a1];exact whole fun q hq q' hq'=>eI (kl' q (by lia)) (ub0 q' hq')
 have e:=lD e;rw[show sa + k + (na - k) - 1=sa + na - 1 by lia];refine a6 (cO hz' ?_);refine a6 (oZ h0 k1 (mem z (tY hz')) mem (by lia) (by lia) ub fun n nn nl nr=>?_);have nl':∀q,q < n->R rk xs (sa + na + q) < rk z:=fun q hq=>by have:=nl q hq;unfold bp at this;simpa using this
 have nr':∀q,n<=q->q < nb->rk z<=R rk xs (sa + na + q):=fun q h1 h2=>by have:=nr q h1 h2;unfold bp at this;simpa using this
 have uaz:∀q,q < na->R rk xs (sa + q)<=rk z:=fun q hq=>by have:=ua q (na - 1) (by lia) (by lia);rwa [show sa + (na - 1)=sa + na - 1 by lia,mQ hz']at this
 refine dw (fun e2=>bo ?_) fun e2=>?_
 ·have e2:=pL e2;refine h st1 (by rw[a1];exact hp) k1 f1 p1 (fun _ _=>by rw[a1]) ?_;rw[a1];exact whole fun q hq q' hq'=>eI (uaz q hq) (nr' q' (by lia) hq')
 have e2:=lD e2;have hxl:xs.toList.length=a₀.size:=by rw[fw];exact sz
 obtain⟨P,hP⟩:∃P,P=xs.toList.take sa:=⟨_,rfl⟩
 obtain⟨A1,hA1⟩:∃P,P=(xs.toList.drop sa).take k:=⟨_,rfl⟩
 obtain⟨X,hX⟩:∃P,P=(xs.toList.drop (sa + k)).take (na - k):=⟨_,rfl⟩
 obtain⟨Y,hY⟩:∃P,P=(xs.toList.drop (sa + na)).take n:=⟨_,rfl⟩
 obtain⟨B2,hB2⟩:∃P,P=(xs.toList.drop (sa + na + n)).take (nb - n):=⟨_,rfl⟩
 obtain⟨S,hS⟩:∃P,P=xs.toList.drop (sa + na + nb):=⟨_,rfl⟩
 have lP:P.length=sa:=by rw[hP,kL];lia
 have lA:A1.length=k:=by rw[hA1,kL,rn];lia
 have lX:X.length=na - k:=by rw[hX,kL,rn];lia
 have lY:Y.length=n:=by rw[hY,kL,rn];lia
 have lB:B2.length=nb - n:=by rw[hB2,kL,rn];lia
 have hl:xs.toList=P++(A1++(X++(Y++(B2++S)))):=by rw[hP,hA1,hX,hY,hB2,hS];have s5:=rF xs.toList (sa + na + n) (nb - n);rw[show sa + na + n + (nb - n)=sa + na + nb by lia]at s5;rw[<- s5,<- rF xs.toList (sa + na) n];have s3:=rF xs.toList (sa + k) (na - k);rw[show sa + k + (na - k)=sa + na by lia]at s3;rw[<- s3,<- rF xs.toList sa k,mh]
 have eX:(xs.extract (sa + k) (sa + na)).toList=X:=by rw[vC,hX];congr 1;lia
 have eY:(xs.extract (sa + na) (sa + na + n)).toList=Y:=by rw[vC,hY];congr 1;lia
 have aA:zY rk (A1++X):=by
  have:xs.toList=P++((A1++X)++(Y++(B2++S))):=by rw[hl];simp
  refine(Vj this).mp ?_;rw[lP,cx,lA,lX,show k + (na - k)=na by lia];exact ua
 have aB:zY rk (Y++B2):=by
  have:xs.toList=(P++(A1++X))++((Y++B2)++S):=by rw[hl];simp
  have u:=Vj (rk:=rk) this;rw[cx,cx,lP,lA,lX,cx,lY,lB,show sa + (k + (na - k))=sa + na by lia,show n + (nb - n)=nb by lia]at u;exact u.mp ub
 obtain⟨sA,sX,sAX⟩:=gN.mp aA;obtain⟨sY,sB,sYB⟩:=gN.mp aB;have alL:∀v∈A1,rk v<=rk y:=fun v hv=>by rw[hA1]at hv;obtain⟨j,hj,ej⟩:=rm hv;have:=kl' j hj;rwa [mQ ej]at this
 have anW:∀v∈X,rk v<=rk z:=fun v hv=>by rw[hX]at hv;obtain⟨j,hj,ej⟩:=rm hv;have:=uaz (k + j) (by lia);rwa [<- og,mQ ej]at this
 have afM:∀v∈Y,rk y<=rk v/\rk v < rk z:=fun v hv=>by rw[hY]at hv;obtain⟨j,hj,ej⟩:=rm hv;have q1:=ub0 j (by lia);have q2:=nl' j hj;rw[mQ ej]at q1 q2;exact⟨q1,q2⟩
 have ajf:∀v∈B2,rk z<=rk v:=fun v hv=>by rw[hB2]at hv;obtain⟨j,hj,ej⟩:=rm hv;have:=nr' (n + j) (by lia) (by lia);rwa [<- og,mQ ej]at this
 have gX:∀q,q < na - k->(xs.extract (sa + k) (sa + na))[q]?=xs[sa + k + q]?:=fun q hq=>by rw[Array.getElem?_extract,if_pos (by lia)]
 have gY:∀q,q < n->(xs.extract (sa + na) (sa + na + n))[q]?=xs[sa + na + q]?:=fun q hq=>by rw[Array.getElem?_extract,if_pos (by lia)]
 have szX:(xs.extract (sa + k) (sa + na)).size=na - k:=by rw[q9];lia
 have szY:(xs.extract (sa + na) (sa + na + n)).size=n:=by rw[q9];lia
 have m:Rq prog w A s κ rk a₀ (xs.extract (sa + k) (sa + na)) (xs.extract (sa + na) (sa + na + n)):=by
  refine⟨h0,by rw[eX];exact sX,by rw[eY];exact sY,fun v hv=>mem v ?_,fun v hv=>mem v ?_,by lia,by lia,?_,fun v hv=>?_⟩
  ·rw[eX]at hv;rw[hl];simp[hv]
  ·rw[eY]at hv;rw[hl];simp[hv]
  ·rw[pA (gX 0 (by lia)),pA (gY 0 (by lia)),md,md,mQ hy];exact kr' k (bj _) (by lia)
  ·rw[szX,pA (gX (na - k - 1) (by lia)),show sa + k + (na - k - 1)=sa + na - 1 by lia,mQ hz'];rw[eY]at hv;exact gf (afM v hv).2
 have jk:∀(mm:Array ax) (st2:a_),gB st1 st2->Iv rk (xs.extract (sa + k) (sa + na)) (xs.extract (sa + na) (sa + na + n)) mm->wpS (ar prog w) A E s (do
   modify fun s=>setArr s (mm.toList.zipIdx.foldl (fun a (p,j)=>a.setIfInBounds (sa + k + j) p) (aI s))
   let s <- get
   pure (eT s).isNone) Q st2:=fun mm st2 hS2 ⟨hr,hu⟩=>by
  rw[eX,eY]at hr;have lm:mm.toList.length=(X++Y).length:=hr.length_eq;have put:=Rw (base:=sa + k) mm.toList 0 (P++A1) (X++Y) (B2++S) xs (by rw[hl];simp) (by rw[cx,lP,lA];lia) lm;refine a6 (iO (a6 (gT ?_)));have e3:aI st2=xs:=hS2.1.trans a1;have key:∀ys:Array ax,ys.toList=P++(A1++(mm.toList++(B2++S)))->∀st',aI st'=ys->kindOf st'=κ->eT st'=none->bS st'=bS st1->Q true st':=by
   intro ys hys st' e4 e5 e6 e7;refine h st' ?_ e5 e6 (e7.trans p1) ?_ ?_
   ·rw[e4];refine Array.Perm.trans (q8.mpr ?_) hp;rw[hys,hl];refine n5 _ (n5 _ ?_);rw[<- h_ X Y];exact vE _ hr
   ·intro q hq;rw[e4,<- kU,<- kU,hys,hl];rw[cx,lX,lY]at lm;rcases hq with hq|hq
    ·rw[f9 (by lia),f9 (by lia)]
    ·have e8:P++(A1++(mm.toList++(B2++S)))=(P++(A1++(mm.toList++B2)))++S:=by simp
     have e9:P++(A1++(X++(Y++(B2++S))))=(P++(A1++(X++(Y++B2))))++S:=by simp
     have l1:(P++(A1++(mm.toList++B2))).length=sa + na + nb:=by simp only[cx];lia
     have l2:(P++(A1++(X++(Y++B2)))).length=sa + na + nb:=by simp only[cx];lia
     rw[e8,e9,gu (by lia),gu (by lia),l1,l2]
   ·rw[e4];have e8:ys.toList=P++((A1++(mm.toList++B2))++S):=by rw[hys];simp
    have u:=Vj (rk:=rk) e8;have l1:(A1++(mm.toList++B2)).length=na + nb:=by simp only[cx]at lm ⊢;lia
    rw[lP,l1]at u;refine u.mpr (gN.mpr ⟨sA,gN.mpr ⟨hu,sB,fun v hv t ht=>?_⟩,fun v hv t ht=>?_⟩)
    ·rcases dA.mp (hr.mem_iff.mp hv) with hv|hv
     ·exact eI (anW v hv) (ajf t ht)
     ·exact eI (gf (afM v hv).2) (ajf t ht)
    ·rcases dA.mp ht with ht|ht
     ·rcases dA.mp (hr.mem_iff.mp ht) with ht|ht
      ·exact sAX v hv t ht
      ·exact eI (alL v hv) (afM t ht).1
     ·have q1:=alL v hv;have q2:=(afM y (by
       have:=dq.mp (show Y[0]?=some y by rw[hY,lL (by lia),oa,md];simpa using hy);obtain⟨q,rfl⟩:=this;exact fF q)).2
      have q3:=ajf t ht;lia
  rw[<- e3]at put;have:=key _ (by rw[put];simp) (setArr st2 (mm.toList.zipIdx.foldl (fun a (p,j)=>a.setIfInBounds (sa + k + j) p) (aI st2))) rfl (hS2.2.1.trans k1) (hS2.2.2.2.trans f1) hS2.2.2.1;have e10:(eT (setArr st2 (mm.toList.zipIdx.foldl (fun a (p,j)=>a.setIfInBounds (sa + k + j) p) (aI st2)))).isNone=true:=by show(eT st2).isNone=true;rw[hS2.2.2.2.trans f1];rfl
  rw[e10];exact bo this
 exact dw (fun _=>a6 (Rr m k1 jk)) fun _=>a6 (Ru m k1 jk)
end
noncomputable def Rn(rk:ax->Int)(xs:Array ax):Nat->List (Nat×Nat×Nat)->Nat->Prop
 |a,[],e=>a=e
 |a,t::l,e=>t.1=a/\1<=t.2.1/\Up rk xs a t.2.1/\Rn rk xs (a + t.2.1) l e
section
variable{rk:ax->Int}{xs ys:Array ax}
theorem Rn.le:∀{l:List (Nat×Nat×Nat)}{a e:Nat},Rn rk xs a l e->a + l.length<=e
 | [],a,e,h=>by simp only[Rn]at h;simp;lia
 |t::l,a,e,h=>by obtain⟨h1,h2,h3,h4⟩:=h;have:=Rn.le h4;simp only[bu];lia
theorem Rn.app:∀{l l':List (Nat×Nat×Nat)}{a e:Nat},Rn rk xs a (l++l') e↔∃m,Rn rk xs a l m/\Rn rk xs m l' e
 | [],l',a,e=>by
  constructor
  ·intro h;exact⟨a,rfl,h⟩
  ·rintro⟨m,rfl,h⟩;exact h
 |t::l,l',a,e=>by
  constructor
  ·rintro⟨h1,h2,h3,h4⟩;obtain⟨m,g1,g2⟩:=Rn.app.mp h4;exact⟨m,⟨h1,h2,h3,g1⟩,g2⟩
  ·rintro⟨m,⟨h1,h2,h3,h4⟩,g⟩;exact⟨h1,h2,h3,Rn.app.mpr ⟨m,h4,g⟩⟩
theorem Up.congr{a n:Nat}(h:Up rk xs a n)(hc:∀q,a<=q->q < a + n->ys[q]?=xs[q]?):Up rk ys a n:=fun i j hij hj=>by rw[pA (hc (a + i) (by lia) (by lia)),pA (hc (a + j) (by lia) (by lia))];exact h i j hij hj
theorem Rn.congr:∀{l:List (Nat×Nat×Nat)}{a e:Nat},Rn rk xs a l e->(∀q,a<=q->q < e->ys[q]?=xs[q]?)->Rn rk ys a l e
 | [],a,e,h,_=>h
 |t::l,a,e,⟨h1,h2,h3,h4⟩,hc=>by have:=h4.le;exact⟨h1,h2,h3.congr fun q q1 q2=>hc q q1 (by lia),h4.congr fun q q1 q2=>hc q (by lia) q2⟩
theorem Rn.pow:∀{l l':List (Nat×Nat×Nat)}{a e:Nat},Rn rk xs a l e->l'.map (fun t=>(t.1,t.2.1))=l.map (fun t=>(t.1,t.2.1))->Rn rk xs a l' e
 | [],l',a,e,h,hm=>by
  obtain rfl:l'=[]:=by simpa using hm
  exact h
 |t::l,[],a,e,h,hm=>by cases hm
 |t::l,t'::l',a,e,⟨h1,h2,h3,h4⟩,hm=>by simp only[c6,List.cons.injEq,u2]at hm;obtain⟨⟨m1,m2⟩,m3⟩:=hm;exact⟨m1.trans h1,by rw[m2];exact h2,by rw[m2];exact h3,by rw[m2];exact h4.pow m3⟩
theorem GD(f:Nat×Nat×Nat->Nat×Nat×Nat)(hf:∀t,((f t).1,(f t).2.1)=(t.1,t.2.1)):∀(l:List (Nat×Nat×Nat)) (i:Nat),(l.modify i f).map (fun t=>(t.1,t.2.1))=l.map (fun t=>(t.1,t.2.1))
 | [],i=>by simp
 |t::l,0=>by simp only[List.modify_zero_cons,c6,hf]
 |t::l,i + 1=>by simp only[List.modify_succ_cons,c6,GD f hf l i]
theorem ajg{α:Type}(l:List α)(i:Nat)(h:i + 1 < l.length):l=l.take i++(l[i]::l[i + 1]::l.drop (i + 2)):=by
 conv=>lhs;rw[<- mh i l,i6 (by lia),i6 (by lia)]
theorem anY{α:Type}(P:List α)(t u v:α)(S:List α)(i:Nat)(hP:P.length=i):((P++(t::u::S)).set i v).eraseIdx (i + 1)=P++(v::S):=by
 subst hP
 induction P with
 |nil=>rfl
 |cons p P ih =>
  simp only[List.cons_append,bu,mI,List.eraseIdx_cons_succ,ih]
end
section
variable{prog:aE}{w:ay}{A:aT}{E:aa->af->Prop}{s:af}{a₀:Array ax}{κ:eS}{rk:ax->Int}
structure Sr (κ:eS)(rk:ax->Int)(a₀:Array ax)(lo:Nat)(st:a_):Prop where
 perm:(aI st).Perm a₀
 kind:kindOf st=κ
 failed:eT st=none
 runs:Rn rk (aI st) 0 (bS st).toList lo
theorem zZ{st:a_}{i e:Nat}{Q:Bool->a_->Prop}(h0:Ax prog w A s κ rk a₀)(h:Sr κ rk a₀ e st)(he:e<=a₀.size)(hi:i + 1 < (bS st).size)
  (hq:∀st',Sr κ rk a₀ e st'->(bS st').size + 1=(bS st).size->(∀q,e<=q->(aI st')[q]?=(aI st)[q]?)->Q true st'):wpS (ar prog w) A E s (mergeAt' i) Q st:=by
 have hr:=h.runs;have sp:=ajg (bS st).toList i (by simpa using hi);generalize hpre:(bS st).toList.take i=pre at sp;generalize (bS st).toList.drop (i + 2)=post at sp;have lp:pre.length=i:=by rw[<- hpre,kL];simp;lia
 rw[sp]at hr;obtain⟨m,r1,h1,h2,h3,h4,h5,h6,h7⟩:=Rn.app.mp hr;simp only[Array.getElem_toList]at h1 h2 h3 h4 h5 h6 h7 sp;have e1:(bS st)[i]?=some (m,(bS st)[i].2.1,(bS st)[i].2.2):=by rw[getElem?_pos _ i (by lia)];exact congrArg some (Prod.ext h1 rfl)
 have e2:(bS st)[i + 1]?=some (m + (bS st)[i].2.1,(bS st)[i + 1].2.1,(bS st)[i + 1].2.2):=by rw[getElem?_pos _ (i + 1) (by lia)];exact congrArg some (Prod.ext h4 rfl)
 have l7:=h7.le;refine Rx h0 h.perm h.kind h.failed e1 e2 h2 h5 (by lia) h3 h6 fun st' p1 p2 p3 p4 p5 p6=>?_;have e3:(bS st').toList=pre++((m,(bS st)[i].2.1 + (bS st)[i + 1].2.1,(bS st)[i].2.2)::post):=by rw[p4,Array.toList_eraseIdxIfInBounds,Array.toList_setIfInBounds,sp];exact anY _ _ _ _ _ _ lp
 refine hq st' ⟨p1,p2,p3,?_⟩ ?_ fun q hq=>p5 q (.inr (by lia))
 ·rw[e3];have l1:=r1.le;refine Rn.app.mpr ⟨m,r1.congr fun q _ q2=>p5 q (.inl q2),rfl,by show 1<=_ + _;lia,p6,?_⟩;show Rn rk (aI st') (m + (_ + _)) post e;rw[<- og];exact h7.congr fun q q1 _=>p5 q (.inr q1)
 ·have q1:=congrArg nh e3;have q2:=congrArg nh sp;simp only[fw,cx,bu]at q1 q2;lia
theorem Sr.push{st:a_}{lo n:Nat}(h:Sr κ rk a₀ lo st)(hn:1<=n)(hu:Up rk (aI st) lo n):Sr κ rk a₀ (lo + n) (mE st ((bS st).push (lo,n,0))):=by refine⟨h.perm,h.kind,h.failed,?_⟩;show Rn rk (aI st) 0 ((bS st).push (lo,n,0)).toList (lo + n);rw[p_];exact Rn.app.mpr ⟨lo,h.runs,rfl,hn,hu,rfl⟩
theorem Sr.ahk{st:a_}{lo:Nat}(h:Sr κ rk a₀ lo st)(f:Nat×Nat×Nat->Nat×Nat×Nat)(hf:∀t,((f t).1,(f t).2.1)=(t.1,t.2.1)){i:Nat}:Sr κ rk a₀ lo (mE st ((bS st).modify i f)):=by refine⟨h.perm,h.kind,h.failed,h.runs.pow ?_⟩;show((bS st).modify _ _).toList.map _=_;rw[Array.toList_modify];exact GD f hf _ _
theorem GF:∀(f n r:Nat),1<=n + r->1<=oi f n r
 | 0,n,r,h=>h
 |f + 1,n,r,h=>by
  rw[minRun'_succ];split
  ·exact h
  ·exact GF f (n / 2) (max r (n % 2)) (by lia)
theorem Ml{st:a_}{Q:Unit->a_->Prop}(h0:Ax prog w A s κ rk a₀)(hp:aI st=a₀)(hk:kindOf st=κ)(hf:eT st=none)(hpd:bS st=#[])(h2:2<=a₀.size)
  (hq:∀st',(aI st').Perm a₀->eT st'=none->Up rk (aI st') 0 a₀.size->Q () st'):wpS (ar prog w) A E s sortRuns' Q st:=by
 rw[sortRuns'_eq];refine a6 (gT ?_);dsimp only;rw[hp];have mr:1<=oi a₀.size a₀.size 0:=GF _ _ _ (by lia);refine a6 (eA (eP (I:=fun x c st'=>∃lo,c=(none,lo)/\x<=lo/\lo<=a₀.size/\Sr κ rk a₀ lo st')
  (Q:=fun c st'=>c=(none,a₀.size)/\Sr κ rk a₀ a₀.size st') ?step ?jk ⟨0,rfl,bj _,by lia,by rw[hp],hk,hf,by rw[hpd];rfl⟩) ?post)
 case jk =>
  rintro c st' ⟨lo,rfl,h1,h2,hS⟩;obtain rfl:lo=a₀.size:=by lia
  exact⟨rfl,hS⟩
 case post =>
  rintro c st' ⟨rfl,hS⟩;dsimp only;refine a6 (eA (eP (I:=fun x c st''=>c=(none,())/\Sr κ rk a₀ a₀.size st''/\((bS st'').size<=1∨(bS st'').size + x<=a₀.size))
   (Q:=fun c st''=>c=(none,())/\Sr κ rk a₀ a₀.size st''/\(bS st'').size<=1) ?s2 ?f2 ⟨rfl,hS,.inr (by have:=hS.runs.le;simpa using this)⟩) ?p2)
  case f2 =>
   rintro c st'' ⟨rfl,hS,hl⟩;exact⟨rfl,hS,by lia⟩
  case s2 =>
   rintro x c st'' _ hx ⟨rfl,hS,hl⟩;refine a6 (gT ?_);refine dw (fun e=>bo ⟨rfl,hS,e⟩) fun e=>?_;have ite_le:∀(c:Prop) [Decidable c],(if c then (bS st'').size - 2 - 1 else (bS st'').size - 2) + 1 < (bS st'').size:=fun c _=>by split <;> lia
   refine a6 (zZ h0 hS (bj _) ?_ fun st2 hS2 hz _=>?_)
   ·exact ite_le _
   ·simp only[fS,b8,if_false];exact bo ⟨rfl,hS2,by lia⟩
  case p2 =>
   rintro c st'' ⟨rfl,hS,hl⟩;dsimp only;refine bo (hq st'' hS.perm hS.failed ?_);have hr:=hS.runs;cases e:(bS st'').toList with
   |nil=>rw[e]at hr;simp only[Rn]at hr;lia
   |cons t l =>
    have:l=[]:=by have:=congrArg nh e;simp only[fw,bu]at this;exact n4.mp (by lia)
    subst this;rw[e]at hr;obtain⟨_,_,r3,r4⟩:=hr;simp only[Rn]at r4;rw[show t.2.1=a₀.size by lia]at r3;exact r3
 case step =>
  rintro x c st' _ hx ⟨lo,rfl,h1,h3,hS⟩;dsimp only;refine dw (fun e=>?_) fun e=>?_
  ·obtain rfl:lo=a₀.size:=by lia
   exact bo ⟨rfl,hS⟩
  ·have hB:SB κ a₀ (aI st') (bS st') lo st':=⟨hS.perm,hS.kind,hS.failed,rfl,fun _ _=>rfl⟩
   have back:∀st2,SB κ a₀ (aI st') (bS st') lo st2->Sr κ rk a₀ lo st2:=fun st2 hB2=>⟨hB2.perm,hB2.kind,hB2.failed,by
    rw[hB2.pend];exact hS.runs.congr fun q _ q2=>hB2.keep q q2⟩
   refine a6 (Zf h0 (show lo + (a₀.size - lo)<=a₀.size by lia) (by lia) hB fun m st2 hB2 m1 m2 um=>?_);dsimp only;refine dw (fun c=>?_) fun c=>?_
   ·refine a6 (kX (ij ⟨rfl,?_⟩));refine a6 (afH h0 (show lo + min (a₀.size - lo) (oi a₀.size a₀.size 0)<=a₀.size by lia) (by lia) hB2 um fun st3 hB3 u3=>?_);simp only[fS,b8,if_false];have hS0:=back st3 hB3;have Ry:∀JV,Sr κ rk a₀ lo JV->(∀q,lo<=q->(aI JV)[q]?=(aI st3)[q]?)->Sr κ rk a₀ (lo + min (a₀.size - lo) (oi a₀.size a₀.size 0)) (mE JV ((bS JV).push (lo,min (a₀.size - lo) (oi a₀.size a₀.size 0),0))):=fun JV h4 hk4=>h4.push (by lia) (u3.congr fun q q1 _=>hk4 q q1);refine a6 (gT ?_);cases cc:(bS st3).back? with
    |none =>
     dsimp only;exact a6 (iO (bo ⟨_,rfl,by lia,by lia,Ry _ hS0 fun _ _=>rfl⟩))
    |some t =>
     obtain⟨s1,n1,p1⟩:=t;dsimp only;refine a6 (eA (eP (I:=fun _ c st'=>c=(none,())/\Sr κ rk a₀ lo st'/\∀q,lo<=q->(aI st')[q]?=(aI st3)[q]?)
      (Q:=fun c st'=>c=(none,())/\Sr κ rk a₀ lo st'/\∀q,lo<=q->(aI st')[q]?=(aI st3)[q]?) ?acS (fun _ _ hh=>hh) ⟨rfl,hS0,fun _ _=>rfl⟩) ?acT)
     case acT =>
      rintro c st' ⟨rfl,hS,hk⟩;dsimp only;refine a6 (iO (a6 (iO (bo ⟨_,rfl,by lia,by lia,Ry _ (hS.ahk _ ?_) hk⟩))));exact fun t=>rfl
     case acS =>
      rintro x c st' _ hx ⟨rfl,hS,hk⟩;refine a6 (gT ?_);by_cases c:(bS st').size > 1
      ·rw[if_pos c,getElem?_pos (bS st') ((bS st').size - 2) (by lia)];dsimp only;refine dw (fun _=>bo ⟨rfl,hS,hk⟩) fun _=>?_;refine a6 (zZ h0 hS (by lia) (by lia) fun st2 hS2 _ hk2=>?_);simp only[fS,b8,if_false];exact bo ⟨rfl,hS2,fun q hq=>(hk2 q hq).trans (hk q hq)⟩
      ·rw[if_neg c];exact bo ⟨rfl,hS,hk⟩
   ·have hS0:=back st2 hB2;have Ry:∀JV,Sr κ rk a₀ lo JV->(∀q,lo<=q->(aI JV)[q]?=(aI st2)[q]?)->Sr κ rk a₀ (lo + m) (mE JV ((bS JV).push (lo,m,0))):=fun JV h4 hk4=>h4.push (by lia) (um.congr fun q q1 _=>hk4 q q1);refine a6 (gT ?_);cases cc:(bS st2).back? with
    |none =>
     dsimp only;exact a6 (iO (bo ⟨_,rfl,by lia,by lia,Ry _ hS0 fun _ _=>rfl⟩))
    |some t =>
     obtain⟨s1,n1,p1⟩:=t;dsimp only;refine a6 (eA (eP (I:=fun _ c st'=>c=(none,())/\Sr κ rk a₀ lo st'/\∀q,lo<=q->(aI st')[q]?=(aI st2)[q]?)
      (Q:=fun c st'=>c=(none,())/\Sr κ rk a₀ lo st'/\∀q,lo<=q->(aI st')[q]?=(aI st2)[q]?) ?acS (fun _ _ hh=>hh) ⟨rfl,hS0,fun _ _=>rfl⟩) ?acT)
     case acT =>
      rintro c st' ⟨rfl,hS,hk⟩;dsimp only;refine a6 (iO (a6 (iO (bo ⟨_,rfl,by lia,by lia,Ry _ (hS.ahk _ ?_) hk⟩))));exact fun t=>rfl
     case acS =>
      rintro x c st' _ hx ⟨rfl,hS,hk⟩;refine a6 (gT ?_);by_cases c:(bS st').size > 1
      ·rw[if_pos c,getElem?_pos (bS st') ((bS st').size - 2) (by lia)];dsimp only;refine dw (fun _=>bo ⟨rfl,hS,hk⟩) fun _=>?_;refine a6 (zZ h0 hS (by lia) (by lia) fun st2 hS2 _ hk2=>?_);simp only[fS,b8,if_false];exact bo ⟨rfl,hS2,fun q hq=>(hk2 q hq).trans (hk q hq)⟩
      ·rw[if_neg c];exact bo ⟨rfl,hS,hk⟩
end
end Sb
namespace Sb
open PySem PySem.W PyProof.Rows So
noncomputable def rkI(lt:Nat->Nat->Bool)(n i:Nat):Int:=((b7 n).filter fun j=>lt j i).length
theorem Mq{α:Type}{p q:α->Bool}:∀{l:List α},(∀x∈l,p x=true->q x=true)->(l.filter p).length<=(l.filter q).length
 | [],_=>bj _
 |x::l,h=>by
  have ih:=Mq (l:=l) fun y hy=>h y (.tail _ hy);have hx:=h x (.head _);rw[rL,rL];cases c:p x with
  |false =>
   simp only[b8,if_false];split
   ·simp only[bu];lia
   ·exact ih
  |true =>
   rw[hx c];simp only[if_true,bu];lia
theorem acU{α:Type}{p q:α->Bool}:∀{l:List α}{z:α},(∀x∈l,p x=true->q x=true)->z∈l->p z=false->q z=true->(l.filter p).length < (l.filter q).length
 | [],_,_,hz,_,_=>by cases hz
 |x::l,z,h,hz,pz,qz=>by
  have ih0:=Mq (l:=l) fun y hy=>h y (.tail _ hy);have hx:=h x (.head _);rw[rL,rL];rcases bq.mp hz with rfl|hz
  ·rw[pz,qz];simp only[b8,if_false,if_true,bu];lia
  ·have ih:=acU (l:=l) (fun y hy=>h y (.tail _ hy)) hz pz qz;cases c:p x with
   |false =>
    simp only[b8,if_false];split
    ·simp only[bu];lia
    ·exact ih
   |true =>
    rw[hx c];simp only[if_true,bu];lia
theorem ahm{lt:Nat->Nat->Bool}(O:Ord lt){n i j:Nat}(hi:i < n):decide (rkI lt n i < rkI lt n j)=lt i j:=by
 unfold rkI;cases c:lt i j with
 |true =>
  refine decide_eq_true (Int.ofNat_lt.mpr (acU (z:=i) (fun k _ hk=>?_) (eW.mpr hi) (irr O i) c));cases d:lt k j with
  |true=>rfl
  |false =>
   have h1:lt i k=false:=O.as k i hk;have h2:=O.tr j k i d h1;rw[c]at h2;cases h2
 |false =>
  refine decide_eq_false fun q=>?_;have q:=Int.ofNat_lt.mp q;have:=Mq (p:=fun k=>lt k j) (q:=fun k=>lt k i) (l:=b7 n) fun k _ hk=>by
   cases d:lt k i with
   |true=>rfl
   |false =>
    have h2:=O.tr j i k c d;rw[hk]at h2;cases h2
  lia
theorem acV{α:Type}{d:α}{l1 l2:List α}(h:l1.Perm l2):∃q:List Nat,q.Perm (b7 l2.length)/\l1=q.map fun i=>l2.getD i d:=by
 induction h with
 |nil=>exact⟨[],.refl _,rfl⟩
 |cons x h ih =>
  obtain⟨q,hq,e⟩:=ih;refine⟨0::q.map (· + 1),?_,?_⟩
  ·rw[bu,l4];exact(hq.map _).cons 0
  ·rw[c6,i_,e];simp[pM]
 |swap x y l =>
  refine⟨1::0::(b7 l.length).map (· + 2),?_,?_⟩
  ·rw[bu,bu,l4,l4,c6,i_];exact iN.swap 0 1 _
  ·rw[c6,c6,i_];have:l=(b7 l.length).map fun i=>l.getD i d:=by
    apply kT
    ·simp
    ·intro i h1 h2;simp[h1]
   simp only[pM];rw[List.getD_cons_succ,List.getD_cons_zero,List.getD_cons_zero];congr 2
 |trans h1 h2 ih1 ih2 =>
  obtain⟨q1,p1,e1⟩:=ih1;obtain⟨q2,p2,e2⟩:=ih2;have l2:=h2.length_eq;have lq:=p2.length_eq;rw[mM]at lq;refine⟨q1.map fun i=>q2.getD i 0,?_,?_⟩
  ·refine(p1.map _).trans (iN.trans (n8 ?_) p2);apply kT
   ·simp;lia
   ·intro i h1 h2;simp only[b_,mM]at h1;simp only[List.getElem_map,List.getElem_range,gE];rw[di h2];rfl
  ·rw[e1,i_];refine vi fun i hi=>?_;have hi':i < q2.length:=by have:=eW.mp (p1.mem_iff.mp hi);lia
   show nX _ i d=nX _ (nX q2 i 0) d;rw[e2];simp only[gE,df,di hi',nN,nS]
section
variable{prog:aE}{w:ay}{A:aT}{E:aa->af->Prop}{s:af}
theorem acW{lt:Nat->Nat->Bool}{κ:eS}{vs:List aa}{Q:a_->af->Prop}(O:Ord lt)(h2:2<=vs.length)(ha:alH prog w A κ vs lt s)
  (hd:∀i i',i < vs.length->i' < vs.length->vs.getD i aa.none=vs.getD i' aa.none->∀j,lt j i=lt j i')
  (h:∀st,Vf lt vs st->Q st s):az (ar prog w) A ((sortRuns').run (rh κ (vs.toArray.zip vs.toArray) #[] 7 none)) (fun r s'=>Q r.2 s') E s:=by
 classical
 let it:Nat->ax:=fun i=>(vs.getD i aa.none,vs.getD i aa.none)
 let rk:ax->Int:=fun x=>if h:∃i,i < vs.length/\it i=x then rkI lt vs.length (vS h) else 0
 have rki:∀i,i < vs.length->rk (it i)=rkI lt vs.length i:=fun i hi=>by
  have ex:∃j,j < vs.length/\it j=it i:=⟨i,hi,rfl⟩
  show(if h:∃j,j < vs.length/\it j=it i then rkI lt vs.length (vS h) else 0)=_;rw[dif_pos ex];obtain⟨c1,c2⟩:=Classical.choose_spec ex;unfold rkI;have:=hd _ i c1 hi (congrArg Prod.fst c2);rw[show(fun j=>lt j (vS ex))=fun j=>lt j i from funext this]
 have hz:(vs.toArray.zip vs.toArray).toList=(b7 vs.length).map it:=by
  apply kT
  ·simp
  ·intro i h1 h2;simp at h1;simp[it,h1]
 have hsz:(vs.toArray.zip vs.toArray).size=vs.length:=by simp
 have hA:Ax prog w A s κ rk (vs.toArray.zip vs.toArray):=by intro x y C E' hx hy hC;rw[hz]at hx hy;obtain⟨i,hi,rfl⟩:=dQ.mp hx;obtain⟨j,hj,rfl⟩:=dQ.mp hy;have hi:=eW.mp hi;have hj:=eW.mp hj;rw[rki i hi,rki j hj,ahm O hi]at hC;exact ha i j C E' hi hj hC
 have main:=Ml (prog:=prog) (w:=w) (A:=A) (E:=E) (s:=s) (st:=rh κ (vs.toArray.zip vs.toArray) #[] 7 none) (Q:=fun _ st=>Vf lt vs st) hA rfl rfl rfl rfl (by rw[hsz];exact h2) fun st p1 p2 p3=>?_
 ·exact eK main (fun r s' ⟨e,hs⟩=>by subst e;exact h _ hs) fun _ _ e=>e
 ·obtain⟨q,hq,e⟩:=acV (d:=it 0) (q8.mp p1);have ln:(vs.toArray.zip vs.toArray).toList.length=vs.length:=by simp
  rw[ln]at hq;have lq:=hq.length_eq;rw[mM]at lq;have qlt:∀i∈q,i < vs.length:=fun i hi=>eW.mp (hq.mem_iff.mp hi);have e':(aI st).toList=q.map it:=by rw[e];refine vi fun i hi=>?_;rw[hz,gE,df,List.getElem?_range (qlt i hi)];rfl
  refine⟨q.toArray,⟨by simp[lq],fun i=>?_,by simpa using hq⟩,fun i j hij hj=>?_,?_,p2⟩
  ·rw[kf];by_cases c:i < q.length
   ·have:q.toArray[i]?=some q[i]:=by simp[c]
    rw[this];exact qlt _ (fF c)
   ·have:q.toArray[i]?=none:=by simp;lia
    rw[this];show 0 < vs.length;lia
  ·have hi':i < q.length:=by lia
   have hj':j < q.length:=by lia
   have g:∀k (hk:k < q.length),R rk (aI st) k=rkI lt vs.length q[k]:=fun k hk=>by rw[<- rki _ (qlt _ (fF hk))];refine mQ ?_;rw[<- kU,e',df,di hk];rfl
   have u:=p3 i j (by lia) (by rw[hsz];exact hj);rw[jn,jn,g i hi',g j hj']at u;have e1:q.toArray.getD i 0=q[i]:=by simp[kf,hi']
   have e2:q.toArray.getD j 0=q[j]:=by simp[kf,hj']
   rw[e1,e2,<- ahm O (qlt _ (fF hj'))];exact decide_eq_false (by lia)
  ·apply p9.mp;rw[Array.toList_map,e',i_];rfl
end
end Sb
namespace So
open PySem PySem.W PyProof.Rows PySem.Calls
section
variable{prog:aE}{w:ay}{A:aT}{E:aa->af->Prop}{s:af}
theorem Ko:∀{ks js:List Int}{xs:List aa},ItemsAre (cw prog w) ks xs->ItemsAre (cw prog w) js xs->ks=js
 |_,_,_,.nil,.nil=>rfl
 |_,_,_,.cons h1 h2,.cons h3 h4=>by obtain⟨t,e1⟩:=lh h1;obtain⟨u,e2⟩:=lh h3;rw[e1]at e2;cases e2;rw[Ko h2 h4]
theorem KeysAre.det{h:aw}{vs:List aa}{bM:LL}(k:KeysAre prog w h vs bM):∀i i',i < vs.length->i' < vs.length->vs.getD i aa.none=vs.getD i' aa.none->∀j,Ea (bM.getD j []) (bM.getD i [])=Ea (bM.getD j []) (bM.getD i' []):=by intro i i' hi hi' he j;obtain⟨b,e1,o,its,n,q1,q2,q3,q4⟩:=k.2 i vs[i] (di hi);obtain⟨b',e2,o',its',n',r1,r2,r3,r4⟩:=k.2 i' vs[i'] (di hi');rw[gE,gE,di hi,di hi',nS,nS,e1,e2]at he;cases he;rw[q1]at r1;cases r1;rw[q3]at r3;cases r3;rw[Ko q4 r4]
theorem GJ{a:ae}{vs:List aa}{bM:LL}{n:Nat}{P:qS->af->Prop}(ho:s.heap.get? a=some (eB "list" vs.toArray n))
  (hk:KeysAre prog w s.heap vs bM) (hne:∀ks∈bM,ks≠[]) (h64:vs.length < 4900)
  (h:∀(p:Array Nat),Rh bM p->P (.done (.ret .none)) { s with heap:=sortedHeap s.heap a vs (ku (p.toList.map fun i=>vs.getD i aa.none)) }) :
  az (ar prog w) A (Builtin.«list.sort» ⟨[.ref a],[]⟩) P E s:=by
 rw[list_sort_plain];have ha:a < s.heap.objs.size:=bE ho;refine ah (listItems_at ho rfl ?_);refine ah (vT ho rfl ?_ (by rw[cv,e_];lia) (eD _));obtain⟨e1,ho1⟩:∃e1,(s.heap.update a (fm fun _=>#[])).get? a=some (eB "list" #[] e1):=⟨_,v5 ho (fun _=>#[])⟩
 refine ah (v7 ho1 rfl ?_);refine ah (wpAny_newTuple ?_ (by show vs.length<=_;rw[e_];lia));refine ah (wpAny_newList ?_ (eD _));refine gm ?_;have ho6:(((s.heap.update a (fm fun _=>#[])).push (eB "tuple" vs.toArray 0)).push (eB "list" #[] 0)).get? a=some (eB "list" #[] e1):=by rw[aw.get?_push_ne _ _ _ (by rw[size_push',aw.size_update];exact cq (nI ha)),aw.get?_push_ne _ _ _ (by rw[aw.size_update];exact cq ha)];exact ho1
 show az (ar prog w) A _ P E { s with heap:=((s.heap.update a (fm fun _=>#[])).push (eB "tuple" vs.toArray 0)).push (eB "list" #[] 0) };dsimp only;have hsz:vs.toArray.size=vs.length:=by simp
 have hk6:KeysAre prog w (((s.heap.update a (fm fun _=>#[])).push (eB "tuple" vs.toArray 0)).push (eB "list" #[] 0)) vs bM:=hk.moved fun b o e c=>by
  refine cm _ (cm _ ?_);have:b≠a:=fun z=>by subst z;rw[ho]at e;cases e;exact absurd (aa.type.inj (show aa.type "list"=aa.type "tuple" from c)) (by decide)
  rw[v8 _ _ _ _ this];exact e
 by_cases h2:vs.toArray.size < 2
 ·rw[if_pos h2,if_pos h2];refine ah (a9 ?_);rw[StateT.run_pure];refine ah (a9 ?_);dsimp only;refine ah (v7 ho6 rfl ?_);refine ah (vT ho6 rfl ?_ (hsz2:=by rw[Array.size_map];show(pairsOf vs).size<=_;rw[pairsOf_size,e_];lia));simp only[bne_self_eq_false,b8,if_false];have hz:bM.length < 2:=by rw[hk.1,<- hsz];exact h2
  have hq:=h (ku (b7 bM.length)) (Ri hz);have e:(aI (rh general' (vs.toArray.zip vs.toArray) #[] 7 none)).map (·.2)=ku ((ku (b7 bM.length)).toList.map fun i=>vs.getD i aa.none):=by rw[hk.1];show(vs.toArray.zip vs.toArray).map (·.2)=_;apply p9.mp;apply List.ext_getElem?;intro i;simp;by_cases hi:i < vs.length <;> simp[hi]
  exact a9 (by rw[e];exact hq)
 ·rw[if_neg h2,if_neg h2];obtain⟨fs,ht,hl,hfi⟩:=hk6.tups hne;have h2':2<=vs.length:=by rw[<- hsz];lia
  refine ah (kat_kind (T:=.type "int") ht (by lia) (fun v hv=>?_) rfl ?_)
  ·obtain⟨i,t,rfl⟩:=hfi v hv;exact Looks.now
  ·refine ah (eK (Sb.acW (E:=E) (Q:=fun st' s'=>s'={ s with heap:=((s.heap.update a (fm fun _=>#[])).push (eB "tuple" vs.toArray 0)).push (eB "list" #[] 0) }/\Vf (fun i j=>Ea (bM.getD i []) (bM.getD j [])) vs st') (ajb bM) h2' hk6.asks hk6.det fun st' hs=>⟨rfl,hs⟩) ?_ fun _ _ e=>e);rintro⟨⟨⟩,st'⟩ s' ⟨rfl,p,a1,a2,a3,hf⟩;dsimp only at a3 hf ⊢;refine ah (v7 ho6 rfl ?_);rw[a3];refine ah (vT ho6 rfl ?_ (hsz2:=by simp only[cv,b_,fw,a1.sz];rw[e_];lia));rw[hf];simp only[bne_self_eq_false,b8,if_false];rw[<- hk.1]at a1 a2;exact a9 (h p (acI a1 a2))
end
end So
namespace So
open PySem PySem.Spec PySem.W PyProof.Rows PySem.Calls PySem.SetTable Tb
section
variable{prog:aE}{w:ay}{A:aT}{E:aa->af->Prop}{s:af}{U:ae->List Int->Prop}
noncomputable def Yn(prog:aE)(w:ay)(U:ae->List Int->Prop)(o:Obj)(bM:LL):Prop :=
 ∃(L:List lM) (ep:Nat) (t:bP) (f:Int×aa->List Int),o=jw L ep t/\Good t L/\L.length * 5 < t.mask * 3/\t.mask < 8192/\(t.plain=true/\t.led=!Fd w)/\(∀e∈L,∃b,e.2.2=.ref b/\e.2.1=hK prog w (f e.2)/\U b (f e.2))/\(L.map fun e=>f e.2).Perm bM/\bM.Nodup
theorem jj.obj{h:aw}{a:ae}{bM:LL}(x:jj prog w U h a bM):∃o,h.get? a=some o/\Yn prog w U o bM:=by obtain⟨L,ep,t,f,ho,g,room,mb,pl,hf,hp,nd,uu⟩:=x;refine⟨_,ho,L,ep,t,f,rfl,g,room,mb,pl,fun e he=>?_,hp,nd⟩;obtain⟨b,h1,h2,h3⟩:=hf e he;exact⟨b,h1,h3,uu e he b h1⟩
theorem Yn.at{h:aw}{a:ae}{o:Obj}{bM:LL}(x:Yn prog w U o bM)(ho:h.get? a=some o)(hU:∀b ks,U b ks->de (cw prog w) h ks b):jj prog w U h a bM:=by
 obtain⟨L,ep,t,f,rfl,g,room,mb,pl,hf,hp,nd⟩:=x;refine⟨L,ep,t,f,ho,g,room,mb,pl,fun e he=>?_,hp,nd,fun e he b hb=>?_⟩
 ·obtain⟨b,h1,h2,h3⟩:=hf e he;exact⟨b,h1,hU _ _ h3,h2⟩
 ·obtain⟨b',h1,h2,h3⟩:=hf e he;rw[hb]at h1;cases h1;exact h3
noncomputable def acX(U:ae->List Int->Prop)(out:List aa)(bM:LL):Prop:=out.length=bM.length/\∀(i:Nat) v,out[i]?=some v->∃b,v=.ref b/\U b (bM.getD i [])
theorem Iw{l l':LL}(p:l.Perm l'):nJ l=nJ l':=Gr ((oY l).trans p) (Gq l)
theorem Vk{vs:List aa}{bM Vm:LL}{p:Array Nat}(ho:acX U vs Vm)(hp:Rh Vm p)(pm:Vm.Perm bM):acX U (p.toList.map fun i=>vs.getD i aa.none) (nJ bM):=by
 rw[<- Iw pm,<- hp.2];refine⟨by simp,fun i v hv=>?_⟩;rw[df]at hv;cases e:p.toList[i]? with
 |none=>rw[e]at hv;cases hv
 |some j =>
  rw[e]at hv;simp at hv;have hj:j < Vm.length:=by have:j∈b7 Vm.length:=hp.1.mem_iff.mp (pf e);simpa using this
  have hj':j < vs.length:=by rw[ho.1];exact hj
  obtain⟨b,q1,q2⟩:=ho.2 j vs[j] (di hj');refine⟨b,?_,?_⟩
  ·rw[<- hv];simp[hj',q1]
  ·have:((p.toList.map fun i=>Vm.getD i []).getD i [])=Vm.getD j []:=by rw[gE,df,e];rfl
   rw[this];exact q2
theorem Zg{x:aa}{vs:List aa}{bM:LL}{Q:aa->af->Prop}
  (aoc:∀(Q':List aa->af->Prop) (E':aa->af->Prop),(∀h' tk,(∀b o,s.heap.get? b=some o->h'.get? b=some o)->s.heap.objs.size<=h'.objs.size->Q' vs { s with heap:=h',toks:=tk })->az (ar prog w) A.in1 (collect x) Q' E' s)
  (hk:KeysAre prog w s.heap vs bM) (hne:∀ks∈bM,ks≠[]) (h64:vs.length < 4900)
  (h:∀h' tk l n p,(∀b o,s.heap.get? b=some o->h'.get? b=some o)->s.heap.objs.size<=l->Rh bM p->h'.get? l=some (eB "list" (ku (p.toList.map fun i=>vs.getD i aa.none)) n)->Q (.ref l) { s with heap:=h',toks:=tk }) :
  az (ar prog w) A (call (.builtin "sorted") [x]) Q E s:=by
 refine Calls.call_function_entry kind_sorted plain_sorted entry_sorted (args_sorted1 _) ?_;unfold Builtin.«sorted»;refine ah (m:=checkCount "sorted" 1 1 _) (a9 ?_);refine ah (aoc _ _ fun h1 tk k1 z1=>?_);refine ah (wpAny_newList ?_ (by rw[e_];lia));have hoL:(h1.push (eB "list" vs.toArray 0)).get? h1.objs.size=some (eB "list" vs.toArray 0):=cK _ rfl;have k2:∀b o,s.heap.get? b=some o->(h1.push (eB "list" vs.toArray 0)).get? b=some o:=fun b o e=>cm _ (k1 b o e);show az _ _ _ _ _ { s with heap:=h1.push (eB "list" vs.toArray 0),toks:=tk };refine ah (gm (jb slot_list_sort ⟨_,hoL,rfl⟩ entry_list_sort (GJ hoL (hk.moved fun b o e _=>k2 b o e) hne h64 fun p hp=>⟨_,rfl,?_⟩) (args_list_sort _)));refine a9 ⟨_,rfl,?_⟩;unfold sortedHeap;have ne1:∀b o,s.heap.get? b=some o->b≠h1.objs.size:=fun b o e=>cq (dn (bE e) z1);have g0:=cm (eB "list" #[] 0) (cm (eB "tuple" vs.toArray 0) (v5 hoL (fun _=>#[])));refine h _ _ _ _ p (fun b o e=>?_) z1 hp (v5 g0 (fun _=>ku (p.toList.map fun i=>vs.getD i aa.none)));rw[v8 _ _ _ _ (ne1 b o e)];refine cm _ (cm _ ?_);rw[v8 _ _ _ _ (ne1 b o e)];exact k2 b o e
theorem Vn{D:ae}{bM:LL}{Q:aa->af->Prop}(hh:A.handled=none)(hS:jj prog w U s.heap D bM)(hne:∀ks∈bM,ks≠[])(h64:bM.length < 4900)
  (h:∀h' tk l n (out:List aa),(∀b o,s.heap.get? b=some o->h'.get? b=some o)->s.heap.objs.size<=l->acX U out (nJ bM)->h'.get? l=some (eB "list" out.toArray n)->Q (.ref l) { s with heap:=h',toks:=tk }) :
  az (ar prog w) A (call (.builtin "sorted") [.ref D]) Q E s:=by
 obtain⟨L,ep,t,f,ho,g,room,mb,pl,hf,hp,nd,uu⟩:=hS;have hlen:L.length=bM.length:=by have:=hp.length_eq;simpa using this
 have h7:=g.m7;have gs:Goes w L t:=⟨g.lies (by lia),by lia,pl.1,pl.2⟩
 have op:=Ka w D ep L;have osz:(tV w D ep L).toList.length=L.length:=by rw[fw,yP]
 have kp:((tV w D ep L).toList.map f).Perm bM:=((op.map f).trans (n8 (by rw[i_];rfl))).trans hp;have each:∀x∈(tV w D ep L).toList,∃b,x.2=.ref b/\de (cw prog w) s.heap (f x) b/\U b (f x):=fun x hx=>by obtain⟨e,he,rfl⟩:=dQ.mp (op.mem_iff.mp hx);obtain⟨b,h1,h2,h3⟩:=hf e he;exact⟨b,h1,h2,uu e he b h1⟩
 have at_:∀(i:Nat) v,((tV w D ep L).toList.map (·.2))[i]?=some v->∃x,x∈(tV w D ep L).toList/\v=x.2/\((tV w D ep L).toList.map f).getD i []=f x:=fun i v hv=>by
  rw[df]at hv;cases e:(tV w D ep L).toList[i]? with
  |none=>rw[e]at hv;cases hv
  |some x =>
   rw[e]at hv;refine⟨x,pf e,(dk hv).symm,?_⟩;rw[gE,df,e];rfl
 refine Zg (vs:=(tV w D ep L).toList.map (·.2)) (bM:=(tV w D ep L).toList.map f) (fun Q' E' hq=>?_) ⟨by simp,fun i v hv=>?_⟩ (fun ks hks=>?_) (by rw[b_,osz];lia) fun h' tk l n p k hl hsp hg=>?_
 ·exact Rg (by simpa using hh) ho gs (by lia) hq
 ·obtain⟨x,hx,rfl,e⟩:=at_ i v hv;obtain⟨b,h1,h2,h3⟩:=each x hx;exact⟨b,h1,by rw[e];exact h2⟩
 ·exact hne ks (kp.mem_iff.mp hks)
 ·refine h h' tk l n _ k hl (Vk ⟨by simp,fun i v hv=>?_⟩ hsp kp) hg;obtain⟨x,hx,rfl,e⟩:=at_ i v hv;obtain⟨b,h1,h2,h3⟩:=each x hx;exact⟨b,h1,by rw[e];exact h3⟩
end
end So
namespace Vl
open PySem PySem.Spec L2 So Tb
noncomputable def afN(P:aE)(w:ay)(U:ae->List Int->Prop)(a:ae)(bM:LL):aw->Prop:=fun h=>∃o,h.get? a=some o/\Yn P w U o bM
section
variable{X:Cx}{B:Bs}{W:Wi}
theorem acY{pins:List (ae×Obj)}{σ:St}{H:Hp}{s:af}{b:ae}{ks:List Int}(I:Inv X pins σ H s)(h:qF X.K H b (ks.map V.int)):de (cw X.prog X.w) s.heap ks b:=by
 obtain⟨its,r,⟨o,ho,hc,n,hd⟩,hz⟩:=I.tuple h;refine⟨o,its.toArray,n,ho,hc,hd,?_⟩;show ItemsAre _ ks its;clear hd h hz
 induction ks generalizing its with
 |nil=>cases r;exact .nil
 |cons k ks ih =>
  cases r with
  |cons r1 r2 =>
   obtain⟨t,rfl⟩:=r1;exact .cons (intKind_is X.prog X.w k t) (ih _ r2)
noncomputable def ahn(P:aE)(w:ay)(K:ai):List V->Hp->VK->Prop:=fun xs H Q=>∃(p:ae) (ys:List V) (bM:LL) (U:ae->List Int->Prop),xs=[.ref p]/\(nu K H p ys∨qF K H p ys)/\bM.length=ys.length/\(cZ bM).length < 4900 /\
 (∀(i:Nat) v,ys[i]?=some v->∃b,v=.ref b/\qF K H b ((bM.getD i []).map V.int)/\U b (bM.getD i []))/\∀l,H l=none->Q (.ref l) (upd H l (.ext (afN P w U l (cZ bM))))
theorem Vals.get'{xs:List V}{us:List aa}(r:Vals xs us){i:Nat}{u:aa}(h:us[i]?=some u):∃x,xs[i]?=some x/\RelV x u:=by
 cases e:xs[i]? with
 |none=>have:=r.none_of e;rw[this]at h;cases h
 |some x=>obtain⟨u',h1,h2⟩:=r.get e;rw[h]at h1;cases h1;exact⟨x,rfl,h2⟩
theorem Zh(hc:X.calm=true)(hu:X.A.units + 8 < b9):qG X (.type "set") (ahn X.prog X.w X.K):=by
 intro pins s σ H xs us Q I r h;obtain⟨p,ys,bM,U,rfl,hs,hlen,hz,hk,q⟩:=h;obtain⟨u,rfl,rx⟩:=r.one;cases rx;obtain⟨its,rv,hseq⟩:∃its:List aa,Vals ys its/\(s.heap.IsList p its.toArray∨s.heap.IsTuple p its.toArray):=by
  rcases hs with hs|hs
  ·obtain⟨its,rv,pl,_⟩:=I.list hs;exact⟨its,rv,.inl pl.isList⟩
  ·obtain⟨its,rv,pl,_⟩:=I.tuple hs;exact⟨its,rv,.inr pl⟩
 have hl:=rv.length;refine Lz (U:=U) (bM:=bM) (I.ok.hd hc) hu hseq hz (fun i v hv=>?_) (by rw[cv];lia) fun h' tk k hS=>?_
 ·obtain⟨x,h1,h2⟩:=Vals.get' rv (i:=i) (u:=v) (by simpa using hv);obtain⟨b,rfl,h3,h4⟩:=hk i x h1;exact⟨b,h2,acY I h3,h4⟩
 ·refine⟨.ref s.heap.objs.size,_,I.laid (t':=tk) k (bj _) (show mV X.prog X.w _ h' _ (.ext (afN X.prog X.w U s.heap.objs.size (cZ bM))) from⟨So.jj.obj hS,?_,?_⟩),rfl,q _ I.fresh⟩
  ·obtain⟨o,ho,_⟩:=So.jj.obj hS;exact⟨o,ho⟩
  ·rintro h1 h2 ⟨o,ho,x⟩ hk';exact⟨o,hk' o ho,x⟩
noncomputable def afO(P:aE)(w:ay)(K:ai):List V->Hp->VK->Prop:=fun xs H Q=>∃(p:ae) (bM:LL) (U:ae->List Int->Prop),xs=[.ref p]/\H p=some (.ext (afN P w U p bM))/\(∀b ks,U b ks->qF K H b (ks.map V.int))/\(∀ks∈bM,ks≠[])/\bM.length < 4900 /\
 ∀l ys,H l=none->ys.length=(nJ bM).length->(∀(i:Nat) v,ys[i]?=some v->∃b,v=.ref b/\U b ((nJ bM).getD i []))->Q (.ref l) (upd H l (.lst ys))
theorem Mr(hc:X.calm=true):qG X (.builtin "sorted") (afO X.prog X.w X.K):=by
 intro pins s σ H xs us Q I r h;obtain⟨p,bM,U,rfl,hp,hU,hne,h64,q⟩:=h;obtain⟨u,rfl,rx⟩:=r.one;cases rx;obtain⟨⟨o,ho,x⟩,_⟩:=I.hok _ _ hp;have hS:=So.Yn.at x ho (fun b ks hb=>acY I (hU b ks hb));refine So.Vn (I.ok.hd hc) hS hne h64 fun h' tk l n out k hl ho hg=>?_;have hln:H l=none:=I.hok.fresh hl;have hv:∃ys:List V,Vals ys out/\ys.length=(nJ bM).length/\∀(i:Nat) v,ys[i]?=some v->∃b,v=.ref b/\U b ((nJ bM).getD i []):=by
  refine⟨out.map fun v=>match v with|.ref b=>V.ref b|_=>V.non,?_,by simp[ho.1],fun i v hv=>?_⟩
  ·have:∀v∈out,∃b,v=aa.ref b:=fun v hv=>by obtain⟨i,hi⟩:=k7.mp hv;obtain⟨b,e,_⟩:=ho.2 i v hi;exact⟨b,e⟩
   clear ho hg
   induction out with
   |nil=>exact .nil
   |cons a out ih =>
    obtain⟨b,rfl⟩:=this a (.head _);exact .cons rfl (ih fun v hv=>this v (.tail _ hv))
  ·rw[df]at hv;cases e:out[i]? with
   |none=>rw[e]at hv;cases hv
   |some v' =>
    rw[e]at hv;obtain⟨b,rfl,h2⟩:=ho.2 i v' e;exact⟨b,(dk hv).symm,h2⟩
 obtain⟨ys,rv,yl,yv⟩:=hv;have e0:s.heap.objs.size<=l:=hl;refine⟨.ref l,_,I.laid (t':=tk) k hl (show mV X.prog X.w _ h' _ (.lst ys) from⟨?_,out,n,rv,hg⟩),rfl,q l ys hln yl yv⟩;have:(nJ bM).length=bM.length:=(oY bM).length_eq;rw[yl,this,e_];lia
noncomputable def jC:List D->Option (List Int)
 | []=>some []
 | .int i::ds=>(jC ds).map (i::·)
 |_=>none
noncomputable def oN:List D->Option LL
 | []=>some []
 | .tup ds::es=>match jC ds with|some k=>(oN es).map (k::·)|none=>none
 |_=>none
noncomputable def dF(ks:List Int):D:=.tup (ks.map .int)
theorem yQ(ks:List Int):jC (ks.map .int)=some ks:=by
 induction ks with
 |nil=>rfl
 |cons k ks ih=>simp[jC,ih]
theorem Bp:∀{ds:List D}{ks:List Int},jC ds=some ks->ds=ks.map .int
 | [],ks,h=>by simp[jC]at h;subst h;rfl
 | .int i::ds,ks,h=>by
  simp only[jC]at h;cases e:jC ds with
  |none=>rw[e]at h;cases h
  |some k=>rw[e]at h;simp at h;subst h;rw[Bp e];rfl
 | .non::ds,ks,h=>by simp[jC]at h
 | .bl _::ds,ks,h=>by simp[jC]at h
 | .str _::ds,ks,h=>by simp[jC]at h
 | .tup _::ds,ks,h=>by simp[jC]at h
 | .lst _::ds,ks,h=>by simp[jC]at h
 | .JG _ _::ds,ks,h=>by simp[jC]at h
 | .JH _ _::ds,ks,h=>by simp[jC]at h
 | .fn _::ds,ks,h=>by simp[jC]at h
 | .obj _ _ _::ds,ks,h=>by simp[jC]at h
theorem Zi(bM:LL):oN (bM.map dF)=some bM:=by
 induction bM with
 |nil=>rfl
 |cons k bM ih=>simp[oN,dF,yQ]at ih ⊢;exact ih
theorem GP:∀{ds:List D}{bM:LL},oN ds=some bM->ds=bM.map dF
 | [],ks,h=>by simp[oN]at h;subst h;rfl
 | .tup es::ds,ks,h=>by
  simp only[oN]at h;cases e:jC es with
  |none=>rw[e]at h;cases h
  |some k =>
   rw[e]at h;cases e2:oN ds with
   |none=>rw[e2]at h;cases h
   |some k2=>rw[e2]at h;simp at h;subst h;rw[GP e2,Bp e];rfl
 | .int i::ds,ks,h=>by simp[oN]at h
 | .non::ds,ks,h=>by simp[oN]at h
 | .bl _::ds,ks,h=>by simp[oN]at h
 | .str _::ds,ks,h=>by simp[oN]at h
 | .lst _::ds,ks,h=>by simp[oN]at h
 | .JG _ _::ds,ks,h=>by simp[oN]at h
 | .JH _ _::ds,ks,h=>by simp[oN]at h
 | .fn _::ds,ks,h=>by simp[oN]at h
 | .obj _ _ _::ds,ks,h=>by simp[oN]at h
theorem qO{K:ai}{G:Hp}:∀{ks:List Int}{vs:List V},bH K G (ks.map .int) vs->vs=ks.map V.int
 | [],vs,r=>bI.mp r
 |k::ks,vs,r=>by obtain⟨v,vs',rfl,r1,r2⟩:=aW.mp r;rw[bN.mp r1,qO r2];rfl
theorem Rz{K:ai}{G:Hp}{ks:List Int}{v:V}:Rep K G (dF ks) v↔∃b,v=.ref b/\UG K G b ks:=by
 unfold dF UG;constructor
 ·intro h;obtain⟨a,vs,rfl,q,r⟩:=bV.mp h;rw[qO r]at q;exact⟨a,rfl,q⟩
 ·rintro⟨b,rfl,q⟩;exact bV.mpr ⟨b,_,rfl,q,JK ks⟩
theorem Zj{K:ai}{G:Hp}{bM:LL}{vs:List V}(r:bH K G (bM.map dF) vs):bM.length=vs.length/\∀(i:Nat) v,vs[i]?=some v->∃b,v=.ref b/\UG K G b (bM.getD i []):=by
 refine⟨by have:=r.length;simpa using this,fun i v hv=>?_⟩;obtain⟨d,h1,h2⟩:=r.get' hv;rw[df]at h1;cases e:bM[i]? with
 |none=>rw[e]at h1;cases h1
 |some ks =>
  rw[e]at h1;cases h1;obtain⟨b,q1,q2⟩:=Rz.mp h2;exact⟨b,q1,by rw[gE,e];exact q2⟩
theorem Kq{K:ai}{G:Hp}:∀{bM:LL}{vs:List V},vs.length=bM.length->(∀(i:Nat) v,vs[i]?=some v->∃b,v=.ref b/\UG K G b (bM.getD i []))->bH K G (bM.map dF) vs
 | [],vs,h,_=>bI.mpr (n4.mp h)
 |k::bM,[],h,_=>by cases h
 |k::bM,v::vs,h,a=>by refine aW.mpr ⟨v,vs,rfl,Rz.mpr (a 0 v rfl),Kq (by simpa using h) fun i u hu=>?_⟩;exact a (i + 1) u hu
noncomputable def acZ(P:aE)(w:ay)(K:ai)(W:Wi)(σ:St)(G H:Hp)(r:Rs LL)(Q:VK):Prop :=
 match r with
 | .ok bM=>∀a H' G',Ext G H G' H'->H a=none->H' a=some (.ext (afN P w (UG K G') a bM))->Q (.ref a) H'
 | .ex c n=>∀H' G',Ext G H G' H'->W c n σ H'
 | .no=>False
noncomputable def tK(P:aE)(w:ay)(K:ai)(B:Bs)(W:Wi)(f:aD->Rs LL):TE:=fun σ H Q=>∃ρ G,SR K B σ H ρ G/\acZ P w K W σ G H (f ρ) Q
noncomputable def SK(X:Cx)(B:Bs)(W:Wi)(e:ag)(f:aD->Rs LL):Prop:=PE X e (tK X.prog X.w X.K B W f)
noncomputable def Ms:D->Rs LL
 | .lst ds=>match oN ds with|some bM=>if (cZ bM).length < 4900 then .ok bM else .no|none=>.no
 | .tup ds=>match oN ds with|some bM=>if (cZ bM).length < 4900 then .ok bM else .no|none=>.no
 |_=>.no
noncomputable def fK(f:aD->Rs D):aD->Rs LL:=fun ρ=>(f ρ).bind fun d=>(Ms d).bind fun bM=>.ok (cZ bM)
theorem afP{G H:Hp}(gh:Same G H)(tp:∀a xs,H a=some (.tup xs)->G a=some (.tup xs)){p:ae}{φ:aw->Prop}(hp:H p=none):Ext G H G (upd H p (.ext φ)) where
 gg:=.refl _
 hh:=fun b o e=>by rw[aQ (aR e hp)];exact e
 gh:=fun b o e=>by rw[aQ (aR (gh _ _ e) hp)];exact gh _ _ e
 tp:=fun b ys e=>by
  by_cases q:b=p
  ·subst q;rw[aV]at e;cases e
  ·rw[aQ q]at e;exact tp _ _ e
 nw:=fun b o e n=>n
theorem ajh{e:ag}{p pos:Pos}{f:aD->Rs D}(hc:X.calm=true) (hu:X.A.units + 8 < b9) (hm:X.mg "set"=none) (he:SE X B W e f) (hg:Gl X "set":=by rfl) (hst:a8 [e] X.env=[(false,a7 e X.env)]:=by rfl) :
  SK X B W (.Call (.Name "set" p) [e] [] pos) (fK f):=by
 refine PE.imp (JF (Zh hc hu) hg hm PyProof.Rows.boot_set (eZ he kZ hst) (by decide) (by decide) hst rfl) fun σ H Q h=>?_;obtain⟨ρ,G,s,p⟩:=h;refine⟨ρ,G,s,?_⟩;unfold fK at p;cases e1:f ρ with
 |ok d =>
  rw[e1]at p;have p':acZ X.prog X.w X.K W σ G H ((Ms d).bind fun bM=>.ok (cZ bM)) Q:=p;intro v H' G' x r;have jk:∀(a:ae) (vs:List V) (bM:LL),v=.ref a->(nu X.K H' a vs∨qF X.K H' a vs)->bH X.K G' (bM.map dF) vs->(cZ bM).length < 4900->acZ X.prog X.w X.K W σ G H (.ok (cZ bM)) Q->ahn X.prog X.w X.K [v] H' Q:=by
   intro a vs bM ea hs rr hz pp;obtain⟨hl,hk⟩:=Zj rr;refine⟨a,vs,bM,UG X.K G',by rw[ea],hs,hl,hz,fun i u hu'=>?_,fun l hl'=>?_⟩
   ·obtain⟨b,q1,q2⟩:=hk i u hu';exact⟨b,q1,Same.oV x.gh q2,q2⟩
   ·exact pp l _ G' (x.trans (afP x.gh x.tp hl')) (by cases e:H l with|none=>rfl|some o=>have:=x.hh _ _ e;rw[hl']at this;cases this) aV
  unfold Ms at p';split at p'
  ·rename_i ds;split at p'
   ·rename_i bM ek;by_cases hz:(cZ bM).length < 4900
    ·rw[if_pos hz]at p';obtain⟨a,vs,rfl,q,rr⟩:=bO.mp r;have hl:=rr.length;rw[GP ek]at rr;exact jk a vs bM rfl (.inl (x.gh.seq q)) rr hz p'
    ·rw[if_neg hz]at p';exact p'.elim
   ·exact p'.elim
  ·rename_i ds;split at p'
   ·rename_i bM ek;by_cases hz:(cZ bM).length < 4900
    ·rw[if_pos hz]at p';obtain⟨a,vs,rfl,q,rr⟩:=bV.mp r;have hl:=rr.length;rw[GP ek]at rr;exact jk a vs bM rfl (.inr (Same.oV x.gh q)) rr hz p'
    ·rw[if_neg hz]at p';exact p'.elim
   ·exact p'.elim
  ·exact p'.elim
 |ex c n=>rw[e1]at p;exact p
 |no=>rw[e1]at p;exact p
instance (bM:LL):Decidable (∀ks∈bM,ks≠[]):=inferInstance
noncomputable def Mt:LL->Rs D:=fun bM=>if (∀ks∈bM,ks≠[])/\bM.length < 4900 then .ok (.lst ((nJ bM).map dF)) else .no
noncomputable def GQ(f:aD->Rs LL):aD->Rs D:=fun ρ=>(f ρ).bind Mt
theorem Vo{e:ag}{p pos:Pos}{f:aD->Rs LL}(hc:X.calm=true) (hm:X.mg "sorted"=none) (he:SK X B W e f) (hg:Gl X "sorted":=by rfl) (hst:a8 [e] X.env=[(false,a7 e X.env)]:=by rfl) :
  SE X B W (.Call (.Name "sorted" p) [e] [] pos) (GQ f):=by
 refine PE.imp (xH (Mr hc) hg hm PyProof.Rows.boot_sorted (eZ he kZ hst) (by decide) (by decide) hst rfl) fun σ H Q h=>?_;obtain⟨ρ,G,s,p⟩:=h;refine⟨ρ,G,s,?_⟩;unfold GQ at p;cases e1:f ρ with
 |ok bM =>
  rw[e1]at p;intro a H' G' x _ ha;have p':Post X.K W σ G H (Mt bM) Q:=p;unfold Mt at p';by_cases hc':(∀ks∈bM,ks≠[])/\bM.length < 4900
  ·rw[if_pos hc']at p';refine⟨a,bM,UG X.K G',rfl,ha,fun b ks hb=>Same.oV x.gh hb,hc'.1,hc'.2,fun l ys hl hy hv=>?_⟩;have x2:=Ez (xs:=ys) x.gh x.tp hl;refine p' _ _ _ (x.trans x2) (bO.mpr ⟨l,ys,rfl,.of aV,?_⟩);exact(Kq hy hv).mono x2.gg
  ·rw[if_neg hc']at p';exact p'.elim
 |ex c n=>rw[e1]at p;exact p
 |no=>rw[e1]at p;exact p
end
section
variable{X:Cx}{B:Bs}{W:Wi}
noncomputable def COr(a b:LL):Prop:=a.length + b.length < 900
noncomputable def alM(a b:LL):Prop:=a.length < 900/\b.length < 900
noncomputable def alN(a b:LL):Prop:=a.length < 900/\b.length < 900/\(b=[]∨¬a.length / 4 > b.length)
instance (a b:LL):Decidable (COr a b):=by unfold COr;exact inferInstance
instance (a b:LL):Decidable (alM a b):=by unfold alM;exact inferInstance
instance (a b:LL):Decidable (alN a b):=by unfold alN;exact inferInstance
end
end Vl
namespace Vl
open PySem PySem.Spec L2
noncomputable def Zk(i:Nat)(fs:aD->Rs (List D)):aD->Ou:=fun ρ=>oR (fs ρ) ρ fun ds=>if ds.length<=1000 then .nx (ρ.set i (.ow ds)) else .no
noncomputable def Aa(i:Nat)(f:aD->Rs D):aD->Ou:=fun ρ=>match ρ[i]? with|some (.ow ds)=>oR (f ρ) ρ fun d=>if ds.length < 1000000 then .nx (ρ.set i (.ow (ds++[d]))) else .no|_=>.no
noncomputable def ada(i:Nat)(g:aD->Ou):aD->Ou:=fun ρ=>g (Jw i ρ)
section
variable{X:Cx}{K:ai}{B:Bs}{W:Wi}{σ:St}{G H:Hp}{ρ:aD}
theorem Mu(i:Nat){x:Str}{es:List ag}{pos pos' lp:Pos}{f:aD->Rs (List D)}(hN:X.N.Nodup)(he:SA X B W es f)(hi:X.N[i]?=some x:=by rfl)(hx:Loc X.env.scope x:=by first|exact Or.inl rfl|exact Or.inr rfl)(hs:dC (.List es lp) (some (.Name x pos')) pos.line X.env=pure false:=by rfl)(hf:X.fn x=true∨X.env.scope.names.lookup x=some .local:=by first|exact .inl rfl|exact .inr rfl|assumption) :
  SS X B W (.Assign [.Name x pos'] (.List es lp) pos) (Zk i f):=aiD hN hi hx he hs hf
theorem rG(i:Nat){x:Str}{e:ag}{pos p1 p2 cp:Pos}{f:aD->Rs D}(he:SE X B W e f)(hN:X.N[i]?=some x:=by rfl)(hv:Ik X.env.scope x:=by first|exact Or.inl rfl|exact Or.inr (Or.inl rfl)|exact Or.inr (Or.inr rfl))(hd:wk x:=by decide)
  (hcd:Qc x:=by decide) (hst:a8 [e] X.env=[(false,a7 e X.env)]:=by rfl)
  (hbase:iX (.Name x p1) "append" X.env (a7 (.Name x p1) X.env)=a7 (.Name x p1) X.env:=by rfl)
  (hfew:((cE cp (a8 [e] X.env)).all (fun x=>!x.1) && (gy cp (gz [] X.env)).all (fun x=>x.1.isSome)
   && decide (([e]:List ag).length + ([]:List hV).length + (if ([]:List hV).isEmpty then 0 else 1) < 30))=true:=by rfl)
  (hline:(p2.endLine == cp.line)=true:=by rfl) (hplain:(cE cp (a8 [] X.env)).any (·.1)=false:=by rfl)
  (hs:dC (.Call (.Attribute (.Name x p1) "append" p2) [e] [] cp) none pos.line X.env=pure false:=by rfl) :
  SS X B W (.Expr (.Call (.Attribute (.Name x p1) "append" p2) [e] [] cp) pos) (Aa i f) :=
 YJ (pe:=Qo rS PySem.F.slot_list_append PySem.F.type_list_append Cr (nC hN hv hd hcd) (eZ he kZ hst) hbase hfew hline hst hplain) (nC hN hv hd hcd) he hst hs
theorem Mv(i:Nat){st:List aS}{g:aD->Ou}(h:Ba X B W st g):Ba X B W st (ada i g):=afe i h
theorem adb{e:ag}{p pos:Pos}{fa:aD->Rs D}(hm:X.mg "tuple"=none) (ha:SE X B W e fa) (hg:Gl X "tuple":=by rfl) (he:a8 [e] X.env=[(false,a7 e X.env)]:=by rfl):SE X B W (.Call (.Name "tuple" p) [e] [] pos) (fA (ao fa aL) FZ) :=
 CJ Il abH hg hm PyProof.Rows.boot_tuple (aj ha au he) (by decide) (by decide) he rfl
noncomputable def Zm:List D->Rs D
 | [.int i]=>.ok (.int i)
 | [.bl b]=>.ok (.int (if b then 1 else 0))
 |_=>.no
theorem aji:uh K (fun xs H Q=>(∃i,xs=[.int i]/\Q (.int i) H)∨∃k,xs=[.bl k]/\Q (.int (if k then 1 else 0)) H) Zm:=by
 intro B W σ ρ G H ds vs Q s r p;unfold Zm at p;split at p
 ·obtain⟨v,vs',rfl,r1,r2⟩:=aW.mp r;rw[bI.mp r2,bN.mp r1];exact .inl ⟨_,rfl,Post.ok s p (bN.mpr rfl)⟩
 ·obtain⟨v,vs',rfl,r1,r2⟩:=aW.mp r;rw[bI.mp r2,fG.mp r1];exact .inr ⟨_,rfl,Post.ok s p (bN.mpr rfl)⟩
 ·exact p.elim
theorem ade{e:ag}{p pos:Pos}{fa:aD->Rs D}(hm:X.mg "int"=none) (ha:SE X B W e fa) (hg:Gl X "int":=by rfl) (he:a8 [e] X.env=[(false,a7 e X.env)]:=by rfl):SE X B W (.Call (.Name "int" p) [e] [] pos) (fA (ao fa aL) Zm) :=
 CJ Yw aji hg hm PyProof.Rows.Boot.«int» (aj ha au he) (by decide) (by decide) he rfl
variable{a b:ag}{pos:Pos}{fa fb:aD->Rs D}
noncomputable def inD(x:D)(ds:List D):Bool:=ds.any fun d=>wX d x
noncomputable def alO(K:ai)(neg:Bool):R2:=fun x y H Q=>∃d p ys ds,y=.ref p/\(nu K H p ys∨qF K H p ys)/\Rep K H d x/\bH K H ds ys/\nA d<=7/\oM ds<=7/\Q (.bl (if neg then !inD d ds else inD d ds)) H
open Classical in
theorem ahp{pins:List (ae×Obj)}{s:af}{A:aT}{x:V}{v:aa}{d:D}(I:Inv X pins σ H s)(hu:A.units + 7 < b9)(rx:RelV x v)(rd:Rep X.K H d x)(hd:nA d<=7):∀{ds:List D}{ys:List V}{its:List aa},Vals ys its->bH X.K H ds ys->oM ds<=7 ->
  ∃f:aa->Bool,(∀u∈its,lj A s u v (f u))/\its.any f=inD d ds:=by
 intro ds ys its rv rr hds;refine⟨fun u=>if h:∃d' v',Rep X.K H d' v'/\RelV v' u/\nA d'<=7 then wX (choose h) d else false,fun u hu'=>?_,?_⟩
 ·obtain⟨i,hi⟩:=k7.mp hu';obtain⟨y,h1,h2⟩:=Vals.get' rv hi;obtain⟨d',h3,h4⟩:=rr.get' h1;have hx:∃d' v',Rep X.K H d' v'/\RelV v' u/\nA d'<=7:=⟨d',y,h4,h2,ck (Av (pf h3)) hds⟩
  dsimp only;rw[dif_pos hx];obtain⟨v',q1,q2,q3⟩:=choose_spec hx;exact abB I 7 q3 hd (by lia) q1 rd q2 rx
 ·unfold inD
  induction ds generalizing ys its with
  |nil =>
   cases bI.mp rr;cases rv;rfl
  |cons d0 ds ih =>
   obtain⟨y,ys',rfl,r1,r2⟩:=aW.mp rr;cases rv with
   | @cons _ u _ us r3 r4 =>
    rw[uB,uB,ih r4 r2 (ck (by simp only[oM];exact t9 _ _) hds)];congr 1;have hd0:nA d0<=7:=ck (Av (eR)) hds;have hx:∃d' v',Rep X.K H d' v'/\RelV v' u/\nA d'<=7:=⟨d0,y,r1,r3,hd0⟩
    rw[dif_pos hx];obtain⟨v',q1,q2,q3⟩:=choose_spec hx;have:v'=y:=by have z1:=Vals.inj (xs:=[v']) (ys:=[y]) (us:=[u]) (.cons q2 .nil) (.cons r3 .nil);exact(List.cons.inj z1).1
    subst this;rw[Rep.inj I (by lia) q1 r1]
theorem Zn(hu:X.A.units + 8 < b9):Ak X (iA .NotIn) (alO X.K true):=by
 intro pins s σ H x y v u Q I rx ry h;obtain⟨d,p,ys,ds,rfl,hq,rd,rr,hd,hds,q⟩:=h;cases ry;rcases hq with hq|hq
 ·obtain⟨its,r,pl,hz⟩:=I.list hq;obtain⟨f,h1,h2⟩:=ahp (A:=X.A.in1) I (by show X.A.units + 1 + 7 < b9;lia) rx rd hd r rr hds;refine SeqAt.notIn_listAt f pl.isList (fun w hw=>h1 w (by simpa using hw)) ⟨.bl _,H,I,rfl,?_⟩;rw[show its.toArray.any f=its.any f by simp,h2];exact q
 ·obtain⟨its,r,pl,hz⟩:=I.tuple hq;obtain⟨f,h1,h2⟩:=ahp (A:=X.A.in1) I (by show X.A.units + 1 + 7 < b9;lia) rx rd hd r rr hds;refine SeqAt.notIn_tupleAt f pl (fun w hw=>h1 w (by simpa using hw)) ⟨.bl _,H,I,rfl,?_⟩;rw[show its.toArray.any f=its.any f by simp,h2];exact q
noncomputable def ajj(neg:Bool):D->D->Rs D:=fun x y=>match y with
 | .lst ds=>if nA x<=7/\oM ds<=7 then .ok (.bl (if neg then !inD x ds else inD x ds)) else .no
 | .tup ds=>if nA x<=7/\oM ds<=7 then .ok (.bl (if neg then !inD x ds else inD x ds)) else .no
 |_=>.no
noncomputable abbrev adf:=ajj true
theorem ajk{neg:Bool}:Wv K (alO K neg) (ajj neg):=by
 intro B W σ ρ G H x y v u Q s rx ry p;unfold ajj at p;split at p
 ·rename_i ds;split at p
  ·rename_i hc;obtain⟨a,vs,rfl,q,rr⟩:=bO.mp ry;exact⟨x,a,vs,ds,rfl,.inl (s.en.gh.seq q),rx.mono s.en.gh,rr.mono s.en.gh,hc.1,hc.2,Post.ok s p (fG.mpr rfl)⟩
  ·exact p.elim
 ·rename_i ds;split at p
  ·rename_i hc;obtain⟨a,vs,rfl,q,rr⟩:=bV.mp ry;exact⟨x,a,vs,ds,rfl,.inr (Same.oV s.en.gh q),rx.mono s.en.gh,rr.mono s.en.gh,hc.1,hc.2,Post.ok s p (fG.mpr rfl)⟩
  ·exact p.elim
 ·exact p.elim
theorem adg(hu:X.A.units + 8 < b9)(ha:SE X B W a fa)(hb:SE X B W b fb)(hm:kG .NotIn b=false:=by rfl):SE X B W (.Compare a [.NotIn] [b] pos) (bW adf fa fb):=Us (Zn hu) ajk ha hb hm
end
end Vl
namespace Vl
open PySem PySem.Spec L2 So Tb
section
variable{X:Cx}{B:Bs}{W:Wi}{K:ai}
theorem Cu:∀{us:List aa}{ns:List Int},PyProof.Rows.IntsAre us ns->Vals (ns.map V.int) us:=by
 intro us ns h
 induction h with
 |nil=>exact .nil
 |cons n t _ ih=>exact .cons ⟨t,rfl⟩ ih
end
end Vl
namespace Vl
open PySem PySem.Spec L2
section
variable{X:Cx}{B:Bs}{W:Wi}{K:ai}
end
noncomputable def Xq:D->D->Rs D
 | .tup a,.tup b=>if a.length + b.length<=1000000 then .ok (.tup (a++b)) else .no
 |_,_=>.no
section
variable{X:Cx}{B:Bs}{W:Wi}{K:ai}{a b:ag}{pos:Pos}{fa fb:aD->Rs D}
noncomputable def adh(K:ai):R2:=fun x y H Q=>∃a b ys,x=.ref a/\y=.ref b/\qF K H a []/\qF K H b ys/\Q (.ref b) H
open PyProof.Rows in
theorem adi:Ak X (fE .Add) (adh X.K):=by
 intro pins s σ H x y v u Q I rx ry h;obtain⟨a,b,ys,rfl,rfl,ha,hb,q⟩:=h;cases rx;cases ry;obtain⟨its,r1,p1,_⟩:=I.tuple ha;obtain⟨its2,r2,p2,_⟩:=I.tuple hb;cases r1;obtain⟨⟨cls,dd,data,sl⟩,ho,hc,n,hd⟩:=id p1;obtain⟨⟨cls2,dd2,data2,sl2⟩,ho2,hc2,n2,hd2⟩:=id p2;simp only at hc hd hc2 hd2;subst hc hd hc2 hd2;exact ph ⟨_,ho,rfl⟩ ⟨_,ho2,rfl⟩ tm tq tx tz (tJ _ _)
  (tuple_addW0 a b _ its2.toArray n n2 dd dd2 sl sl2 rfl) ⟨ho,ho2,.ref b,H,I,rfl,q⟩
theorem adk:Wv K (fun x y H Q=>agW K x y H Q∨adh K x y H Q) Xq:=by
 intro B W σ ρ G H x y v u Q s rx ry p;unfold Xq at p;split at p
 ·rename_i ds es;split at p
  ·rename_i hl;have ry':=ry;have rx':=rx;obtain⟨a,vs,rfl,q,r⟩:=bV.mp rx;obtain⟨b,us,rfl,q',r'⟩:=bV.mp ry;cases ds with
   |nil =>
    have:=bI.mp r;subst this;exact .inr ⟨a,b,us,rfl,rfl,Same.oV s.en.gh q,Same.oV s.en.gh q',Post.ok s p ry'⟩
   |cons d ds =>
    have h1:vs≠[]:=fun z=>by subst z;have:=r.length;simp at this
    refine .inl ⟨a,b,vs,us,rfl,rfl,Same.oV s.en.gh q,Same.oV s.en.gh q',h1,by rw[<- r.length,<- r'.length];exact sz6 hl,fun z=>?_,fun _ c hc=>?_⟩
    ·subst z;have:es=[]:=n4.mp (by have:=r'.length;simpa using this);subst this;rw[fh]at p;exact Post.ok s p rx'
    ·have x:=sO (xs:=vs++us) s.en.gh s.en.tp hc;exact p _ _ _ x (bV.mpr ⟨c,vs++us,rfl,.of aV,(r.append r').mono x.gg⟩)
  ·exact p.elim
 ·exact p.elim
end
section
variable{X:Cx}{B:Bs}{W:Wi}
end
section
variable{X:Cx}{B:Bs}{W:Wi}
end
section
variable{X:Cx}{B:Bs}{W:Wi}
end
section
variable{X:Cx}{B:Bs}{W:Wi}
end
section
variable{X:Cx}{B:Bs}{W:Wi}
end
section
variable{X:Cx}{K:ai}{B:Bs}{W:Wi}{σ:St}{G H:Hp}{ρ:aD}{a b c:ag}{pos:Pos}{fa fb fc:aD->Rs D}
noncomputable def Zo(i:Nat)(fs:aD->Rs (List D)):aD->Ou:=fun ρ=>match ρ[i]? with
 |some (.ow ds)=>oR (fs ρ) ρ fun es=>if ds.length + es.length<=1000000 then .nx (ρ.set i (.ow (ds++es))) else .no
 |_=>.no
theorem afQ{i:Nat}{x:Str}{es:List ag}{lp pos p1 p2 cp:Pos}{f:aD->Rs (List D)}(he:SA X B W es f) {pe:PE X (.Call (.Attribute (.Name x p1) "extend" p2) [.List es lp] [] cp) (tBM X.K "list" Wr (Yr i) (Qj (akV (tAF X.K B W f)) abn))}
  (hs:dC (.Call (.Attribute (.Name x p1) "extend" p2) [.List es lp] [] cp) none pos.line X.env=pure false:=by rfl) :
  SS X B W (.Expr (.Call (.Attribute (.Name x p1) "extend" p2) [.List es lp] [] cp) pos) (Zo i f):=by
 refine PS.imp (Eu pe hs) fun De σ H ⟨ρ,G,s,p⟩=>?_;unfold Zo at p;cases q:ρ[i]? with
 |none=>rw[q]at p;exact p.elim
 |some z =>
  rw[q]at p;cases z with
  |ow ds =>
   obtain⟨a,vs,e1,h2,h3,h4,h5⟩:=s.ow i ds q;refine⟨_,e1,.inl ⟨rfl,vs,.of h2⟩,ρ,G,s,?_⟩;have p':fP X.K B W G (oR (f ρ) ρ fun es=>if ds.length + es.length<=1000000 then .nx (ρ.set i (.ow (ds++es))) else .no) De:=p;cases e:f ρ with
   |no=>rw[e]at p';exact p'.elim
   |ex c n=>rw[e]at p';exact fun H' G' y=>p' σ H' G' (s.ext y) y.gg
   |ok ys =>
    rw[e]at p';have p3:fP X.K B W G (if ds.length + ys.length<=1000000 then .nx (ρ.set i (.ow (ds++ys))) else .no) De:=p';by_cases hl:ds.length + ys.length<=1000000
    ·rw[if_pos hl]at p3;intro us H' G' y r;refine⟨by rw[<- r.length];exact sz6 (by lia),fun c hc=>?_⟩;have s1:=s.ext y;have s2:=s1.ext (yL s1.en.gh s1.en.tp (xs:=us) hc);have ha:H' a=some (.lst vs):=y.hh _ _ h2;have hac:a≠c:=fun z=>by rw[z,hc]at ha;cases ha
     refine⟨a,c,vs,us,rfl,rfl,by rw[aQ hac];exact ha,aV,by rw[<- h5.length,<- r.length];exact sz6 hl,?_⟩;exact p3 σ _ G' (s2.write q e1 ((h5.mono y.gg).append r)) y.gg
    ·rw[if_neg hl]at p3;exact p3.elim
  |_=>exact p.elim
theorem ajl(i:Nat){x:Str}{es:List ag}{lp pos p1 p2 cp:Pos}{f:aD->Rs (List D)}(he:SA X B W es f)(hN:X.N[i]?=some x:=by rfl)(hv:Ik X.env.scope x:=by first|exact Or.inl rfl|exact Or.inr (Or.inl rfl)|exact Or.inr (Or.inr rfl))(hd:wk x:=by decide)
  (hcd:Qc x:=by decide) (hst:a8 [ag.List es lp] X.env=[(false,a7 (.List es lp) X.env)]:=by rfl)
  (h1:iX (.Name x p1) "extend" X.env (a7 (.Name x p1) X.env)=a7 (.Name x p1) X.env:=by rfl)
  (h3:((cE cp (a8 [ag.List es lp] X.env)).all (fun q=>!q.1) && (gy cp (gz [] X.env)).all (fun q=>q.1.isSome) && decide (([ag.List es lp]:List ag).length + 0 + 0 < 30))=true:=by rfl)
  (h4:(p2.endLine == cp.line)=true:=by rfl) (h5:((cE cp (a8 [] X.env)).any fun q=>q.1)=false:=by rfl)
  (hs:dC (.Call (.Attribute (.Name x p1) "extend" p2) [.List es lp] [] cp) none pos.line X.env=pure false:=by rfl) :
  SS X B W (.Expr (.Call (.Attribute (.Name x p1) "extend" p2) [.List es lp] [] cp) pos) (Zo i f) :=
 afQ (pe:=Qo rS PySem.F.slot_list_extend PySem.F.type_list_extend YC (nC hN hv hd hcd) (eZ (Cq he) kZ hst) h1 h3 h4 hst h5) he hs
end
section
variable{X:Cx}{B:Bs}{W:Wi}
end
end Vl
namespace L2
open PySem PySem.Spec PyProof.Rows
section
variable{X:Cx}{pins:List (ae×Obj)}{σ:List (Option V)}{H:Hp}{s:af}{h':aw}
theorem Inv.GR{t':Nat}{ch:List ae}{T:ae}{o:HO}(I:Inv X pins σ H s)(k:∀b u,b∉ch->s.heap.get? b=some u->h'.get? b=some u)(hf:∀b∈ch,tQ X pins H b)(hT:s.heap.objs.size<=T)
  (new:mV X.prog X.w (upd H T o) h' T o):Inv X pins σ (upd H T o) { s with heap:=h',toks:=t' }:=by
 have fr:H T=none:=I.hok.fresh hT;have neT:∀b u,s.heap.get? b=some u->b≠T:=fun b u e=>cq (dn (bE e) hT);have tr:∀b u,H b=some u->b≠T:=fun b u e=>aR e fr;have Wf:∀b u,H b=some u->b∉ch:=fun b u e z=>by rw[(hf b z).1]at e;cases e
 refine I.step (g':=s.gens) (d':=s.drawn) (ch:=ch) (fun b hb=>⟨(hf b hb).2.2.2.1,(hf b hb).2.1,(hf b hb).2.2.2.2.1,(hf b hb).2.2.2.2.2⟩) (fun b o _ _ hc e _=>k b o hc e) (fun b o _ _ hc e _=>⟨o.slots,k b o hc e⟩) (fun b o _ e n=>by rw[aQ (neT b o e)];exact n)
  (fun b o hc e=>⟨o,k b o hc e⟩) (fun b xs e=>by rw[aQ (tr _ _ e)];exact e) (fun b o u e=>by rw[aQ (tr _ _ e)];exact e) (fun b ps e=>⟨#[],by rw[aQ (tr _ _ e),e];simp⟩) (fun m hm=>?_) (fun b u e=>?_) I.bare
 ·obtain⟨o,es,ep,ho,r⟩:=hm;exact⟨o,es,ep,k _ o (fun z=>(hf _ z).2.1 rfl) ho,r⟩
 ·by_cases hb:b=T
  ·subst hb;rw[aV]at e;cases e;exact new
  ·rw[aQ hb]at e;refine(I.hok b u e).stay (fun c v hc q=>k c v ?_ q) (fun c q=>by rw[aQ (tr _ _ q)];exact q) (fun c xs q=>by rw[aQ (tr _ _ q)];exact q) fun c xs q=>by rw[aQ (tr _ _ q)];exact q
   rcases hc with z|z
   ·rw[z];exact Wf b u e
   ·exact Wf c _ z
theorem Inv.Mw{t':Nat}{ch:List ae}(I:Inv X pins σ H s)(k:∀b u,b∉ch->s.heap.get? b=some u->h'.get? b=some u)(hf:∀b∈ch,tQ X pins H b):Inv X pins σ H { s with heap:=h',toks:=t' }:=by
 have Wf:∀b u,H b=some u->b∉ch:=fun b u e z=>by rw[(hf b z).1]at e;cases e
 refine I.step (g':=s.gens) (d':=s.drawn) (ch:=ch) (fun b hb=>⟨(hf b hb).2.2.2.1,(hf b hb).2.1,(hf b hb).2.2.2.2.1,(hf b hb).2.2.2.2.2⟩) (fun b o _ _ hc e _=>k b o hc e) (fun b o _ _ hc e _=>⟨o.slots,k b o hc e⟩) (fun _ _ _ _ n=>n)
  (fun b o hc e=>⟨o,k b o hc e⟩) (fun _ _ e=>e) (fun _ _ _ e=>e) (fun b ps e=>⟨#[],by rw[e];simp⟩) (fun m hm=>?_) (fun b u e=>?_) I.bare
 ·obtain⟨o,es,ep,ho,r⟩:=hm;exact⟨o,es,ep,k _ o (fun z=>(hf _ z).2.1 rfl) ho,r⟩
 ·refine(I.hok b u e).stay (fun c v hc q=>k c v ?_ q) (fun _ q=>q) (fun _ _ q=>q) fun _ _ q=>q;rcases hc with z|z
  ·rw[z];exact Wf b u e
  ·exact Wf c _ z
end
noncomputable def Ite(K:ai)(a:ae):It :=
  ⟨fun i H=>∃xs x,nu K H a xs/\xs[i]?=some x,
   fun i H x H'=>∃T v,H T=none/\x=.ref T/\H'=upd H T (.tup [.int (i:Nat),v])/\∀xs,nu K H a xs->xs[i]?=some v,
   fun i H=>∃xs,nu K H a xs/\xs.length<=i⟩
theorem Zq{P:aE}{w:ay}{K:ai}{elts:List ag}{kx:Nat}{tp:Pos}(a e it:ae)(hei:e≠it) :
    Turn P w K (.Tuple elts kx tp) (Ite K a) [e,it] e (fun i h=>(∃old,IsEnum h e it i old)/\h.IsListIter it a i) where
  mem:=by simp
  obj:=fun i h st b hb=>by
    obtain⟨⟨old,he⟩,o,e1,c,d⟩:=st;rcases bq.mp hb with z|hb
    . subst z
      exact⟨_,he,fun v z=>by
        have z':Data.fields _=Data.cell v:=z;cases z'⟩
    . rw[dE.mp hb]
      exact⟨o,e1,fun v z=>by rw[d]at z;cases z⟩
  keep:=fun i h h' st k=>by obtain⟨⟨old,he⟩,hit⟩:=st;exact⟨⟨old,k e (by simp) _ he⟩,hit.at fun o x=>k it (by simp) o x⟩
  item:=by
    intro X hP hw hK hc i pins s σ H E I hf st hg;subst hP hw hK;obtain⟨xs,x,hq,hx⟩:=hg;obtain⟨its,rv,p,hz⟩:=I.list hq;obtain⟨u,hu,ru⟩:=rv.get hx;obtain⟨⟨old,he⟩,hit⟩:=id st;have hle:a≠e:=fun z=>by subst z;obtain⟨o,ho,hc,_⟩:=p.isList;rw[he]at ho;cases ho;injection hc with z;exact absurd z (by decide)
    have hli:a≠it:=fun z=>by subst z;obtain⟨o,ho,hc,_⟩:=p.isList;obtain⟨o',ho',hc',_⟩:=hit;rw[ho]at ho';cases ho';rw[hc]at hc';injection hc' with z;exact absurd z (by decide)
    have W:=WalksT.enumerate (prog:=X.prog) (w:=X.w) (I.ok.hd hc) e it a hei hle hli its.toArray;have hlt:i < its.toArray.size:=by have:=(dq.mp hu).1;simpa using this
    refine W.item i s _ _ hlt ⟨⟨old,he⟩,hit,p.isList⟩ fun T vals h1 tk hv hT tup mid kk=>?_;obtain⟨t,x',hx',rfl⟩:=hv;have ex:x'=u:=by
      have:its[i]?=some x':=by simpa using hx'
      rw[hu]at this;exact(dk this).symm
    subst ex;refine⟨.ref T,rfl,W.go elts kx tp i T _ _ _ mid fun h2 st2 kk2=>?_⟩;have tw:T∉[e,it]:=W.apart _ _ _ mid;have I2:Inv X pins σ (upd H T (.tup [.int (i:Nat),x])) { s with heap:=h2,toks:=tk }:=by
      refine I.GR (ch:=[e,it]) (fun b o hb q=>kk2 b o hb (kk b o hb q)) hf hT ?_;obtain⟨o,ho,hoc,n,hod⟩:=tup;refine⟨?_,[.int (i:Nat) t,x'],.cons ⟨t,rfl⟩ (.cons ru .nil),?_⟩
      . show 2<=sizeLine
        decide
      . exact⟨o,kk2 T o tw ho,hoc,n,hod⟩
    refine⟨.ref T,_,I2,rfl,⟨T,x,I.hok.fresh hT,rfl,rfl,fun ys hy=>by rw[I.xG hy hq];exact hx⟩,⟨st2.1,st2.2.1⟩,fun b hb=>?_⟩;rw[aQ (by intro z;subst z;exact tw hb)];exact(hf b hb).1
  done := by
    intro X hP hw hK hc i pins s σ H E I hf st hg;subst hP hw hK;obtain⟨xs,hq,hx⟩:=hg;obtain⟨its,rv,p,hz⟩:=I.list hq;obtain⟨⟨old,he⟩,hit⟩:=id st;have hl:=rv.length;exact wpAny_pyNext_enum_end (I.ok.hd hc) he hit p.isList (by simp;lia) fun h' eb=>⟨rfl,I.Mw (t':=s.toks) (ch:=[e,it]) (fun b o hb q=>eb b o (fun z=>hb (by simp[z])) q) hf⟩
  self:=fun _ _ _ _ _ st h=>by obtain⟨⟨old,he⟩,_⟩:=st;exact wpAny_pyIter_enum he h
section
variable{X:Cx}
noncomputable def alP(K:ai)(ta:TA):TI:=fun σ H R=>ta σ H fun vs H1=>∃a,vs=[.ref a]/\(∃xs,nu K H1 a xs)/\R (Ite K a) H1
theorem afR{l:ag}{ta:TA}{p pos:Pos}{elts:List ag}{kx:Nat}{tp:Pos}(hg:Gl X "enumerate") (hm:X.mg "enumerate"=none) (ha:PA X [l] ta) (hs:a8 [l] X.env=[(false,a7 l X.env)]:=by rfl) :
  PI X (.Tuple elts kx tp) (.Call (.Name "enumerate" p) [l] [] pos) (alP X.K ta):=by
 intro pins s σ H R I h;refine Call_ (zO I hg hm boot_enumerate (o7 (nq (ha pos pins s σ H _ I h) fun us s1 ⟨vs,H1,I1,r1,q1⟩=>?_) hs rfl));obtain⟨a,e,⟨xs,hq⟩,q⟩:=q1;subst e;obtain⟨u,rfl,rx⟩:=r1.one;cases rx;obtain⟨its,rv,pl,hz⟩:=I1.list hq;refine call_enumerate_list pl.isList fun h' he hit hsz kk=>wpAny_pyIter_enum he ?_;refine⟨s1.heap.objs.size + 1,[s1.heap.objs.size + 1,s1.heap.objs.size],_,Ite X.K a,H1,rfl,I1.kept (t':=s1.toks) kk,Zq a _ _ (vt _),⟨⟨_,he⟩,hit⟩,fun b hb=>?_,q⟩;have hb':s1.heap.objs.size<=b:=by
  rcases bq.mp hb with z|hb
  ·rw[z];exact td _
  ·rw[dE.mp hb];exact bj _
 exact I1.Uc hb' (I1.hok.fresh hb')
end
theorem adl{K:ai}{a:ae}{xs:List V}{g:TG}{tb:TS}{D:Ends}{σ:St}{H:Hp}(Pv:Nat->St->Hp->Prop)(h0:Pv 0 σ H)(hl:∀i σ H,i<=xs.length->Pv i σ H->nu K H a xs)
  (hs:∀i x T σ H,xs[i]?=some x->H T=none->Pv i σ H->g (.ref T) σ (upd H T (.tup [.int (i:Nat),x])) fun σ2 H2=>tb { D with nx:=Pv (i + 1),ct:=Pv (i + 1),bk:=D.nx } σ2 H2) (hd:∀σ H,Pv xs.length σ H->D.nx σ H) :
  ∃W:Nat->Nat->St->Hp->Prop,(∃m,W 0 m σ H)/\∀i m σ H,W i m σ H ->
   ((Ite K a).stop i H/\D.nx σ H)∨((Ite K a).go i H/\∃N:St->Hp->Prop,(∀σ' H',N σ' H'->∃m',m' < m/\W (i + 1) m' σ' H')/\∀x H',(Ite K a).yld i H x H'->g x σ H' fun σ2 H2=>tb { D with nx:=N,ct:=N,bk:=D.nx } σ2 H2):=by
 refine⟨fun i m σ H=>m=xs.length - i/\i<=xs.length/\Pv i σ H,⟨xs.length,by simp,eD _,h0⟩,?_⟩;rintro i m σ H ⟨rfl,hi,p⟩;have q:=hl i σ H hi p;by_cases hlt:i < xs.length
 ·refine .inr ⟨⟨xs,xs[i],q,by simp[hlt]⟩,Pv (i + 1),fun σ' H' p'=>⟨xs.length - (i + 1),by lia,rfl,hlt,p'⟩,fun x H' y=>?_⟩;obtain⟨T,v,hT,rfl,rfl,y⟩:=y;exact hs i v T σ H (y xs q) hT p
 ·have e:i=xs.length:=by lia
  subst e;exact .inl ⟨⟨xs,q,bj _⟩,hd σ H p⟩
end L2
namespace Vl
open PySem PySem.Spec L2
noncomputable def wB:Nat->List D->List D
 |_,[]=>[]
 |i,d::ds=>.tup [.int (i:Nat),d]::wB (i + 1) ds
theorem GX:∀(ds:List D) (i j:Nat) (d:D),ds[i]?=some d->(wB j ds).drop i=.tup [.int ((j + i:Nat):Int),d]::(wB j ds).drop (i + 1)
 | [],_,_,_,h=>by simp at h
 |x::ds,0,j,d,h=>by simp at h;subst h;simp[wB]
 |x::ds,i + 1,j,d,h=>by
  have:=GX ds i (j + 1) d (by simpa using h);simp only[wB,List.drop_succ_cons];rw[this];congr 3
  ·congr 1;lia
theorem Kr:∀(ds:List D) (j:Nat),(wB j ds).length=ds.length
 | [],_=>rfl
 |x::ds,j=>by simp[wB,Kr ds]
noncomputable def Xr(h:Tg)(gb:aD->Ou)(f:aD->Rs D):aD->Ou:=fun ρ=>oR (f ρ) ρ fun d=>match d with|.lst ds=>jA h gb (wB 0 ds) ρ|_=>.no
section
variable{X:Cx}{B:Bs}{W:Wi}
theorem afS{iter:ag}{p pos':Pos}{elts:List ag}{kx:Nat}{tp:Pos}{body:List aS}{pos:Pos}{f:aD->Rs D}{h:Tg}{gb:aD->Ou}(hp:ls (ar X.prog X.w) X.A X.env X.xe) (hc:X.calm=true) (hm:X.mg "enumerate"=none) (hi:SE X B W iter f) (hg:SG X B (.Tuple elts kx tp) h) (hb:Ba X B W body gb)
  (hgl:Gl X "enumerate":=by rfl) (hst:a8 [iter] X.env=[(false,a7 iter X.env)]:=by rfl)
  (hs:∀x,ir (.Call (.Name "enumerate" p) [iter] [] pos') X.env x=pure x:=by intro _;rfl):SS X B W (.For (.Tuple elts kx tp) (.Call (.Name "enumerate" p) [iter] [] pos') body [] pos) (Xr h gb f):=by
 refine PS.imp (Fx hp hc (afR hgl hm (eZ hi kZ hst) hst) hg hb hs) fun De σ H mF=>?_;obtain⟨ρ,G,s,p⟩:=mF;refine⟨ρ,G,s,lN s p fun d v H1 G1 _ e r p1=>?_⟩;cases d with
 |lst ds =>
  obtain⟨a,vs,rfl,q,rr⟩:=bO.mp r;refine⟨a,rfl,⟨vs,e.gh.seq q⟩,adl (fun i σ H=>∃ρ G,SR X.K B σ H ρ G/\nu X.K G a vs/\bH X.K G ds vs/\fP X.K B W G (jA h gb ((wB 0 ds).drop i) ρ) De) ⟨ρ,G1,s.ext e,q,rr,by simpa using p1⟩ (fun i σ H _ ⟨ρ,G,s,q,_⟩=>s.en.gh.seq q) ?_ ?_⟩
  ·rintro i x T σ2 H2 hx hT ⟨ρ2,G2,s2,q2,r2,p2⟩;obtain⟨d,hd,rd⟩:=r2.get' hx;rw[GX ds i 0 d hd,jn]at p2;have x2:=sO (xs:=[.int (i:Nat),x]) s2.en.gh s2.en.tp hT;refine Bd (s2.ext x2) (bV.mpr ⟨T,_,rfl,.inl (.of aV),aW.mpr ⟨_,_,rfl,bN.mpr rfl,bH.one (rd.mono x2.gg)⟩⟩) (fP.same p2 x2.gg) fun σ' H' ρ' G' s' q' p'=>⟨ρ',G',s',(x2.gg.trans q').seq q2,r2.mono (x2.gg.trans q'),p'⟩
  ·rintro σ2 H2 ⟨ρ2,G2,s2,q2,r2,p2⟩;rw[<- r2.length,<- Kr ds 0,pT]at p2;exact p2 σ2 H2 G2 s2 (.refl _)
 |_=>exact p1.elim
end
end Vl
namespace PySem
namespace Rvd
theorem Zr:Slot "reversed" "__init__" "object.__init__" :=
 .of (owner:="object") (n:="__init__") (by rw[vu,vv];kernel_rfl) (by decide+kernel) (by decide+kernel) (by decide+kernel)
  (by first|exact .inl (by decide+kernel)|exact .inr (by decide+kernel)) (by rw[mw];kernel_rfl)
theorem aod:TypeCalled "reversed" "reversed.__new__" "object.__init__" :=
 ⟨by decide+kernel,by decide+kernel,⟨_,_,F.mro_reversed⟩,F.made_reversed,by decide+kernel,by rw[mw];kernel_rfl,Zr⟩
end Rvd
section
variable{prog:aE}{w:ay}{A:aT}{E:aa->af->Prop}{s:af}
end
end PySem
namespace PySem
open PyProof.Rows (IsTup)
section
variable{prog:aE}{w:ay}{A:aT}{E:aa->af->Prop}{s:af}
end
section
variable{prog:aE}{w:ay}{A:aT}{E:aa->af->Prop}{s:af}
end
end PySem
namespace Vl
open PySem PySem.Spec L2
section
variable{X:Cx}{B:Bs}{W:Wi}{K:ai}
end
end Vl
namespace Vl
open PySem PySem.Spec PySem.Calls PySem.W L2
structure aoe (K:ai)(x:Str)(st:aS)(f:ae)(fd:cz)(ps:List Str):Prop where
 ex:∃(oc:aa) (od:Option ae) (dV kV doc pm:aa) (an:Option ae) (cdv ct:aa) (osl:Array (Option aa)),
  fd=gx x x (iC st) (cM st) (aC st) dV kV doc pm an cdv ct/\K.lookup f=some ⟨oc,od,.func fd,osl⟩/\nz K cdv x=true
 kp:iF K (.ref f)=true
 bi:Binds K fd ps []
end Vl
namespace Vl
open PySem PySem.Spec L2
section
variable{X:Cx}{K:ai}{B:Bs}{W:Wi}{σ:St}{G H:Hp}{ρ:aD}{a b c:ag}{pos:Pos}{fa fb fc:aD->Rs D}
noncomputable def Bq:List D->Option (List Str)
 | []=>some []
 | .str x::ds=>(Bq ds).map (x::·)
 |_::_=>none
theorem RB:∀{ds:List D}{vs:List V}{ts:List Str},bH K G ds vs->Bq ds=some ts->vs=ts.map V.str
 | [],vs,ts,r,e=>by cases e;exact bI.mp r
 |d::ds,vs,ts,r,e=>by
  obtain⟨v,vs',rfl,r1,r2⟩:=aW.mp r;cases d with
  |str x =>
   simp only[Bq]at e;cases q:Bq ds with
   |none=>rw[q]at e;cases e
   |some us =>
    rw[q]at e;cases e;rw[pq.mp r1,RB r2 q];rfl
  |_=>cases e
noncomputable def ahr(K:ai):V->List V->Hp->VK->Prop:=fun x xs H Q=>∃sep a ts,x=.str sep/\xs=[.ref a]/\nu K H a (ts.map V.str)/\k8 sep ts=true/\Q (.str (rV sep ts)) H
theorem Ks:∀{ts:List Str}{its:List aa},Vals (ts.map V.str) its->∃l:List (Str×Tok),its=PySem.strValues l/\l.map (·.1)=ts
 | [],its,h=>by cases h;exact⟨[],rfl,rfl⟩
 |t::ts,its,h=>by
  cases h with
  |cons r rr =>
   obtain⟨u,rfl⟩:=r;obtain⟨l,rfl,e⟩:=Ks rr;exact⟨(t,u)::l,rfl,by simp[e]⟩
theorem afT:MtR X "str.join" (ahr X.K):=by
 intro pins s σ H x xs v us Q I rx r h;obtain⟨sep,a,ts,rfl,rfl,hq,hok,q⟩:=h;obtain⟨t,rfl⟩:=rx;obtain⟨u,rfl,ru⟩:=r.one;cases ru;obtain⟨its,rv,p,hz⟩:=I.list hq;obtain⟨l,rfl,e⟩:=Ks rv;exact SC.join p.isList e hok fun t' k=>⟨.str _,H,I.tok k,⟨t',rfl⟩,q⟩
noncomputable def DK(sep:Str):D->Rs D
 | .lst ds=>(match Bq ds with|some ts=>if k8 sep ts=true then .ok (.str (rV sep ts)) else .no|none=>.no)
 |_=>.no
theorem Xu{sep:Str}{e:ag}{j:Nat}{p1 apos cpos:Pos}{fe:aD->Rs D}(he:SE X B W e fe)
  (hbase:iX (.Constant (.str sep) j p1) "join" X.env (a7 (.Constant (.str sep) j p1) X.env)=a7 (.Constant (.str sep) j p1) X.env:=by rfl)
  (hfew:((cE cpos (a8 [e] X.env)).all (fun x=>!x.1) && (gy cpos (gz [] X.env)).all (fun x=>x.1.isSome)
   && decide ([e].length + ([]:List hV).length + (if ([]:List hV).isEmpty then 0 else 1) < 30))=true:=by rfl)
  (hline:(apos.endLine == cpos.line)=true:=by rfl) (hs:a8 [e] X.env=[(false,a7 e X.env)]:=by rfl) :
  SE X B W (.Call (.Attribute (.Constant (.str sep) j p1) "join" apos) [e] [] cpos) (fB fe (DK sep)):=by
 refine PE.imp (t:=tBM X.K "str" (ahr X.K) (tC (.str sep)) (Qj (tF X.K B W fe) abn)) (Qo (T:="str") (id:="str.join") PySem.F.plainAttrs_str PySem.F.slot_str_join PySem.F.type_str_join afT aaX (eZ he kZ hs) hbase hfew hline hs rfl) fun σ H Q h=>?_;show tyV X.K "str" (.str sep) H/\_;refine⟨rfl,?_⟩;obtain⟨ρ,G,s,p⟩:=sS (k:=fun _=>DK sep) h;refine⟨ρ,G,s,p.mono fun v H1 ⟨ρ1,G1,d,s1,r,q⟩=>?_⟩;cases d with
 |lst ds =>
  simp only[DK]at q;cases e1:Bq ds with
  |none=>rw[e1]at q;exact q.elim
  |some ts =>
   rw[e1]at q;dsimp only at q;by_cases hok:k8 sep ts=true
   ·rw[if_pos hok]at q;obtain⟨a,vs,rfl,q1,rr⟩:=bO.mp r;have ev:=RB rr e1;subst ev;exact⟨sep,a,ts,rfl,rfl,s1.en.gh.seq q1,hok,Post.ok s1 q (pq.mpr rfl)⟩
   ·rw[if_neg hok]at q;exact q.elim
 |_=>exact q.elim
end
noncomputable def fL2(fs:aD->Rs (List D))(g:List D->Rs (List D)):aD->Rs (List D):=fun ρ=>(fs ρ).bind g
section
variable{X:Cx}{B:Bs}{W:Wi}
end
end Vl
namespace Dk
open PySem PySem.Spec
section
variable{prog:aE}{w:ay}{A:aT}{E:aa->af->Prop}{s:af}{d it:ae}{es:Array nc}{ep:Nat}
noncomputable abbrev mz:Obj:=Tb.mz
end
end Dk
namespace Vl
open PySem PySem.Spec L2 So Tb
section
variable{X:Cx}{B:Bs}{W:Wi}{K:ai}
end
end Vl
namespace Zp
open PySem PySem.Spec
section
variable{prog:aE}{w:ay}{A:aT}{E:aa->af->Prop}{s:af}
theorem Vp{it t:ae}{i:Nat}{items:Array aa}{x:aa}{Q:aa->af->Prop}(hit:s.heap.IsTupleIter it t i)(ht:s.heap.IsTuple t items)(hx:items[i]?=some x)
  (hQ:∀h',h'.IsTupleIter it t (i + 1)->dP it s.heap h'->Q x { s with heap:=h' }):az (ar prog w) A (k9 (.ref it)) Q E s:=by
 obtain⟨o,ho,hc,hd⟩:=id hit;obtain⟨ot,hot,_,nt,hdt⟩:=ht;unfold k9;refine ah (my (name:=f6 "__next__") hit.typeIs rX (jb rX hit.typeIs F.entry_tuple_iterator_next ?_ (F.args_tuple_iterator_next_1 _)));refine ah (m:=field (.ref it) 0) (eM ho hd (x:=.ref t) rfl ?_);show az _ _ (if (aa.ref t == aa.none)=true then _ else _) _ _ s;rw[if_neg (by intro z;cases z)];refine ah (m:=field (.ref it) 1) (eM ho hd (x:=.int i 0) rfl ?_);refine ah (m:=oj (.ref t)) (gS hot hdt ?_);simp only[kQ,hx];refine ah (j_ ho hd (by simp) (a9 ⟨x,rfl,a9 (hQ _ ?_ (ml ..))⟩));exact⟨_,hZ _ ho (nE (kN hd _)),(Obj.cls_mapFields ..).trans hc,by rw[kN hd];simp[cy]⟩
theorem Zt{it t:ae}{i:Nat}{items:Array aa}{Q:aa->af->Prop}(hh:A.handled=none)(hit:s.heap.IsTupleIter it t i)(ht:s.heap.IsTuple t items)(hx:items[i]?=none)
  (hE:∀h' e,aw.ExtBut it s.heap h'->(∃o,h'.get? e=some o/\o.cls=.type "StopIteration")->E (.ref e) { s with heap:=h' }):az (ar prog w) A (k9 (.ref it)) Q E s:=by
 obtain⟨o,ho,hc,hd⟩:=id hit;obtain⟨ot,hot,_,nt,hdt⟩:=ht;unfold k9;refine ah (my (name:=f6 "__next__") hit.typeIs rX (jb rX hit.typeIs F.entry_tuple_iterator_next ?_ (F.args_tuple_iterator_next_1 _)));refine ah (m:=field (.ref it) 0) (eM ho hd (x:=.ref t) rfl ?_);show az _ _ (if (aa.ref t == aa.none)=true then _ else _) _ _ s;rw[if_neg (by intro z;cases z)];refine ah (m:=field (.ref it) 1) (eM ho hd (x:=.int i 0) rfl ?_);refine ah (m:=oj (.ref t)) (gS hot hdt ?_);simp only[kQ,hx];refine ah (ij (ah (j_ ho hd (by simp) ?_)));show az _ _ (newExc (.type "StopIteration") [] >>= _) _ _ _;refine ah ?_;simp only[newExc,newTuple];refine ah (i8 ?_ (by size_fits));refine ah (m:=qB _ _) (qA (a:=aa.none) (by first|rfl|(simp only[qB];rfl)) ?_);refine i8 ?_ (by size_fits);simp only[raiseNew];refine ah (wpAny_handled ?_)
 first|rw[show A.in1.handled=none from hh]|rw[hh]
 refine ah (a9 (uv ?_));exact hE _ _ (((ml ..).extBut.push _).push _) ⟨_,cK _ rfl,rfl⟩
end
theorem Mx{prog:aE}{w:ay}{A:aT}(hh:A.handled=none)(it t:ae)(hne:t≠it)(items:Array aa) :
  mN prog w A it [it,t] items.size (fun i v=>items[i]?=some v) (fun i h=>h.IsTupleIter it t i/\h.IsTuple t items) where
 live:=fun _ _ st=>let ⟨o,ho,_⟩:=st.1;⟨o,ho⟩
 frame:=fun _ _ _ st hk=>⟨let ⟨o,ho,r⟩:=st.1;⟨o,hk it (by simp) o ho,r⟩,let ⟨o,ho,r⟩:=st.2;⟨o,hk t (by simp) o ho,r⟩⟩
 item:=fun i s Q E hi st hQ=>Vp st.1 st.2 (x:=items[i]) (by simp[hi]) fun h' hit' hs'=>hQ _ h' s.toks (by simp[hi]) ⟨hit',let ⟨o,ho,r⟩:=st.2;⟨o,(hs'.2 t hne).trans ho,r⟩⟩ hs'
 done:=fun s Q E st hE=>Zt hh st.1 st.2 (by simp) hE
structure Ap (z TI TO i1 i2:ae)(f1 f2:List ae):Prop where
 zTI:TI≠z
 zTO:TO≠z
 TT:TI≠TO
 z1:z∉f1
 z2:z∉f2
 o1:TO∉f1
 o2:TO∉f2
 t1:TI∉f1
 t2:TI∉f2
 m1:i1∈f1
 m2:i2∈f2
 c1:i2∉f1
 c2:i1∉f2
section
variable{prog:aE}{w:ay}{A:aT}{E:aa->af->Prop}{s:af}{z TI TO i1 i2:ae}{f1 f2:List ae}{n1 n2 k:Nat}{P1 P2:Nat->aa->Prop}{S1 S2:Nat->aw->Prop}{a b:aa}
theorem CN{Q:aa->af->Prop}(D1:mN prog w A i1 f1 n1 P1 S1)(D2:mN prog w A i2 f2 n2 P2 S2)(p:Ap z TI TO i1 i2 f1 f2)(hz:fq s.heap z TI TO .none)(hTI:d_ s.heap TI (.ref i1) (.ref i2))(hTO:d_ s.heap TO a b)(h1:S1 k s.heap)(h2:S2 k s.heap)(l1:k < n1)(l2:k < n2)
  (hQ:∀x y h' tk,P1 k x->P2 k y->fq h' z TI TO (cy s.heap.objs.size)->d_ h' TO x y->S1 (k + 1) h'->S2 (k + 1) h'->d_ h' s.heap.objs.size x y->h'.objs.size=s.heap.objs.size + 1 ->
   (∀c o,c∉[z,TO,i1,i2]->s.heap.get? c=some o->h'.get? c=some o)->Q (.ref s.heap.objs.size) { s with heap:=h',toks:=tk }) :
  az (ar prog w) A (Builtin.«zip.__next__» ⟨[.ref z],[]⟩) (fun jk s'=>∃v,jk=.done (.ret v)/\Q v s') E s:=by
 have ne1:i1≠z:=fun e=>p.z1 (e▸p.m1);have ne2:i2≠z:=fun e=>p.z2 (e▸p.m2);have no1:i1≠TO:=fun e=>p.o1 (e▸p.m1);have no2:i2≠TO:=fun e=>p.o2 (e▸p.m2);have n12:i1≠i2:=fun e=>p.c2 (e▸p.m2);refine ah (m:=field (.ref z) 2) (eM hz rfl (x:=.bool false) rfl ?_);refine ah (m:=field (.ref z) 3) (eM hz rfl (x:=.ref TI) rfl (ah (gS hTI rfl ?_)));refine ah (m:=r8 (.ref z)) ?_;unfold r8;refine ah (eM hz rfl (x:=.none) rfl (a9 ?_));simp only[if_true];refine ah (ij (ah (eM hz rfl (x:=.ref TO) rfl (ah (om hz (by simp) fun g1 z1 e1=>?_)))))
 replace z1:fq g1 z TI TO .ellipsis:=z1
 refine ah ?_;simp only[vF,List.zipIdx_nil,ue,uk];have a1:S1 k g1:=D1.frame _ _ _ h1 fun b hb o q=>e1.extBut b o (fun e=>p.z1 (e▸hb)) q;have b1:S2 k g1:=D2.frame _ _ _ h2 fun b hb o q=>e1.extBut b o (fun e=>p.z2 (e▸hb)) q;refine ah (ah (v_ ?_));refine ah (m:=k9 (.ref i1)) (D1.item k _ _ _ l1 a1 fun x g2 tk2 px a2 e2=>a9 ?_)
 replace e2:dP i1 g1 g2:=e2
 have t2:d_ g2 TO a b:=e2.extBut _ _ (br no1) (e1.extBut _ _ p.zTO hTO);refine ah (gS (s:={ s with heap:=g2,toks:=tk2 }) t2 rfl (ah (wpAny_updateSeq_pair (s:={ s with heap:=g2,toks:=tk2 }) t2 fun g3 t3 e3=>?_)))
 replace t3:d_ g3 TO x b:=t3
 replace e3:dP TO g2 g3:=e3
 refine ah (mP (a9 ?_));have b3:S2 k g3:=D2.frame _ _ _ b1 fun b hb o q=>e3.extBut b o (fun e=>p.o2 (e▸hb)) (e2.extBut b o (fun e=>p.c2 (e▸hb)) q);refine ah (ah (v_ ?_));refine ah (m:=k9 (.ref i2)) (D2.item k _ _ _ l2 b3 fun y g4 tk4 py b4 e4=>a9 ?_)
 replace e4:dP i2 g3 g4:=e4
 have t4:d_ g4 TO x b:=e4.extBut _ _ (br no2) t3;refine ah (gS (s:={ s with heap:=g4,toks:=tk4 }) t4 rfl (ah (wpAny_updateSeq_pair (s:={ s with heap:=g4,toks:=tk4 }) t4 fun g5 t5 e5=>?_)))
 replace t5:d_ g5 TO x y:=t5
 replace e5:dP TO g4 g5:=e5
 refine ah (mP (a9 (a9 ?_)));refine ah (gS (s:={ s with heap:=g5,toks:=tk4 }) t5 rfl (ah (wpAny_newTuple ?_)));have sz:g5.objs.size=s.heap.objs.size:=by rw[e5.1,e4.1,e3.1,e2.1,e1.1]
 have z5:fq g5 z TI TO .ellipsis:=e5.extBut _ _ (br p.zTO) (e4.extBut _ _ (br ne2) (e3.extBut _ _ (br p.zTO) (e2.extBut _ _ (br ne1) z1)));have kp:∀c o,c∉[z,TO,i1,i2]->s.heap.get? c=some o->g5.get? c=some o:=fun c o hc q=>by simp only[bq,dm,or_false,not_or]at hc;exact e5.extBut _ _ hc.2.1 (e4.extBut _ _ hc.2.2.2 (e3.extBut _ _ hc.2.1 (e2.extBut _ _ hc.2.2.1 (e1.extBut _ _ hc.1 q))))
 have a5:S1 (k + 1) g5:=D1.frame _ _ _ a2 fun b hb o q=>e5.extBut b o (fun e=>p.o1 (e▸hb)) (e4.extBut b o (fun e=>p.c1 (e▸hb)) (e3.extBut b o (fun e=>p.o1 (e▸hb)) q));have b5:S2 (k + 1) g5:=D2.frame _ _ _ b4 fun b hb o q=>e5.extBut b o (fun e=>p.o2 (e▸hb)) q;have lz:z < g5.objs.size:=bE z5;refine ah (m:=cS.SmallTypes.ownedTupleHandOut (.ref z) (.ref g5.objs.size)) ?_;unfold cS.SmallTypes.ownedTupleHandOut;have z6:fq (g5.push { cls:=.type "tuple",data:=.seq #[x,y] }) z TI TO .ellipsis:=cm _ z5;refine ah (om (s:={ s with heap:=g5.push { cls:=.type "tuple",data:=.seq #[x,y] },toks:=tk4 }) z6 (by simp) fun g7 z7 e7=>?_)
 replace z7:fq g7 z TI TO (cy g5.objs.size):=z7
 refine om (s:={ s with heap:=g7,toks:=tk4 }) z7 (by simp) fun g8 z8 e8=>?_
 replace z8:fq g8 z TI TO (cy g5.objs.size):=z8
 have up:∀c o,c≠z->g5.get? c=some o->g8.get? c=some o:=fun c o hc q=>e8.extBut _ _ hc (e7.extBut _ _ hc (cm _ q));have t8:d_ g8 g5.objs.size x y:=e8.extBut _ _ (kC lz) (e7.extBut _ _ (kC lz) (cK _ rfl));have s8:g8.objs.size=g5.objs.size + 1:=by rw[e8.1,e7.1,gr]
 rw[sz]at z8 t8 s8;refine a9 ⟨_,rfl,?_⟩;show Q (.ref g5.objs.size) _;rw[sz];exact hQ x y g8 tk4 px py z8 (up _ _ p.zTO t5) (D1.frame _ _ _ a5 fun b hb o q=>up b o (fun e=>p.z1 (e▸hb)) q) (D2.frame _ _ _ b5 fun b hb o q=>up b o (fun e=>p.z2 (e▸hb)) q) t8 s8 fun c o hc q=>up c o (fun e=>hc (by simp[e])) (kp c o hc q)
theorem adn{Q:qS->af->Prop}(D1:mN prog w A i1 f1 n1 P1 S1)(p:Ap z TI TO i1 i2 f1 f2)(hz:fq s.heap z TI TO .none)(hTI:d_ s.heap TI (.ref i1) (.ref i2))(hTO:d_ s.heap TO a b)(h1:S1 n1 s.heap)
  (hE:∀h' e,(∀c o,c∉[z,TO,i1,i2]->s.heap.get? c=some o->h'.get? c=some o)->(∃o,h'.get? e=some o/\o.cls=.type "StopIteration")->E (.ref e) { s with heap:=h' }) :
  az (ar prog w) A (Builtin.«zip.__next__» ⟨[.ref z],[]⟩) Q E s:=by
 have ne1:i1≠z:=fun e=>p.z1 (e▸p.m1);refine ah (m:=field (.ref z) 2) (eM hz rfl (x:=.bool false) rfl ?_);refine ah (m:=field (.ref z) 3) (eM hz rfl (x:=.ref TI) rfl (ah (gS hTI rfl ?_)));refine ah (m:=r8 (.ref z)) ?_;unfold r8;refine ah (eM hz rfl (x:=.none) rfl (a9 ?_));simp only[if_true];refine ah (ij (ah (eM hz rfl (x:=.ref TO) rfl (ah (om hz (by simp) fun g1 z1 e1=>?_)))))
 replace z1:fq g1 z TI TO .ellipsis:=z1
 refine ah ?_;simp only[vF,List.zipIdx_nil,ue,uk];have a1:S1 n1 g1:=D1.frame _ _ _ h1 fun b hb o q=>e1.extBut b o (fun e=>p.z1 (e▸hb)) q;refine ah (ah (v_ ?_));refine ah (m:=k9 (.ref i1)) (D1.done _ _ _ a1 fun g2 e e2 he=>?_);obtain⟨oe,q1,q2⟩:=he;have z2:fq g2 z TI TO .ellipsis:=e2 _ _ (br ne1) z1;have ez:e≠z:=fun x=>by subst x;rw[z2]at q1;cases q1;simp at q2
 refine om (s:={ s with heap:=g2 }) z2 (by simp) fun g3 _ e3=>hE g3 e (fun c o hc q=>?_) ⟨oe,e3.extBut _ _ ez q1,q2⟩;simp only[bq,dm,or_false,not_or]at hc;exact e3.extBut _ _ hc.1 (e2 _ _ hc.2.2.1 (e1.extBut _ _ hc.1 q))
end
theorem walks{prog:aE}{w:ay}{A:aT}{z TI TO i1 i2:ae}{f1 f2:List ae}{n:Nat}{P1 P2:Nat->aa->Prop}{S1 S2:Nat->aw->Prop}(D1:mN prog w A.in1 i1 f1 n P1 S1)(D2:mN prog w A.in1 i2 f2 n P2 S2)(p:Ap z TI TO i1 i2 f1 f2) :
    WalksT prog w A z (z::TI::TO::(f1++f2)) [z,TO,i1,i2] n
      (fun i vals=>∃x y,P1 i x/\P2 i y/\vals=#[x,y])
      (fun i h=>fq h z TI TO .none/\d_ h TI (.ref i1) (.ref i2)/\(∃a b,d_ h TO a b)/\S1 i h/\S2 i h)
      (fun i T h=>fq h z TI TO (cy T)/\d_ h TI (.ref i1) (.ref i2)/\(∃a b,d_ h TO a b)/\S1 (i + 1) h/\S2 (i + 1) h/\T∉[z,TO,i1,i2]) where
  sub:=fun b hb=>by
    simp only[bq,dm,or_false,dA]at hb ⊢;rcases hb with rfl|rfl|rfl|rfl
    . exact .inl rfl
    . exact .inr (.inr (.inl rfl))
    . exact .inr (.inr (.inr (.inl p.m1)))
    . exact .inr (.inr (.inr (.inr p.m2)))
  frame:=fun i h h' st hk=>by obtain⟨q1,q2,⟨a,b,q3⟩,q4,q5⟩:=st;exact⟨hk z (by simp) _ q1,hk TI (by simp) _ q2,⟨a,b,hk TO (by simp) _ q3⟩,D1.frame _ _ _ q4 fun b hb o q=>hk b (by simp[hb]) o q,D2.frame _ _ _ q5 fun b hb o q=>hk b (by simp[hb]) o q⟩
  item:=fun i s Q E hi st hQ=>by
    obtain⟨q1,q2,⟨a,b,q3⟩,q4,q5⟩:=st;have hT:s.TypeIs (.ref z) "zip":=⟨_,q1,rfl⟩
    have TIw:TI∉[z,TO,i1,i2]:=by simp only[bq,dm,or_false,not_or];exact⟨p.zTI,p.TT,fun e=>p.t1 (e▸p.m1),fun e=>p.t2 (e▸p.m2)⟩
    unfold fy;refine ah (n6 (my (name:=f6 "__next__") hT r_ (jb r_ hT F.entry_zip_next (CN D1 D2 p q1 q2 q3 q4 q5 hi hi fun x y h' tk px py r1 r2 r3 r4 r5 r6 r7=>a9 ?_) (F.args_zip_next_1 _))));have fr:∀{c:ae}{o:Obj},s.heap.get? c=some o->s.heap.objs.size≠c:=fun e=>kC (bE e);refine hQ s.heap.objs.size #[x,y] h' tk ⟨x,y,px,py,rfl⟩ (bj _) ⟨_,r5,rfl,_,rfl⟩ ⟨r1,r7 TI _ TIw q2,⟨_,_,r2⟩,r3,r4,?_⟩ r7;simp only[bq,dm,or_false,not_or];obtain⟨o1,l1⟩:=D1.live _ _ q4;obtain⟨o2,l2⟩:=D2.live _ _ q5;exact⟨fr q1,fr q3,fr l1,fr l2⟩
  go:=fun elts k pos i T s Q E hm hQ=>by obtain⟨q1,q2,⟨a,b,q3⟩,q4,q5,_⟩:=hm;refine wpAny_letOwnedTupleGo_zip q1 fun h' z' e'=>hQ h' ⟨z',e'.extBut _ _ p.zTI q2,⟨a,b,e'.extBut _ _ p.zTO q3⟩,D1.frame _ _ _ q4 fun b hb o q=>e'.extBut b o (fun e=>p.z1 (e▸hb)) q,D2.frame _ _ _ q5 fun b hb o q=>e'.extBut b o (fun e=>p.z2 (e▸hb)) q⟩ fun c o hc q=>e'.extBut _ _ (fun e=>hc (by simp[e])) q
  apart:=fun i T h hm=>hm.2.2.2.2.2
  done := fun s Q E st hQ => by
    obtain⟨q1,q2,⟨a,b,q3⟩,q4,q5⟩:=st;have hT:s.TypeIs (.ref z) "zip":=⟨_,q1,rfl⟩
    unfold fy;refine ah (n6 (my (name:=f6 "__next__") hT r_ (jb r_ hT F.entry_zip_next (adn D1 p q1 q2 q3 q4 fun h' e kk he=>?_) (F.args_zip_next_1 _))));obtain⟨o,ho,hc⟩:=he;refine ah (vy (T:="StopIteration") (b:=true) ⟨o,ho,hc⟩ isSubtype_stop ?_);exact a9 (hQ h' s.toks kk)
  self:=fun i s Q E st hQ=>oo st.1 hQ
noncomputable abbrev tit(t:ae):Obj:={ cls:=.type "tuple_iterator",data:=.fields #[.ref t,.int 0 0] }
noncomputable abbrev duo(x y:aa):Obj:={ cls:=.type "tuple",data:=.seq #[x,y] }
noncomputable abbrev h1(h:aw)(a:ae):aw:=h.push (tit a)
noncomputable abbrev h2(h:aw)(a b:ae):aw:=(h1 h a).push (tit b)
noncomputable abbrev h3(h:aw)(a b:ae):aw:=(h2 h a b).push (duo (.ref h.objs.size) (.ref (h1 h a).objs.size))
noncomputable abbrev h4(h:aw)(a b:ae):aw:=(h3 h a b).push (duo .none .none)
noncomputable abbrev h5(h:aw)(a b:ae):aw:=(h4 h a b).push { cls:=.type "zip",data:=.fields #[.none,.bool false,.bool false,.ref (h2 h a b).objs.size,.ref (h3 h a b).objs.size] }
theorem Zu(a b:ae)(xs ys:Array aa) :
  Meets (Builtin.«zip.__new__» ⟨[.type "zip",.ref a,.ref b],[]⟩) (fun _ R s=>s.heap.IsTuple a xs/\s.heap.IsTuple b ys/\R (.ok (.ret (.ref (h4 s.heap a b).objs.size))) { s with heap:=h5 s.heap a b }) :=
 .of_wp fun prog w A R s h=>by
  obtain⟨hp,g,d,tk,os⟩:=s;obtain⟨ha,hb,h⟩:=h;have hsub:=sub_zip;have A1:aw.IsTuple (af.heap ⟨hp,g,d,tk,os⟩) a xs:=ha;have B1:aw.IsTuple (af.heap ⟨hp.push { cls:=.type "tuple_iterator",data:=.fields #[.ref a,.int 0 0] },g,d,tk,os⟩) b ys:=let ⟨o,e,r⟩:=hb;⟨o,cm _ e,r⟩
  wp_walk using o6 A1,o6 B1
  exact⟨_,rfl,h⟩
section
variable{prog:aE}{w:ay}{A:aT}{E:aa->af->Prop}{s:af}
theorem Zv{a b:ae}{xs ys:Array aa}{Q:aa->af->Prop}(ha:s.heap.IsTuple a xs)(hb:s.heap.IsTuple b ys)
  (h:∀h',fq h' (s.heap.objs.size + 4) (s.heap.objs.size + 2) (s.heap.objs.size + 3) .none->d_ h' (s.heap.objs.size + 2) (.ref s.heap.objs.size) (.ref (s.heap.objs.size + 1))->d_ h' (s.heap.objs.size + 3) .none .none ->
   h'.IsTupleIter s.heap.objs.size a 0->h'.IsTupleIter (s.heap.objs.size + 1) b 0->(∀c o,s.heap.get? c=some o->h'.get? c=some o)->Q (.ref (s.heap.objs.size + 4)) { s with heap:=h' }) :
  az (ar prog w) A (call (.type "zip") [.ref a,.ref b]) Q E s:=by
 refine callType_new F.called_zip (by decide) (F.typeCall_zip_2 _ _) (F.newCall_zip_2 _ _) (fun obj=>F.args_object_init_3 obj _ _) F.entry_zip_new (Zu a b xs ys) ⟨ha,hb,?_⟩;have z1:(h1 s.heap a).objs.size=s.heap.objs.size + 1:=gr ..;have z2:(h2 s.heap a b).objs.size=s.heap.objs.size + 2:=by show((h1 s.heap a).push _).objs.size=_;rw[gr,z1]
 have z3:(h3 s.heap a b).objs.size=s.heap.objs.size + 3:=by show((h2 s.heap a b).push _).objs.size=_;rw[gr,z2]
 have z4:(h4 s.heap a b).objs.size=s.heap.objs.size + 4:=by show((h3 s.heap a b).push _).objs.size=_;rw[gr,z3]
 have k5:∀c o,(h4 s.heap a b).get? c=some o->(h5 s.heap a b).get? c=some o:=fun c o e=>cm _ e;have k4:∀c o,(h3 s.heap a b).get? c=some o->(h5 s.heap a b).get? c=some o:=fun c o e=>k5 c o (cm _ e);have k3:∀c o,(h2 s.heap a b).get? c=some o->(h5 s.heap a b).get? c=some o:=fun c o e=>k4 c o (cm _ e);have k2:∀c o,(h1 s.heap a).get? c=some o->(h5 s.heap a b).get? c=some o:=fun c o e=>k3 c o (cm _ e);have g5:(h5 s.heap a b).get? (s.heap.objs.size + 4)=some { cls:=.type "zip",data:=.fields #[.none,.bool false,.bool false,.ref (h2 s.heap a b).objs.size,.ref (h3 s.heap a b).objs.size] }:=by rw[<- z4];exact cK _ rfl
 have g4:(h5 s.heap a b).get? (s.heap.objs.size + 3)=some (duo .none .none):=by rw[<- z3];exact k5 _ _ (cK _ rfl)
 have g3:(h5 s.heap a b).get? (s.heap.objs.size + 2)=some (duo (.ref s.heap.objs.size) (.ref (h1 s.heap a).objs.size)):=by rw[<- z2];exact k4 _ _ (cK _ rfl)
 have g2:(h5 s.heap a b).get? (s.heap.objs.size + 1)=some (tit b):=by rw[<- z1];exact k3 _ _ (cK _ rfl)
 have g1:(h5 s.heap a b).get? s.heap.objs.size=some (tit a):=k2 _ _ (cK _ rfl);rw[z2,z3]at g5;rw[z1]at g3;show _/\_;rw[z4];exact⟨⟨_,g5,rfl⟩,h _ g5 g3 g4 ⟨_,g1,rfl,rfl⟩ ⟨_,g2,rfl,rfl⟩ fun c o e=>k2 c o (cm _ e)⟩
end
end Zp
namespace L2
open PySem PySem.Spec PyProof.Rows
theorem Mz{X:Cx}{pins:List (ae×Obj)}{σ:St}{H:Hp}{s:af}{a b:ae}{xs:List V}(I:Inv X pins σ H s)(hf:tQ X pins H b)(hq:qF X.K H a xs):a≠b:=fun e=>by
 subst e;rcases hq with (q|⟨o,q⟩)|⟨o,its,n,q,_⟩
 ·rw[hf.1]at q;cases q
 ·rw[hf.1]at q;cases q
 ·have hb:=I.mod.Yp a o q;rcases hf.2.2.2.1 with z|z
  ·exact I.ok.Qe a o hb z
  ·exact absurd (dn (bE (I.ok.bs a o hb).1) z) (eJ _)
noncomputable def Itz(K:ai)(a b:ae)(n:Nat):It :=
  ⟨fun i H=>i < n/\∃xs ys,qF K H a xs/\qF K H b ys/\xs.length=n/\ys.length=n,
   fun i H v H'=>∃T x y,H T=none/\v=.ref T/\H'=upd H T (.tup [x,y])/\(∀xs,qF K H a xs->xs[i]?=some x)/\∀ys,qF K H b ys->ys[i]?=some y,
   fun i H=>n<=i/\∃xs ys,qF K H a xs/\qF K H b ys/\xs.length=n/\ys.length=n⟩
theorem ado{P:aE}{w:ay}{K:ai}{elts:List ag}{kx:Nat}{tp:Pos}(a b z TI TO i1 i2:ae)(n:Nat)(d1:TI≠z)(d2:TO≠z)(d3:TI≠TO)(d4:z≠i1)(d5:z≠i2)(d6:TO≠i1)(d7:TO≠i2)(d8:TI≠i1)(d9:TI≠i2)(d0:i1≠i2) :
    Turn P w K (.Tuple elts kx tp) (Itz K a b n) [z,TI,TO,i1,i2] z (fun i h=>i<=n/\fq h z TI TO .none/\d_ h TI (.ref i1) (.ref i2)/\(∃x y,d_ h TO x y)/\h.IsTupleIter i1 a i/\h.IsTupleIter i2 b i) where
  mem:=by simp
  obj:=fun i h st c hc=>by
    obtain⟨_,q1,q2,⟨x,y,q3⟩,⟨o4,q4,_,e4⟩,⟨o5,q5,_,e5⟩⟩:=st;simp only[bq,dm,or_false]at hc;rcases hc with rfl|rfl|rfl|rfl|rfl
    . exact⟨_,q1,fun v q=>by have q':Data.fields _=Data.cell v:=q;cases q'⟩
    . exact⟨_,q2,fun v q=>by have q':Data.seq _ _=Data.cell v:=q;cases q'⟩
    . exact⟨_,q3,fun v q=>by have q':Data.seq _ _=Data.cell v:=q;cases q'⟩
    . exact⟨o4,q4,fun v q=>by rw[e4]at q;cases q⟩
    . exact⟨o5,q5,fun v q=>by rw[e5]at q;cases q⟩
  keep:=fun i h h' st k=>by obtain⟨q0,q1,q2,⟨x,y,q3⟩,⟨o4,q4,r4⟩,⟨o5,q5,r5⟩⟩:=st;exact⟨q0,k z (by simp) _ q1,k TI (by simp) _ q2,⟨x,y,k TO (by simp) _ q3⟩,⟨o4,k i1 (by simp) _ q4,r4⟩,⟨o5,k i2 (by simp) _ q5,r5⟩⟩
  item:=by
    intro X hP hw hK hc i pins s σ H E I hf st hg;subst hP hw hK;obtain⟨hlt,xs,ys,qa,qb,lx,ly⟩:=hg;obtain⟨q0,q1,q2,q3,q4,q5⟩:=id st;obtain⟨ia,va,pa,_⟩:=I.tuple qa;obtain⟨ib,vb,pb,_⟩:=I.tuple qb;have sa:ia.toArray.size=n:=by rw[cv,<- va.length,lx]
    have sb:ib.toArray.size=n:=by rw[cv,<- vb.length,ly]
    have na:∀c∈[z,TI,TO,i1,i2],a≠c:=fun c hc'=>Mz I (hf c hc') qa;have nb:∀c∈[z,TI,TO,i1,i2],b≠c:=fun c hc'=>Mz I (hf c hc') qb;have D1:=Zp.Mx (prog:=X.prog) (w:=X.w) (A:=X.A.in1) (by simpa using I.ok.hd hc) i1 a (na _ (by simp)) ia.toArray;have D2:=Zp.Mx (prog:=X.prog) (w:=X.w) (A:=X.A.in1) (by simpa using I.ok.hd hc) i2 b (nb _ (by simp)) ib.toArray;rw[sa]at D1;rw[sb]at D2;have ap:Zp.Ap z TI TO i1 i2 [i1,a] [i2,b]:=by
      refine⟨d1,d2,d3,?_,?_,?_,?_,?_,?_,by simp,by simp,?_,?_⟩ <;> simp only[bq,dm,or_false,not_or]
      . exact⟨d4,br (na _ (by simp))⟩
      . exact⟨d5,br (nb _ (by simp))⟩
      . exact⟨d6,br (na _ (by simp))⟩
      . exact⟨d7,br (nb _ (by simp))⟩
      . exact⟨d8,br (na _ (by simp))⟩
      . exact⟨d9,br (nb _ (by simp))⟩
      . exact⟨br d0,br (na _ (by simp))⟩
      . exact⟨d0,br (nb _ (by simp))⟩
    have W:=Zp.walks (A:=X.A) D1 D2 ap;refine W.item i s _ _ hlt ⟨q1,q2,q3,⟨q4,pa⟩,q5,pb⟩ fun T vals g1 tk hv hT tup mid kk=>?_;obtain⟨x',y',hx,hy,rfl⟩:=hv;have sub:∀c∈[z,TO,i1,i2],tQ X pins H c:=fun c hc'=>hf c (by simp only[bq,dm,or_false]at hc' ⊢;rcases hc' with h|h|h|h <;> simp[h]);have lxi:i < xs.length:=by lia
    have lyi:i < ys.length:=by lia
    obtain⟨u,hu,ru⟩:=va.get (di lxi);obtain⟨v,hv2,rv⟩:=vb.get (di lyi);have ex:x'=u:=by
      have:ia[i]?=some x':=by simpa using hx
      rw[hu]at this;exact(dk this).symm
    have ey:y'=v:=by
      have:ib[i]?=some y':=by simpa using hy
      rw[hv2]at this;exact(dk this).symm
    subst ex ey;refine⟨.ref T,rfl,W.go elts kx tp i T _ _ _ mid fun g2 st2 kk2=>?_⟩;have tw:T∉[z,TO,i1,i2]:=W.apart _ _ _ mid;have I2:Inv X pins σ (upd H T (.tup [xs[i],ys[i]])) { s with heap:=g2,toks:=tk }:=by refine I.GR (ch:=[z,TO,i1,i2]) (fun c o hc' q=>kk2 c o hc' (kk c o hc' q)) sub hT ?_;obtain⟨o,ho,hoc,m,hod⟩:=tup;exact⟨by show 2<=sizeLine;decide,[x',y'],.cons ru (.cons rv .nil),o,kk2 T o tw ho,hoc,m,hod⟩
    have nT:∀c∈[z,TI,TO,i1,i2],c≠T:=fun c hc' e=>by
      subst e;obtain⟨o,ho,_⟩:∃o,s.heap.get? c=some o/\True:=by
        obtain⟨x,y,q3'⟩:=q3;obtain⟨o4,q4',_⟩:=q4;obtain⟨o5,q5',_⟩:=q5;simp only[bq,dm,or_false]at hc';rcases hc' with rfl|rfl|rfl|rfl|rfl
        . exact⟨_,q1,trivial⟩
        . exact⟨_,q2,trivial⟩
        . exact⟨_,q3',trivial⟩
        . exact⟨_,q4',trivial⟩
        . exact⟨_,q5',trivial⟩
      exact absurd (dn (bE ho) hT) (eJ _)
    refine⟨.ref T,_,I2,rfl,⟨T,xs[i],ys[i],I.hok.fresh hT,rfl,rfl,fun zs hz=>by rw[I.yK hz qa];exact di lxi,fun zs hz=>by rw[I.yK hz qb];exact di lyi⟩,⟨hlt,st2.1,st2.2.1,st2.2.2.1,st2.2.2.2.1.1,st2.2.2.2.2.1⟩,fun c hc'=>?_⟩;rw[aQ (nT c hc')];exact(hf c hc').1
  done := by
    intro X hP hw hK hc i pins s σ H E I hf st hg;subst hP hw hK;obtain⟨hge,xs,ys,qa,qb,lx,ly⟩:=hg;obtain⟨q0,q1,q2,q3,q4,q5⟩:=id st;have ei:i=n:=by lia
    subst ei;obtain⟨ia,va,pa,_⟩:=I.tuple qa;obtain⟨ib,vb,pb,_⟩:=I.tuple qb;have sa:ia.toArray.size=i:=by rw[cv,<- va.length,lx]
    have sb:ib.toArray.size=i:=by rw[cv,<- vb.length,ly]
    have na:∀c∈[z,TI,TO,i1,i2],a≠c:=fun c hc'=>Mz I (hf c hc') qa;have nb:∀c∈[z,TI,TO,i1,i2],b≠c:=fun c hc'=>Mz I (hf c hc') qb;have D1:=Zp.Mx (prog:=X.prog) (w:=X.w) (A:=X.A.in1) (by simpa using I.ok.hd hc) i1 a (na _ (by simp)) ia.toArray;have D2:=Zp.Mx (prog:=X.prog) (w:=X.w) (A:=X.A.in1) (by simpa using I.ok.hd hc) i2 b (nb _ (by simp)) ib.toArray;rw[sa]at D1;rw[sb]at D2;have ap:Zp.Ap z TI TO i1 i2 [i1,a] [i2,b]:=by
      refine⟨d1,d2,d3,?_,?_,?_,?_,?_,?_,by simp,by simp,?_,?_⟩ <;> simp only[bq,dm,or_false,not_or]
      . exact⟨d4,br (na _ (by simp))⟩
      . exact⟨d5,br (nb _ (by simp))⟩
      . exact⟨d6,br (na _ (by simp))⟩
      . exact⟨d7,br (nb _ (by simp))⟩
      . exact⟨d8,br (na _ (by simp))⟩
      . exact⟨d9,br (nb _ (by simp))⟩
      . exact⟨br d0,br (na _ (by simp))⟩
      . exact⟨d0,br (nb _ (by simp))⟩
    have W:=Zp.walks (A:=X.A) D1 D2 ap;have sub:∀c∈[z,TO,i1,i2],tQ X pins H c:=fun c hc'=>hf c (by simp only[bq,dm,or_false]at hc' ⊢;rcases hc' with h|h|h|h <;> simp[h]);exact W.done s _ _ ⟨q1,q2,q3,⟨q4,pa⟩,q5,pb⟩ fun h' tk kk=>⟨rfl,I.Mw (t':=tk) (ch:=[z,TO,i1,i2]) kk sub⟩
  self:=fun _ _ _ _ _ st h=>oo st.2.1 h
section
variable{X:Cx}
theorem adp:gi "zip"=some (.type "zip"):=by decide+kernel
end
end L2
namespace Vl
open PySem PySem.Spec L2
section
variable{X:Cx}{B:Bs}{W:Wi}{K:ai}{G:Hp}
noncomputable def ux(ds es:List D):List D:=(ds.zip es).map fun p=>.tup [p.1,p.2]
theorem ajn{a b:ae}{ds es:List D}{vs us:List V}(qa:qF K G a vs)(qb:qF K G b us)(ra:bH K G ds vs)(rb:bH K G es us)(hl:ds.length=es.length):Yl K (Itz K a b vs.length) (ux ds es) G:=by
 intro i G1 H1 gg e;have la:=ra.length;have lb:=rb.length;have q1:=Same.oV e.gh (Same.oV gg qa);have q2:=Same.oV e.gh (Same.oV gg qb);have lz:(ux ds es).length=vs.length:=by unfold ux;rw[b_,List.length_zip];lia
 refine⟨fun d hd=>?_,fun hge=>⟨by rw[<- lz];exact hge,vs,us,q1,q2,rfl,by lia⟩⟩;have hlt:i < vs.length:=by rw[<- lz];exact(dq.mp hd).1
 have hd1:ds[i]?=some (ds[i]'(by lia)):=di (by lia);have hd2:es[i]?=some (es[i]'(by lia)):=di (by lia);have ed:d=.tup [ds[i]'(by lia),es[i]'(by lia)]:=by unfold ux at hd;rw[df,List.getElem?_zip_eq_some (z:=(ds[i]'(by lia),es[i]'(by lia))) |>.mpr ⟨hd1,hd2⟩]at hd;exact(dk hd).symm
 subst ed;obtain⟨x,hx,rx⟩:=ra.get hd1;obtain⟨y,hy,ry⟩:=rb.get hd2;refine⟨⟨hlt,vs,us,q1,q2,rfl,by lia⟩,fun v H2 yl=>?_⟩;obtain⟨T,x',y',hT,rfl,rfl,y1,y2⟩:=yl;have e1:=y1 vs q1;have e2:=y2 us q2;rw[hx]at e1;rw[hy]at e2;cases e1;cases e2;have x2:=sO (xs:=[x,y]) e.gh e.tp hT;exact⟨_,e.trans x2,bV.mpr ⟨T,_,rfl,.inl (.of aV),aW.mpr ⟨_,_,rfl,(rx.mono gg).mono x2.gg,bH.one ((ry.mono gg).mono x2.gg)⟩⟩⟩
end
end Vl
namespace Vl
open PySem PySem.Spec PySem.Calls PySem.W L2
section
variable{X:Cx}{K:ai}{B:Bs}{W:Wi}{σ:St}{G H:Hp}{ρ:aD}
theorem bH.set:∀{ds:List D}{vs:List V}{d:D}{v:V}(j:Nat),bH K G ds vs->Rep K G d v->bH K G (ds.set j d) (vs.set j v)
 | [],_,_,_,_,h,_=>by rw[bI.mp h];exact bI.mpr rfl
 |e::ds,_,d,v,0,h,r=>by obtain⟨u,us,rfl,h1,h2⟩:=aW.mp h;exact aW.mpr ⟨v,us,rfl,r,h2⟩
 |e::ds,_,d,v,j + 1,h,r=>by obtain⟨u,us,rfl,h1,h2⟩:=aW.mp h;exact aW.mpr ⟨u,_,rfl,h1,bH.set j h2 r⟩
noncomputable def Xv(i:Nat)(fe fk:aD->Rs D):aD->Ou:=fun ρ=>oR (fe ρ) ρ fun v=>match ρ[i]? with
 |some (.ow ds)=>oR (fk ρ) ρ fun k=>(match k with
  | .int k=>(match Qm ds.length k with|some j=>.nx (ρ.set i (.ow (ds.set j v)))|none=>.no)
  |_=>.no)
 |_=>.no
theorem afU(i:Nat){e b:ag}{x:Str}{p1 tp pos:Pos}{fe fk:aD->Rs D}(he:SE X B W e fe)(hb:SE X B W b fk)(hN:X.N[i]?=some x:=by rfl)(hv:Ik X.env.scope x:=by first|exact Or.inl rfl|exact Or.inr (Or.inl rfl)|exact Or.inr (Or.inr rfl))(hd:wk x:=by decide)
  (hcd:Qc x:=by decide)
  (hs:m8 [.Subscript (.Name x p1) b tp] e pos.line X.env=pure false:=by rfl) (hw:m9 [.Subscript (.Name x p1) b tp] e X.env=pure none:=by rfl)
  (h1:(fx [.Subscript (.Name x p1) b tp] X.env).map (·.2)=[assign (.Subscript (.Name x p1) b tp) X.env]:=by rfl)
  (ha:∀v,assign (.Subscript (.Name x p1) b tp) X.env v=(do
   let ov <- eL [v] (a7 (.Name x p1) X.env)
   let iv <- eL [v,ov] (a7 b X.env)
   jS tp
   eL [v,ov,iv] (setItem ov iv v)
   release [v,ov,iv] []):=by intro _;rfl) :
  SS X B W (.Assign [.Subscript (.Name x p1) b tp] e pos) (Xv i fe fk):=by
 refine PS.imp (Ub he (aaZ (nC hN hv hd hcd) hb Qn ha) hs hw h1) fun De σ H mF=>?_;obtain⟨ρ,G,s,p⟩:=mF;unfold Xv at p;refine⟨ρ,G,s,lN s p fun d v H' G' _ y r p'=>?_⟩;cases e2:ρ[i]? with
 |none=>rw[e2]at p';exact p'.elim
 |some z =>
  rw[e2]at p';cases z with
  |ow ds =>
   have s':=s.ext y;obtain⟨a,vs,q1,q2,q3,q4,q5⟩:=s'.ow i ds e2;refine⟨_,q1,ρ,G',s',lN s' p' fun k v2 H2 G2 _ y2 r2 p2=>?_⟩;cases k with
   |int k =>
    dsimp only at p2;cases e3:Qm ds.length k with
    |none=>rw[e3]at p2;exact p2.elim
    |some j =>
     rw[e3]at p2;rw[bN.mp r2];exact⟨a,vs,k,j,rfl,rfl,y2.hh _ _ q2,by rw[<- q5.length];exact e3,p2 σ _ G2 ((s'.ext y2).write e2 q1 (bH.set j (q5.mono y2.gg) (r.mono y2.gg))) (.refl _)⟩
   |_=>exact p2.elim
  |_=>exact p'.elim
end
end Vl
namespace Vl
open PySem PySem.Spec L2
noncomputable def qP:List Int->Int
 | []=>0
 | [n]=>n
 |n::ns=>if qP ns < n then n else qP ns
theorem yR:∀{ns:List Int},0 < ns.length->qP ns∈ns/\∀a∈ns,a<=qP ns
 | [n],_=>⟨by simp[qP],fun a h=>by simp at h;rw[h];simp[qP]⟩
 |n::m::ns,_=>by
  obtain⟨h1,h2⟩:=yR (ns:=m::ns) (by simp);show(if qP (m::ns) < n then n else qP (m::ns))∈n::m::ns/\∀a∈n::m::ns,a<=if qP (m::ns) < n then n else qP (m::ns);split
  ·refine⟨eR,fun a ha=>?_⟩;rcases bq.mp ha with rfl|ha
   ·exact gd _
   ·have:=h2 a ha;lia
  ·refine⟨el _ h1,fun a ha=>?_⟩;rcases bq.mp ha with rfl|ha
   ·lia
   ·exact h2 a ha
section
variable{X:Cx}{B:Bs}{W:Wi}{K:ai}
theorem Zw(hc:X.calm=true):qG X (.builtin "max") (fun xs H Q=>∃p ns,xs=[.ref p]/\nu X.K H p (ns.map V.int)/\0 < ns.length/\Q (.int (qP ns)) H):=by
 intro pins s σ H xs us Q I r h;obtain⟨p,ns,rfl,hs,hne,q⟩:=h;obtain⟨u,rfl,rx⟩:=r.one;cases rx;obtain⟨its,rv,pl,_⟩:=I.list hs;have hi:=zQ rv;obtain⟨ys,e⟩:=hi.allInts.items;have hns:ns=ys.toList.map (·.1):=by rw[<- hi.numsOf,<- wa,<- e]
 have hsz:0 < ys.size:=by have h3:=hne;rw[hns,b_,fw]at h3;exact h3
 have hl:=pl.isList;rw[e]at hl;refine max_intList (I.ok.hd hc) hl hsz fun v h' tk hv hk=>?_;obtain⟨t,rfl⟩:=wb hv;obtain⟨b1,b2⟩:=argBest_gt (eC ys) (ys.size - 1);have m1:eC ys (g_ (fun i j=>decide (eC ys i > eC ys j)) (ys.size - 1))∈ns:=by rw[hns,se];exact PySem.getD_mem (by rw[b_,fw];lia)
 have m2:∀a∈ns,a<=eC ys (g_ (fun i j=>decide (eC ys i > eC ys j)) (ys.size - 1)):=fun a ha=>by rw[hns]at ha;obtain⟨j,hj,rfl⟩:=PySem.mem_getD ha;rw[b_,fw]at hj;rw[<- se];exact b2 j (by lia)
 obtain⟨k1,k2⟩:=yR hne;have em:eC ys (g_ (fun i j=>decide (eC ys i > eC ys j)) (ys.size - 1))=qP ns:=Int.le_antisymm (k2 _ m1) (m2 _ k1);exact⟨.int (qP ns),H,I.kept (t':=tk) hk,⟨t,by rw[em]⟩,q⟩
noncomputable def RD(best:List Int->Int):List D->Rs D
 | [.lst ds]=>(match jC ds with|some ns=>if 0 < ns.length then .ok (.int (best ns)) else .no|none=>.no)
 |_=>.no
theorem afV{best:List Int->Int}:uh K (fun xs H Q=>∃p ns,xs=[V.ref p]/\nu K H p (ns.map V.int)/\0 < ns.length/\Q (.int (best ns)) H) (RD best):=by
 intro B W σ ρ G H ds vs Q s r p;unfold RD at p;split at p
 ·rename_i ds;obtain⟨v,vs',rfl,r1,r2⟩:=aW.mp r;obtain⟨a,us,rfl,q,rr⟩:=bO.mp r1;rw[bI.mp r2];split at p
  ·rename_i ns ei;split at p
   ·rename_i hc;rw[Bp ei]at rr;have eu:=qO rr;subst eu;exact⟨a,ns,rfl,s.en.gh.seq q,hc,p _ H G s.Qt (bN.mpr rfl)⟩
   ·exact p.elim
  ·exact p.elim
 ·exact p.elim
theorem afW{e:ag}{p pos:Pos}{fa:aD->Rs D}(hc:X.calm=true) (hm:X.mg "max"=none) (ha:SE X B W e fa) (hg:Gl X "max":=by rfl) (he:a8 [e] X.env=[(false,a7 e X.env)]:=by rfl):SE X B W (.Call (.Name "max" p) [e] [] pos) (fA (ao fa aL) (RD qP)) :=
 Az (Zw hc) afV hg hm rfl (aj ha au he) (by decide) (by decide) he rfl
end
end Vl
namespace L2
open PySem PySem.Spec PyProof.Rows
theorem MF{X:Cx}{pins:List (ae×Obj)}{σ:St}{H:Hp}{s:af}{a b:ae}{xs:List V}(I:Inv X pins σ H s)(hf:tQ X pins H b)(hq:nu X.K H a xs):a≠b:=fun e=>by
 subst e;rcases hq with (q|⟨o,q⟩)|⟨o,its,n,q,_⟩
 ·rw[hf.1]at q;cases q
 ·rw[hf.1]at q;cases q
 ·have hb:=I.mod.Yp a o q;rcases hf.2.2.2.1 with z|z
  ·exact I.ok.Qe a o hb z
  ·exact absurd (dn (bE (I.ok.bs a o hb).1) z) (eJ _)
noncomputable def afX(K:ai)(a b:ae)(n:Nat):It :=
  ⟨fun i H=>i < n/\∃xs ys,nu K H a xs/\nu K H b ys/\xs.length=n/\ys.length=n,
   fun i H v H'=>∃T x y,H T=none/\v=.ref T/\H'=upd H T (.tup [x,y])/\(∀xs,nu K H a xs->xs[i]?=some x)/\∀ys,nu K H b ys->ys[i]?=some y,
   fun i H=>n<=i/\∃xs ys,nu K H a xs/\nu K H b ys/\xs.length=n/\ys.length=n⟩
theorem Zx{P:aE}{w:ay}{K:ai}{elts:List ag}{kx:Nat}{tp:Pos}(a b z TI TO i1 i2:ae)(n:Nat)(d1:TI≠z)(d2:TO≠z)(d3:TI≠TO)(d4:z≠i1)(d5:z≠i2)(d6:TO≠i1)(d7:TO≠i2)(d8:TI≠i1)(d9:TI≠i2)(d0:i1≠i2) :
    Turn P w K (.Tuple elts kx tp) (afX K a b n) [z,TI,TO,i1,i2] z (fun i h=>i<=n/\fq h z TI TO .none/\d_ h TI (.ref i1) (.ref i2)/\(∃x y,d_ h TO x y)/\h.IsListIter i1 a i/\h.IsListIter i2 b i) where
  mem:=by simp
  obj:=fun i h st c hc=>by
    obtain⟨_,q1,q2,⟨x,y,q3⟩,⟨o4,q4,_,e4⟩,⟨o5,q5,_,e5⟩⟩:=st;simp only[bq,dm,or_false]at hc;rcases hc with rfl|rfl|rfl|rfl|rfl
    . exact⟨_,q1,fun v q=>by have q':Data.fields _=Data.cell v:=q;cases q'⟩
    . exact⟨_,q2,fun v q=>by have q':Data.seq _ _=Data.cell v:=q;cases q'⟩
    . exact⟨_,q3,fun v q=>by have q':Data.seq _ _=Data.cell v:=q;cases q'⟩
    . exact⟨o4,q4,fun v q=>by rw[e4]at q;cases q⟩
    . exact⟨o5,q5,fun v q=>by rw[e5]at q;cases q⟩
  keep:=fun i h h' st k=>by obtain⟨q0,q1,q2,⟨x,y,q3⟩,⟨o4,q4,r4⟩,⟨o5,q5,r5⟩⟩:=st;exact⟨q0,k z (by simp) _ q1,k TI (by simp) _ q2,⟨x,y,k TO (by simp) _ q3⟩,⟨o4,k i1 (by simp) _ q4,r4⟩,⟨o5,k i2 (by simp) _ q5,r5⟩⟩
  item:=by
    intro X hP hw hK hc i pins s σ H E I hf st hg;subst hP hw hK;obtain⟨hlt,xs,ys,qa,qb,lx,ly⟩:=hg;obtain⟨q0,q1,q2,q3,q4,q5⟩:=id st;obtain⟨ia,va,pa,_⟩:=I.list qa;obtain⟨ib,vb,pb,_⟩:=I.list qb;have sa:ia.toArray.size=n:=by rw[cv,<- va.length,lx]
    have sb:ib.toArray.size=n:=by rw[cv,<- vb.length,ly]
    have na:∀c∈[z,TI,TO,i1,i2],a≠c:=fun c hc'=>MF I (hf c hc') qa;have nb:∀c∈[z,TI,TO,i1,i2],b≠c:=fun c hc'=>MF I (hf c hc') qb;have D1:=sf (prog:=X.prog) (w:=X.w) (A:=X.A.in1) (by simpa using I.ok.hd hc) i1 a (na _ (by simp)) ia.toArray;have D2:=sf (prog:=X.prog) (w:=X.w) (A:=X.A.in1) (by simpa using I.ok.hd hc) i2 b (nb _ (by simp)) ib.toArray;rw[sa]at D1;rw[sb]at D2;have ap:Zp.Ap z TI TO i1 i2 [i1,a] [i2,b]:=by
      refine⟨d1,d2,d3,?_,?_,?_,?_,?_,?_,by simp,by simp,?_,?_⟩ <;> simp only[bq,dm,or_false,not_or]
      . exact⟨d4,br (na _ (by simp))⟩
      . exact⟨d5,br (nb _ (by simp))⟩
      . exact⟨d6,br (na _ (by simp))⟩
      . exact⟨d7,br (nb _ (by simp))⟩
      . exact⟨d8,br (na _ (by simp))⟩
      . exact⟨d9,br (nb _ (by simp))⟩
      . exact⟨br d0,br (na _ (by simp))⟩
      . exact⟨d0,br (nb _ (by simp))⟩
    have W:=Zp.walks (A:=X.A) D1 D2 ap;refine W.item i s _ _ hlt ⟨q1,q2,q3,⟨q4,pa.isList⟩,q5,pb.isList⟩ fun T vals g1 tk hv hT tup mid kk=>?_;obtain⟨x',y',hx,hy,rfl⟩:=hv;have sub:∀c∈[z,TO,i1,i2],tQ X pins H c:=fun c hc'=>hf c (by simp only[bq,dm,or_false]at hc' ⊢;rcases hc' with h|h|h|h <;> simp[h]);have lxi:i < xs.length:=by lia
    have lyi:i < ys.length:=by lia
    obtain⟨u,hu,ru⟩:=va.get (di lxi);obtain⟨v,hv2,rv⟩:=vb.get (di lyi);have ex:x'=u:=by
      have:ia[i]?=some x':=by simpa using hx
      rw[hu]at this;exact(dk this).symm
    have ey:y'=v:=by
      have:ib[i]?=some y':=by simpa using hy
      rw[hv2]at this;exact(dk this).symm
    subst ex ey;refine⟨.ref T,rfl,W.go elts kx tp i T _ _ _ mid fun g2 st2 kk2=>?_⟩;have tw:T∉[z,TO,i1,i2]:=W.apart _ _ _ mid;have I2:Inv X pins σ (upd H T (.tup [xs[i],ys[i]])) { s with heap:=g2,toks:=tk }:=by refine I.GR (ch:=[z,TO,i1,i2]) (fun c o hc' q=>kk2 c o hc' (kk c o hc' q)) sub hT ?_;obtain⟨o,ho,hoc,m,hod⟩:=tup;exact⟨by show 2<=sizeLine;decide,[x',y'],.cons ru (.cons rv .nil),o,kk2 T o tw ho,hoc,m,hod⟩
    have nT:∀c∈[z,TI,TO,i1,i2],c≠T:=fun c hc' e=>by
      subst e;obtain⟨o,ho,_⟩:∃o,s.heap.get? c=some o/\True:=by
        obtain⟨x,y,q3'⟩:=q3;obtain⟨o4,q4',_⟩:=q4;obtain⟨o5,q5',_⟩:=q5;simp only[bq,dm,or_false]at hc';rcases hc' with rfl|rfl|rfl|rfl|rfl
        . exact⟨_,q1,trivial⟩
        . exact⟨_,q2,trivial⟩
        . exact⟨_,q3',trivial⟩
        . exact⟨_,q4',trivial⟩
        . exact⟨_,q5',trivial⟩
      exact absurd (dn (bE ho) hT) (eJ _)
    refine⟨.ref T,_,I2,rfl,⟨T,xs[i],ys[i],I.hok.fresh hT,rfl,rfl,fun zs hz=>by rw[I.xG hz qa];exact di lxi,fun zs hz=>by rw[I.xG hz qb];exact di lyi⟩,⟨hlt,st2.1,st2.2.1,st2.2.2.1,st2.2.2.2.1.1,st2.2.2.2.2.1⟩,fun c hc'=>?_⟩;rw[aQ (nT c hc')];exact(hf c hc').1
  done := by
    intro X hP hw hK hc i pins s σ H E I hf st hg;subst hP hw hK;obtain⟨hge,xs,ys,qa,qb,lx,ly⟩:=hg;obtain⟨q0,q1,q2,q3,q4,q5⟩:=id st;have ei:i=n:=by lia
    subst ei;obtain⟨ia,va,pa,_⟩:=I.list qa;obtain⟨ib,vb,pb,_⟩:=I.list qb;have sa:ia.toArray.size=i:=by rw[cv,<- va.length,lx]
    have sb:ib.toArray.size=i:=by rw[cv,<- vb.length,ly]
    have na:∀c∈[z,TI,TO,i1,i2],a≠c:=fun c hc'=>MF I (hf c hc') qa;have nb:∀c∈[z,TI,TO,i1,i2],b≠c:=fun c hc'=>MF I (hf c hc') qb;have D1:=sf (prog:=X.prog) (w:=X.w) (A:=X.A.in1) (by simpa using I.ok.hd hc) i1 a (na _ (by simp)) ia.toArray;have D2:=sf (prog:=X.prog) (w:=X.w) (A:=X.A.in1) (by simpa using I.ok.hd hc) i2 b (nb _ (by simp)) ib.toArray;rw[sa]at D1;rw[sb]at D2;have ap:Zp.Ap z TI TO i1 i2 [i1,a] [i2,b]:=by
      refine⟨d1,d2,d3,?_,?_,?_,?_,?_,?_,by simp,by simp,?_,?_⟩ <;> simp only[bq,dm,or_false,not_or]
      . exact⟨d4,br (na _ (by simp))⟩
      . exact⟨d5,br (nb _ (by simp))⟩
      . exact⟨d6,br (na _ (by simp))⟩
      . exact⟨d7,br (nb _ (by simp))⟩
      . exact⟨d8,br (na _ (by simp))⟩
      . exact⟨d9,br (nb _ (by simp))⟩
      . exact⟨br d0,br (na _ (by simp))⟩
      . exact⟨d0,br (nb _ (by simp))⟩
    have W:=Zp.walks (A:=X.A) D1 D2 ap;have sub:∀c∈[z,TO,i1,i2],tQ X pins H c:=fun c hc'=>hf c (by simp only[bq,dm,or_false]at hc' ⊢;rcases hc' with h|h|h|h <;> simp[h]);exact W.done s _ _ ⟨q1,q2,q3,⟨q4,pa.isList⟩,q5,pb.isList⟩ fun h' tk kk=>⟨rfl,I.Mw (t':=tk) (ch:=[z,TO,i1,i2]) kk sub⟩
  self:=fun _ _ _ _ _ st h=>oo st.2.1 h
section
variable{X:Cx}
noncomputable def alT(K:ai)(ta:TA):TI:=fun σ H R=>ta σ H fun vs H1=>(∃a b xs ys,vs=[.ref a,.ref b]/\qF K H1 a xs/\qF K H1 b ys/\xs.length=ys.length/\R (Itz K a b xs.length) H1)∨(∃a b xs ys,vs=[.ref a,.ref b]/\nu K H1 a xs/\nu K H1 b ys/\xs.length=ys.length/\R (afX K a b xs.length) H1)
theorem afY{l1 l2:ag}{ta:TA}{p pos:Pos}{elts:List ag}{kx:Nat}{tp:Pos}(hg:Gl X "zip") (hm:X.mg "zip"=none) (ha:PA X [l1,l2] ta) (hs:a8 [l1,l2] X.env=[(false,a7 l1 X.env),(false,a7 l2 X.env)]:=by rfl) (hs2:a8 [l2] X.env=[(false,a7 l2 X.env)]:=by rfl) :
  PI X (.Tuple elts kx tp) (.Call (.Name "zip" p) [l1,l2] [] pos) (alT X.K ta):=by
 intro pins s σ H R I h;refine Call_ (zO I hg hm adp (o7 (nq (ha pos pins s σ H _ I h) fun us s1 ⟨vs,H1,I1,r1,q1⟩=>?_) (by rw[hs,hs2]) (by rw[hs2];rfl)));have five:∀c∈[s1.heap.objs.size + 4,s1.heap.objs.size + 2,s1.heap.objs.size + 3,s1.heap.objs.size,s1.heap.objs.size + 1],tQ X pins H1 c:=fun c hc=>by
  have hc':s1.heap.objs.size<=c:=by
   simp only[bq,dm,or_false]at hc;rcases hc with rfl|rfl|rfl|rfl|rfl
   ·exact kS _ _
   ·exact kS _ _
   ·exact kS _ _
   ·exact bj _
   ·exact kS _ _
  exact I1.Uc hc' (I1.hok.fresh hc')
 rcases q1 with ⟨a,b,xs,ys,e,qa,qb,hl,q⟩|⟨a,b,xs,ys,e,qa,qb,hl,q⟩
 ·subst e;obtain⟨u,v,rfl,ru,rv⟩:=agU r1;cases ru;cases rv;obtain⟨ia,va,pa,_⟩:=I1.tuple qa;obtain⟨ib,vb,pb,_⟩:=I1.tuple qb;refine Zp.Zv (show s1.heap.IsTuple a ia.toArray from pa) (show s1.heap.IsTuple b ib.toArray from pb) fun h' q1 q2 q3 q4 q5 kk=>oo q1 ?_;refine⟨s1.heap.objs.size + 4,[s1.heap.objs.size + 4,s1.heap.objs.size + 2,s1.heap.objs.size + 3,s1.heap.objs.size,s1.heap.objs.size + 1],_,Itz X.K a b xs.length,H1,rfl,I1.kept (t':=s1.toks) kk,
   ado a b _ _ _ _ _ xs.length ?_ ?_ ?_ ?_ ?_ ?_ ?_ ?_ ?_ ?_,⟨eD _,q1,q2,⟨_,_,q3⟩,q4,q5⟩,five,q⟩
  iterate 10 (intro z;have:=congrArg (fun(n:Nat)=>n) z;revert this;generalize (s1.heap.objs.size:Nat)=m;intro this;lia)
 ·subst e;obtain⟨u,v,rfl,ru,rv⟩:=agU r1;cases ru;cases rv;obtain⟨ia,va,pa,_⟩:=I1.list qa;obtain⟨ib,vb,pb,_⟩:=I1.list qb;refine call_zip_2 pa.isList pb.isList fun h' q1 q2 q3 q4 q5 _ kk=>oo q1 ?_;refine⟨s1.heap.objs.size + 4,[s1.heap.objs.size + 4,s1.heap.objs.size + 2,s1.heap.objs.size + 3,s1.heap.objs.size,s1.heap.objs.size + 1],_,afX X.K a b xs.length,H1,rfl,I1.kept (t':=s1.toks) kk,
   Zx a b _ _ _ _ _ xs.length ?_ ?_ ?_ ?_ ?_ ?_ ?_ ?_ ?_ ?_,⟨eD _,q1,q2,⟨_,_,q3⟩,q4,q5⟩,five,q⟩
  iterate 10 (intro z;have:=congrArg (fun(n:Nat)=>n) z;revert this;generalize (s1.heap.objs.size:Nat)=m;intro this;lia)
end
end L2
namespace Vl
open PySem PySem.Spec L2
section
variable{X:Cx}{B:Bs}{W:Wi}{K:ai}{G:Hp}
theorem afZ{a b:ae}{ds es:List D}{vs us:List V}(qa:nu K G a vs)(qb:nu K G b us)(ra:bH K G ds vs)(rb:bH K G es us)(hl:ds.length=es.length):Yl K (afX K a b vs.length) (ux ds es) G:=by
 intro i G1 H1 gg e;have la:=ra.length;have lb:=rb.length;have q1:=e.gh.seq (gg.seq qa);have q2:=e.gh.seq (gg.seq qb);have lz:(ux ds es).length=vs.length:=by unfold ux;rw[b_,List.length_zip];lia
 refine⟨fun d hd=>?_,fun hge=>⟨by rw[<- lz];exact hge,vs,us,q1,q2,rfl,by lia⟩⟩;have hlt:i < vs.length:=by rw[<- lz];exact(dq.mp hd).1
 have hd1:ds[i]?=some (ds[i]'(by lia)):=di (by lia);have hd2:es[i]?=some (es[i]'(by lia)):=di (by lia);have ed:d=.tup [ds[i]'(by lia),es[i]'(by lia)]:=by unfold ux at hd;rw[df,List.getElem?_zip_eq_some (z:=(ds[i]'(by lia),es[i]'(by lia))) |>.mpr ⟨hd1,hd2⟩]at hd;exact(dk hd).symm
 subst ed;obtain⟨x,hx,rx⟩:=ra.get hd1;obtain⟨y,hy,ry⟩:=rb.get hd2;refine⟨⟨hlt,vs,us,q1,q2,rfl,by lia⟩,fun v H2 yl=>?_⟩;obtain⟨T,x',y',hT,rfl,rfl,y1,y2⟩:=yl;have e1:=y1 vs q1;have e2:=y2 us q2;rw[hx]at e1;rw[hy]at e2;cases e1;cases e2;have x2:=sO (xs:=[x,y]) e.gh e.tp hT;exact⟨_,e.trans x2,bV.mpr ⟨T,_,rfl,.inl (.of aV),aW.mpr ⟨_,_,rfl,(rx.mono gg).mono x2.gg,bH.one ((ry.mono gg).mono x2.gg)⟩⟩⟩
noncomputable def RG:List D->Rs (List D)
 | [.tup ds,.tup es]=>if ds.length=es.length then .ok (ux ds es) else .no
 | [.lst ds,.lst es]=>if ds.length=es.length then .ok (ux ds es) else .no
 |_=>.no
theorem Xw{e e':ag}{p1 p2:Pos}{elts:List ag}{kx:Nat}{tp:Pos}{f f':aD->Rs D}(hm:X.mg "zip"=none) (hi:SE X B W e f) (hi':SE X B W e' f') (hgl:Gl X "zip":=by rfl) (hst:a8 [e,e'] X.env=[(false,a7 e X.env),(false,a7 e' X.env)]:=by rfl) (hst2:a8 [e'] X.env=[(false,a7 e' X.env)]:=by rfl) :
  SI X B W (.Tuple elts kx tp) (.Call (.Name "zip" p1) [e,e'] [] p2) (fL2 (ao f (ao f' aL)) RG):=by
 refine PI.imp (afY hgl hm (aj hi (aj hi' au (by rw[hst2];rfl)) (by rw[hst,hst2])) hst hst2) fun σ H R ⟨ρ,G,s,p⟩=>⟨ρ,G,s,?_⟩
 unfold fL2 at p;cases e1:ao f (ao f' aL) ρ with
 |ok ds =>
  rw[e1]at p;intro vs H1 G1 e r;have p':WR X.K W σ G H (RG ds) R:=p;unfold RG at p';split at p'
  ·rename_i ds es;by_cases c:ds.length=es.length
   ·rw[if_pos c]at p';obtain⟨v1,vs1,rfl,r1,r2⟩:=aW.mp r;obtain⟨v2,vs2,rfl,r3,r4⟩:=aW.mp r2;cases bI.mp r4;obtain⟨a,xs,rfl,qa,ra⟩:=bV.mp r1;obtain⟨b,ys,rfl,qb,rb⟩:=bV.mp r3;exact .inl ⟨a,b,xs,ys,rfl,Same.oV e.gh qa,Same.oV e.gh qb,by rw[<- ra.length,<- rb.length];exact c,p' _ H1 G1 e (ajn qa qb ra rb c)⟩
   ·rw[if_neg c]at p';exact p'.elim
  ·rename_i ds es;by_cases c:ds.length=es.length
   ·rw[if_pos c]at p';obtain⟨v1,vs1,rfl,r1,r2⟩:=aW.mp r;obtain⟨v2,vs2,rfl,r3,r4⟩:=aW.mp r2;cases bI.mp r4;obtain⟨a,xs,rfl,qa,ra⟩:=bO.mp r1;obtain⟨b,ys,rfl,qb,rb⟩:=bO.mp r3;exact .inr ⟨a,b,xs,ys,rfl,e.gh.seq qa,e.gh.seq qb,by rw[<- ra.length,<- rb.length];exact c,p' _ H1 G1 e (afZ qa qb ra rb c)⟩
   ·rw[if_neg c]at p';exact p'.elim
  ·exact p'.elim
 |ex c n=>rw[e1]at p;exact p
 |no=>rw[e1]at p;exact p
end
end Vl
namespace L2
open PySem PySem.Spec PyProof.Rows
section
variable{X:Cx}
end
end L2
namespace Vl
open PySem PySem.Spec L2
section
variable{X:Cx}{B:Bs}{W:Wi}{K:ai}{G:Hp}
end
end Vl
namespace Tb
open PySem PySem.SetTable
noncomputable def wd(p:Probe)(d:Option Nat):Probe:={ p with dummy:=d }
noncomputable def Emp(t:bP)(j:Nat):Prop:=¬Gk t j/\has t.dummies j=false
structure aqA (t:bP)(L:List lM):Prop where
 pw:∃k,t.mask + 1=2 ^ k
 m7:7<=t.mask
 pl:t.place=(L.map (·.1)).toArray
 so:(L.map (·.1)).Pairwise (· < ·)
 le:∀e∈L,e.1<=t.mask
 dr:Gj t.dummies
 dj:∀e∈L,has t.dummies e.1=false
 fl:t.fill<=t.mask
 reach:∀e∈L,∃s,pos t e.2.1 s=e.1/\∀s',s' < s->¬Emp t (pos t e.2.1 s')
section
variable{t:bP}{L:List lM}
end
end Tb
namespace Tb
open PySem PySem.Spec PySem.SetTable
section
variable{prog:aE}{w:ay}{A:aT}{E:aa->af->Prop}{s:af}
end
section
variable{prog:aE}{w:ay}{U:ae->List Int->Prop}{A:aT}{E:aa->af->Prop}{s:af}
end
section
variable{prog:aE}{w:ay}{U:ae->List Int->Prop}{A:aT}{E:aa->af->Prop}{s:af}
end
end Tb
namespace So
open PySem PySem.Spec PySem.W PyProof.Rows PySem.Calls PySem.SetTable Tb
section
variable{prog:aE}{w:ay}{A:aT}{E:aa->af->Prop}{s:af}{U:ae->List Int->Prop}
end
end So
namespace Vl
open PySem PySem.Spec L2 So Tb
section
variable{X:Cx}{B:Bs}{W:Wi}
end
end Vl
namespace Vl
open PySem PySem.Spec L2 Dk
section
variable{prog:aE}{w:ay}{A:aT}{E:aa->af->Prop}{s:af}
end
section
variable{X:Cx}{B:Bs}{W:Wi}
end
end Vl
namespace So
open PySem PySem.Spec PySem.W PyProof.Rows PySem.Calls Tb
section
variable{prog:aE}{w:ay}{A:aT}{E:aa->af->Prop}{s:af}
section
variable{I S:ae}{fp wr:List ae}{G:Array kB->Array kB->Prop}{n:Nat}{P:Nat->aa->Prop}{St:Nat->af->Prop}{R:Result->af->Prop}{Kp:aw->Prop}{bt:Nat->Nat->Bool}
noncomputable def two(v:aa)(c:Nat):Obj:={ cls:=.type "list",dict:=none,data:=.seq #[v,v] c,slots:=#[] }
end
end
end So
namespace Vl
open PySem PySem.Spec L2 So
section
variable{X:Cx}{B:Bs}{W:Wi}{K:ai}
end
end Vl
namespace Vl
open PySem PySem.Spec L2
section
variable{prog:aE}{w:ay}{K:Type}[DecidableEq K]{knd:HeapKind prog w K}{A:aT}{E:aa->af->Prop}{s:af}
end
section
variable{X:Cx}{B:Bs}{W:Wi}{K:ai}
end
end Vl
namespace Zp
open PySem PySem.Spec
section
variable{prog:aE}{w:ay}{A:aT}{E:aa->af->Prop}{s:af}
end
end Zp
namespace L2
open PySem PySem.Spec PyProof.Rows
section
variable{X:Cx}
end
end L2
namespace Vl
open PySem PySem.Spec L2
section
variable{X:Cx}{B:Bs}{W:Wi}{K:ai}{G:Hp}
end
end Vl
namespace Vl
open PySem PySem.Spec PySem.Calls PySem.W L2
end Vl
namespace HT2
open PySem PySem.Spec PyProof.Rows HT
variable{prog:aE}{w:ay}{A:aT}{E:aa->af->Prop}{s:af}
end HT2
namespace Vl
open PySem PySem.Spec PySem.Calls PySem.W L2
section
variable{X:Cx}{B:Bs}{W:Wi}
noncomputable def Xx:ag->Bool
 | .Starred ..=>false
 |_=>true
theorem Vq{e:ag}{es:List ag}{env:Env}(h:Xx e=true):a8 (e::es) env=(false,a7 e env)::a8 es env:=by
 cases e <;> first|rfl|cases h
theorem fj{e:ag}{es:List ag}{fe:aD->Rs D}{fs:aD->Rs (List D)}(ha:SE X B W e fe)(hr:SA X B W es fs)(hs:Xx e=true:=by rfl):SA X B W (e::es) (ao fe fs):=aj ha hr (Vq hs)
section
variable{K:ai}{σ:St}{G H:Hp}{ρ:aD}
end
end
end Vl
namespace Vl
open PySem PySem.Spec PySem.Calls PySem.W L2 PyProof.Rows
section
variable{X:Cx}{B:Bs}{W:Wi}
theorem Zy(hc:X.calm=true):qG X (.builtin "sum") (fun xs H Q=>∃(p:ae) (ns:List Int),xs=[.ref p]/\nu X.K H p (ns.map V.int)/\Q (.int ns.sum) H):=by
 intro pins s σ H xs us Q I r ⟨p,ns,e,q,k⟩;subst e;obtain⟨u,rfl,rx⟩:=r.one;cases rx;obtain⟨its,rv,pl,_⟩:=I.list q;have ia:kM its ns:=zQ rv;obtain⟨xs,ex⟩:=ia.allInts.items;have hn:=ia.numsOf;have hl:s.heap.IsList p (oq xs):=by have:=pl.isList;rw[ex]at this;exact this
 refine PySem.sum_intListG (I.ok.hd hc) hl fun h' tk t' hk=>?_;have e2:preSum (eC xs) xs.size=ns.sum:=by rw[preSum_eq,qc (by simp),<- hn];have:=wa (xs:=xs);rw[<- ex]at this;rw[<- this]
 exact⟨.int ns.sum,H,I.kept (t':=tk) (h':=h') hk,⟨t',by rw[e2]⟩,k⟩
section
variable{K:ai}
theorem GZ{G:Hp}:∀{ds:List D}{vs:List V}{ns:List Int},bH K G ds vs->jC ds=some ns->vs=ns.map V.int
 | [],vs,ns,r,e=>by cases e;exact bI.mp r
 |d::ds,vs,ns,r,e=>by
  obtain⟨v,vs',rfl,r1,r2⟩:=aW.mp r;cases d with
  |int i =>
   simp only[jC]at e;cases e1:jC ds with
   |none=>rw[e1]at e;cases e
   |some l =>
    rw[e1]at e;cases e;rw[bN.mp r1,GZ r2 e1];rfl
  |_=>cases e
noncomputable def Vr:List D->Rs D
 | [.lst ds]=>match jC ds with|some ns=>.ok (.int ns.sum)|none=>.no
 |_=>.no
theorem ahs{ns:List Int}:Vr [.lst (ns.map D.int)]=.ok (.int ns.sum):=by simp only[Vr,yQ]
theorem ajo:uh K (fun xs H Q=>∃(p:ae) (ns:List Int),xs=[.ref p]/\nu K H p (ns.map V.int)/\Q (.int ns.sum) H) Vr:=by
 intro B W σ ρ G H ds vs Q s r p;unfold Vr at p;split at p
 ·rename_i es;split at p
  ·rename_i ns e;obtain⟨v,vs',rfl,r1,r2⟩:=aW.mp r;obtain⟨a,us,rfl,q,rr⟩:=bO.mp r1;rw[bI.mp r2];have e2:=GZ rr e;subst e2;exact⟨a,ns,rfl,s.en.gh.seq q,Post.ok s p (bN.mpr rfl)⟩
  ·exact p.elim
 ·exact p.elim
end
theorem adq{e:ag}{p pos:Pos}{fa:aD->Rs D}(hc:X.calm=true) (hm:X.mg "sum"=none) (ha:SE X B W e fa) (hg:Gl X "sum":=by rfl) (he:a8 [e] X.env=[(false,a7 e X.env)]:=by rfl):SE X B W (.Call (.Name "sum" p) [e] [] pos) (fA (ao fa aL) Vr) :=
 Az (Zy hc) ajo hg hm PyProof.Rows.boot_sum (aj ha au he) (by decide) (by decide) he rfl
section
variable{K:ai}
end
variable{a b:ag}{pos:Pos}{fa fb:aD->Rs D}
end
end Vl
namespace Vl
open PySem PySem.Spec L2 AutoSeq1
noncomputable abbrev ajp(xs:Array aa)(m:Nat)(sl:Array (Option aa)):Obj:={ cls:=.type "list",dict:=none,data:=.seq xs m,slots:=sl }
theorem Vs{l b:ae}{xs ys:Array aa}{m k:Nat}{sl:Array (Option aa)}(c0:¬(!xs.isEmpty && nB (xs.size + ys.size))=true)(c1:xs.size<=sizeLine)(c2:xs.size + ys.size<=sizeLine + 1) :
  Meets (Builtin.«list.extend» ⟨[.ref l,.ref b],[]⟩) (fun _ R s=>s.heap.get? l=some (ajp xs m #[])/\s.heap.get? b=some (ajp ys k sl)/\R (.ok (.ret .none)) { s with heap:=s.heap.update l (fm fun x=>x++ys),toks:=s.toks }):=by
 refine .of_wp fun prog w A R s h=>?_;obtain⟨hp,g,d,tk,os⟩:=s;obtain⟨h1,h2,h3⟩:=h;have f1:=idx_int;have f2:=sub_tuple_tuple;have f3:=sub_list_list;have f4:=sub_tuple_list;have f5:=sub_list_tuple;have z:(xs++ys).size<=sizeLine + 1:=by rw[k6];exact c2
 wp_walk using(mB h1 rfl (hz:=c1) (_hz':=z)),wpAny_loadPart' h1,wpAny_loadPart' h2
 exact⟨_,rfl,h3⟩
section
variable{X:Cx}{B:Bs}{W:Wi}{K:ai}
noncomputable def aht(K:ai):V->List V->Hp->VK->Prop:=fun x vs H Q=>∃l b xs zs,x=.ref l/\vs=[.ref b]/\H l=some (.lst xs)/\nu K H b zs/\xs.length + zs.length<=sizeLine/\Q .non (upd H l (.lst (xs++zs)))
theorem aga:MtM X "list.extend" (aht X.K):=by
 intro pins s σ H x vs v us Q I rx rv ⟨l,b,xs,zs,e1,e2,hH,hB,hz,q⟩;subst e1;subst e2;cases rx;obtain⟨u,rfl,ru⟩:=rv.one;cases ru;obtain⟨z,its,n,r,hl,e⟩:=I.aeS hH;have hb:∃(its2:List aa) (n2:Nat) (sl:Array (Option aa)),Vals zs its2/\s.heap.get? b=some (ajp its2.toArray n2 sl):=by
  rcases hB with h|⟨o,its2,n2,hk,hc,hd,hs,hz2,r2⟩
  ·obtain⟨z2,its2,n2,r2,e2⟩:=h.ok I.hok;exact⟨its2,n2,#[],r2,e2⟩
  ·refine⟨its2.toList,n2,o.slots,r2,?_⟩;rw[I.xu b o hk];cases o;simp only at hc hd hs;subst hc;subst hd;subst hs;rfl
 obtain⟨its2,n2,sl,r2,w2⟩:=hb;have l2:=r2.length;have le:its.length + its2.length<=sizeLine:=by lia
 have c:¬(!its.toArray.isEmpty && nB (its.length + its2.length))=true:=fun y=>by have:=(fN _ _▸y).2;rw[Qp le]at this;cases this
 have m:=Vs (l:=l) (b:=b) (xs:=its.toArray) (ys:=its2.toArray) (m:=n) (k:=n2) (sl:=sl) c (ck (kS _ _) le) (Nat.le_succ_of_le le);refine call_meets F.slot_list_extend ⟨_,e,rfl⟩ F.entry_list_extend (F.args_list_extend_2 _ _) m ⟨e,w2,.non,_,?_,rfl,q⟩;exact I.aip (its':=its++its2) hH e (by simp) (r.append r2) (by rw[cx];exact hz)
noncomputable def Hf(i:Nat)(f:aD->Rs D):aD->Ou:=fun ρ=>match ρ[i]? with
 |some (.ow ds)=>oR (f ρ) ρ fun d=>(match d with
  | .lst es=>if ds.length + es.length<=1000000 then .nx (ρ.set i (.ow (ds++es))) else .no
  |_=>.no)
 |_=>.no
theorem agb{i:Nat}{x:Str}{e:ag}{pos p1 p2 cp:Pos}{f:aD->Rs D}(he:SE X B W e f)
  {pe:PE X (.Call (.Attribute (.Name x p1) "extend" p2) [e] [] cp) (tBM X.K "list" (aht X.K) (Yr i) (Qj (tF X.K B W f) abn))}
  (hs:dC (.Call (.Attribute (.Name x p1) "extend" p2) [e] [] cp) none pos.line X.env=pure false:=by rfl) :
  SS X B W (.Expr (.Call (.Attribute (.Name x p1) "extend" p2) [e] [] cp) pos) (Hf i f):=by
 refine PS.imp (Eu pe hs) fun De σ H mF=>?_;obtain⟨ρ,G,s,p⟩:=mF;unfold Hf at p;cases q:ρ[i]? with
 |none=>rw[q]at p;exact p.elim
 |some z =>
  rw[q]at p;cases z with
  |no=>exact p.elim
  |fz d=>exact p.elim
  |od _=>exact p.elim
  |op _=>exact p.elim
  |ow ds =>
   obtain⟨a,vs,e1,h2,h3,h4,h5⟩:=s.ow i ds q;refine⟨_,e1,.inl ⟨rfl,vs,.of h2⟩,ρ,G,s,lN s p fun d v H' G' _ x r p'=>?_⟩;cases d with
   |lst es =>
    dsimp only at p';by_cases hl:ds.length + es.length<=1000000
    ·rw[if_pos hl]at p';have s':=s.ext x;obtain⟨b,us,rfl,q2,rr⟩:=bO.mp r;refine⟨a,b,vs,us,rfl,rfl,x.hh _ _ h2,x.gh.seq q2,by rw[<- h5.length,<- rr.length];exact sz6 hl,?_⟩;exact p' σ _ G' (s'.write q e1 ((h5.mono x.gg).append rr)) (.refl _)
    ·rw[if_neg hl]at p';exact p'.elim
   |_=>exact p'.elim
theorem Xy(i:Nat){x:Str}{e:ag}{pos p1 p2 cp:Pos}{f:aD->Rs D}(he:SE X B W e f)(hN:X.N[i]?=some x:=by rfl)(hv:Ik X.env.scope x:=by first|exact Or.inl rfl|exact Or.inr (Or.inl rfl)|exact Or.inr (Or.inr rfl))(hd:wk x:=by decide)
  (hcd:Qc x:=by decide) (hst:a8 [e] X.env=[(false,a7 e X.env)]:=by rfl)
  (hbase:iX (.Name x p1) "extend" X.env (a7 (.Name x p1) X.env)=a7 (.Name x p1) X.env:=by rfl)
  (hfew:((cE cp (a8 [e] X.env)).all (fun x=>!x.1) && (gy cp (gz [] X.env)).all (fun x=>x.1.isSome)
   && decide (([e]:List ag).length + ([]:List hV).length + (if ([]:List hV).isEmpty then 0 else 1) < 30))=true:=by rfl)
  (hline:(p2.endLine == cp.line)=true:=by rfl) (hplain:(cE cp (a8 [] X.env)).any (·.1)=false:=by rfl)
  (hs:dC (.Call (.Attribute (.Name x p1) "extend" p2) [e] [] cp) none pos.line X.env=pure false:=by rfl) :
  SS X B W (.Expr (.Call (.Attribute (.Name x p1) "extend" p2) [e] [] cp) pos) (Hf i f) :=
 agb (pe:=Qo rS PySem.F.slot_list_extend PySem.F.type_list_extend aga (nC hN hv hd hcd) (eZ he kZ hst) hbase hfew hline hst hplain) he hs
end
end Vl
namespace Vl
open PySem PySem.Spec L2
section
variable{X:Cx}{B:Bs}{W:Wi}{K:ai}
variable{o e:ag}{apos cpos:Pos}{fo fe:aD->Rs D}
end
end Vl
namespace Vl
open PySem PySem.Spec PySem.Calls PySem.W L2
noncomputable def msk(H:Hp)(a:ae):Hp:=fun b=>if b=a then none else H b
theorem rH{H:Hp}{a b:ae}(h:b≠a):msk H a b=H b:=if_neg h
theorem Hg{H:Hp}{a:ae}:msk H a a=none:=if_pos rfl
theorem Hh{H:Hp}{a b:ae}{o:HO}(h:msk H a b=some o):b≠a/\H b=some o:=by
 by_cases e:b=a
 ·subst e;rw[Hg]at h;cases h
 ·rw[rH e]at h;exact⟨e,h⟩
noncomputable def lent:Sl->Option (List D)
 | .ow ds=>some ds
 | .op ds=>some ds
 |_=>none
noncomputable def mC:Sl->List D->Sl
 | .ow _,ds=>.ow ds
 | .op _,ds=>.op ds
 |z,_=>z
theorem xX{z:Sl}{ds:List D}(h:lent z=some ds):z.own=true:=by cases z <;> first|rfl|cases h
theorem Hi{z:Sl}{ds es:List D}(h:lent z=some ds):(mC z es).own=true:=by cases z <;> first|rfl|cases h
section
variable{X:Cx}{K:ai}{B:Bs}{W:Wi}{σ:St}{G H G' H':Hp}{ρ:aD}
theorem Ku{z:Sl}{ds es:List D}{ws:List V}{a:ae}(h:lent z=some ds)(r:bH K G es ws):xJ K G a (mC z es) (.lst ws):=by
 cases z <;> first|exact⟨ws,rfl,r⟩|cases h
theorem Kv{z:Sl}{ds es fs:List D}(h:lent z=some ds)(e:mC z es=.op fs):∃gs,z=.op gs:=by
 cases z <;> first|exact⟨_,rfl⟩|cases e|cases h
theorem SR.lent(s:SR K B σ H ρ G){i:Nat}{z:Sl}{ds:List D}(q:ρ[i]?=some z)(hl:lent z=some ds) :
  ∃a vs,σ[i]?=some (some (.ref a))/\H a=some (.lst vs)/\G a=none/\B.2 a=none/\bH K G ds vs:=by
 obtain⟨a,o,h1,h2,h3,h4,h5⟩:=s.own i z q (xX hl);cases z with
 |ow es=>cases hl;obtain⟨vs,rfl,r⟩:=h5;exact⟨a,vs,h1,h2,h3,h4,r⟩
 |op es=>cases hl;obtain⟨vs,rfl,r⟩:=h5;exact⟨a,vs,h1,h2,h3,h4,r⟩
 |_=>cases hl
theorem SR.back(s:SR K B σ H ρ G){i:Nat}{z:Sl}{ds es:List D}{a:ae}{ws:List V}(q:ρ[i]?=some z)(hl:Vl.lent z=some ds)(ha:σ[i]?=some (some (.ref a)))
  (e:Ext G (msk H a) G' H') (g:G' a=none) (h:H' a=some (.lst ws)) (r:bH K G' es ws):SR K B σ H' (ρ.set i (mC z es)) G':=by
 have li:i < ρ.length:=(dq.mp q).1;obtain⟨a0,o0,h1,h2,h3,h4,h5⟩:=s.own i z q (xX hl);have ea:a0=a:=by rw[h1]at ha;injection ha with z;injection z with z;injection z
 subst ea;have xQ:∀{j:Nat}{x:Sl},(ρ.set i (mC z es))[j]?=some x->(i=j/\x=mC z es)∨(i≠j/\ρ[j]?=some x):=fun {j x} q=>by
  by_cases e:i=j
  ·subst e;rw[dt li]at q;cases q;exact .inl ⟨rfl,rfl⟩
  ·rw[c8 e]at q;exact .inr ⟨e,q⟩
 refine⟨⟨s.en.gg.trans e.gg,fun b o w=>?_,e.gh,e.tp,fun b o w n=>?_⟩,by simp[s.len],fun j d w=>?_,fun j x w wx=>?_,fun j k x x' c z1 w1 z2 w2 z3 z4=>?_,fun j fs c z1 z2=>?_,fun y m=>?_⟩
 ·have ne:b≠a0:=aR w h4;exact e.hh b o (by rw[rH ne];exact s.en.hh b o w)
 ·have ne:b≠a0:=aR w h4;exact e.nw b o (by rw[rH ne];exact s.en.hh b o w) (s.en.nw b o w n)
 ·rcases xQ w with ⟨_,e1⟩|⟨_,w⟩
  ·have:=Hi (es:=es) hl;rw[<- e1]at this;cases this
  ·obtain⟨v,q1,q2⟩:=s.fz j d w;exact⟨v,q1,q2.mono e.gg⟩
 ·rcases xQ w with ⟨e1,e2⟩|⟨e1,w⟩
  ·subst e1;subst e2;exact⟨a0,_,ha,h,g,h4,Ku hl r⟩
  ·obtain⟨b,o,q1,q2,q3,q4,q5⟩:=s.own j x w wx;have ne:b≠a0:=fun e2=>by subst e2;exact e1 (s.ap i j z x b q (xX hl) w wx ha q1)
   exact⟨b,o,q1,e.hh b o (by rw[rH ne];exact q2),e.nw b o (by rw[rH ne];exact q2) q3,q4,q5.mono e.gg⟩
 ·have old:∀{l:Nat}{y:Sl},(ρ.set i (mC z es))[l]?=some y->y.own=true->∃y',ρ[l]?=some y'/\y'.own=true:=fun {l y} w wy=>by
   rcases xQ w with ⟨e1,e2⟩|⟨e1,w⟩
   ·subst e1;exact⟨z,q,xX hl⟩
   ·exact⟨y,w,wy⟩
  obtain⟨y1,p1,p2⟩:=old z1 w1;obtain⟨y2,p3,p4⟩:=old z2 w2;exact s.ap j k y1 y2 c p1 p2 p3 p4 z3 z4
 ·rcases xQ z1 with ⟨e1,e2⟩|⟨e1,w⟩
  ·subst e1;obtain⟨gs,e3⟩:=Kv hl e2.symm;rw[e3]at q;exact s.tie i gs c q z2
  ·exact s.tie j fs c w z2
 ·have t:=s.co y m;exact e.hh _ _ (by rw[rH (fun z=>by subst z;rw[h2]at t;exact h5.tab _ (dk t))];exact t)
noncomputable def RX(K:ai)(a:ae)(G H:Hp)(Q:VK)(r:Rs (D×List D)):Prop:=match r with
 | .ok (d,es)=>∀v H' G' ws,Ext G (msk H a) G' H'->G' a=none->H' a=some (.lst ws)->bH K G' es ws->Rep K G' d v->Q v H'
 |_=>False
noncomputable def spM(K:ai)(n:Nat)(g:List D->List D->Rs (D×List D)):Sp:=fun vs H Q E=>vs.length=n + 1/\∃a us G ws es ds,vs=.ref a::us/\Ex0 K G H/\G a=none/\H a=some (.lst ws)/\bH K G es ws/\bH K G ds us/\RX K a G H Q (g es ds)
noncomputable def fJ(N:List Str)(es ds:List D):aD:=(.op es::ds.map .fz)++hW (N.length - (ds.length + 1)) .no
noncomputable def Ab:Ou->Rs (D×List D)
 | .rx d (.op es::_)=>.ok (d,es)
 | .nx (.op es::_)=>.ok (.non,es)
 |_=>.no
theorem Zz{N:List Str}{es ds:List D}{ws us:List V}{a:ae}(e:Ex0 K G H)(g:G a=none)(h:H a=some (.lst ws))(r0:bH K G es ws)(r:bH K G ds us) :
  SR K ⟨G,msk H a,a⟩ (L2.start N (.ref a::us)) H (fJ N es ds) G:=by
 have z0:(fJ N es ds)[0]?=some (.op es):=rfl;have agc:∀(i:Nat) (z:Sl),(fJ N es ds)[i]?=some z->z.own=true->i=0:=fun i z q w=>by
  cases i with
  |zero=>rfl
  |succ i =>
   have q':(ds.map Sl.fz++hW (N.length - (ds.length + 1)) .no)[i]?=some z:=q;by_cases hi:i < (ds.map Sl.fz).length
   ·rw[f9 hi,df]at q';cases e1:ds[i]? with
    |none=>rw[e1]at q';cases q'
    |some d=>rw[e1]at q';cases q';cases w
   ·rw[gu (by lia),j5]at q';split at q' <;> cases q';cases w
 refine⟨⟨.refl _,fun b o w=>(Hh w).2,e.gh,e.tp,fun b o w n=>n⟩,?_,fun i d q=>?_,fun i z q w=>?_,fun i j z z' c q1 w1 q2 w2 _ _=>(agc i z q1 w1).trans (agc j z' q2 w2).symm,fun i fs c q1 q2=>?_,e.co⟩
 ·unfold fJ L2.start;simp[r.length]
 ·cases i with
  |zero=>cases (z0.symm.trans q)
  |succ i =>
   have q':(ds.map Sl.fz++hW (N.length - (ds.length + 1)) .no)[i]?=some (.fz d):=q;by_cases hi:i < (ds.map Sl.fz).length
   ·rw[f9 hi,df]at q';cases e1:ds[i]? with
    |none=>rw[e1]at q';cases q'
    |some d' =>
     rw[e1]at q';cases q';obtain⟨v,h1,h2⟩:=r.get e1;refine⟨v,?_,h2⟩;show((us.map some)++hW (N.length - (us.length + 1)) none)[i]?=some (some v);rw[f9 (by rw[b_,<- r.length];simpa using hi),df,h1];rfl
   ·rw[gu (by lia),j5]at q';split at q' <;> cases q'
 ·cases agc i z q w;cases (z0.symm.trans q);exact⟨a,_,rfl,h,g,Hg,ws,rfl,r0⟩
 ·cases agc i _ q1 rfl;have:some (some (V.ref a))=some (some (V.ref c)):=q2;injection this with this;injection this with this;injection this with this;exact this.symm
theorem ZC{o:Ou}{Q:VK}{a:ae}(h:RX K a G H Q (Ab o)):fP K ⟨G,msk H a,a⟩ W G' o { nx:=fun _ H'=>Q .non H',rt:=Q }:=by
 cases o with
 |nx ρ' =>
  cases ρ' with
  |nil=>exact h.elim
  |cons z ρ' =>
   cases z with
   |op es =>
    intro σ' H2 G2 s q;obtain⟨b,vs,h1,h2,h3,h4,h5⟩:=s.lent (i:=0) (z:=.op es) (ds:=es) rfl rfl;have eb:b=a:=s.tie 0 es b rfl h1;subst eb;exact h .non H2 G2 vs s.en h3 h2 h5 (sI.mpr rfl)
   |_=>exact h.elim
 |rx d ρ' =>
  cases ρ' with
  |nil=>exact h.elim
  |cons z ρ' =>
   cases z with
   |op es =>
    intro v σ' H2 G2 s q r;obtain⟨b,vs,h1,h2,h3,h4,h5⟩:=s.lent (i:=0) (z:=.op es) (ds:=es) rfl rfl;have eb:b=a:=s.tie 0 es b rfl h1;subst eb;exact h v H2 G2 vs s.en h3 h2 h5 r
   |_=>exact h.elim
 |_=>exact h.elim
end
noncomputable def Br(P:aE)(w:ay)(K:ai)(mg:Str->Option aa)(base:aw)(x:Str)(k n:Nat)(v:List D->List D->Rs (D×List D)):Prop :=
 ∃f fd ps,nD P w K mg base (wZ P w K) k f fd ps (spM K n v)/\mg x=some (.ref f)/\iF K (.ref f)=true/\Binds K fd ps []
theorem ajq{P:aE}{w:ay}{K:ai}{mg:Str->Option aa}{base:aw}{x:Str}{st:aS}{f:ae}{fd:cz}{N ps:List Str}{k n:Nat}{g:aD->Ou}(F:Fun K x x st f fd)(hm:mg x=some (.ref f))(S:aX N ps (aC st))
  (hbi:∀(kV doc pm:aa) (an:Option ae) (cdv ct:aa) (us:List aa),us.length=ps.length->bindArgs (gx x x (iC st) (cM st) (aC st) .none kV doc pm an cdv ct) ⟨us,[]⟩=pure (ps.zip us))
  (hb:∀(cdv:aa) (A:aT) (outer:List Env) (s:af) (H:Hp) (E:XK) (B:Bs),jP k (A.deeper (kP x (aC st) s.heap.objs.size f cdv)) ->
   uo (tR (wZ P w K) P w K mg base N x (aC st) f cdv A outer s H E) (fun c n _ H'=>E (yX c n) none H') ->
   Ba (tR (wZ P w K) P w K mg base N x (aC st) f cdv A outer s H E) B (fun c n _ H'=>E (yX c n) none H') (cM st) g) (hn:ps.length=n + 1:=by rfl) :
  Br P w K mg base x (k + 1) n (fun es ds=>Ab (g (fJ N es ds))):=by
 refine⟨f,fd,ps,?_,hm,F.kp,F.binds hbi⟩;obtain⟨oc,od,kV,doc,pm,an,cdv,ct,osl,rfl,lk,hcd⟩:=F.ex;refine Wn lk hcd S (fun vs H Q E h=>by rw[hn];exact h.1) fun A outer s H vs Q E hr _ h=>?_;obtain⟨_,a,us,G,ws,es,ds,rfl,e,g1,h1,r0,r,h⟩:=h;dsimp only at h;exact⟨_,hb cdv A outer s H E ⟨G,msk H a,a⟩ hr (Bf yM rfl),fJ N es ds,G,Zz e g1 h1 r0 r,ZC h⟩
noncomputable def spF(K:ai)(n:Nat)(g:List D->Rs (List D)):Sp:=fun vs H Q E=>vs.length=n/\∃G ds,Ex0 K G H/\bH K G ds vs/\(match g ds with
 | .ok es=>∀a ws H' G',Ext G H G' H'->G' a=none->H a=none->H' a=some (.lst ws)->bH K G' es ws->Q (.ref a) H'
 |_=>False)
noncomputable def qg:Ou->Rs (List D)
 | .rl es=>.ok es
 |_=>.no
noncomputable def xY(fs:aD->Rs (List D)):aD->Ou:=fun ρ=>oR (fs ρ) ρ fun ds=>if ds.length<=1000 then .rl ds else .no
section
variable{X:Cx}{K:ai}{B:Bs}{W:Wi}{σ:St}{G H G' H':Hp}{ρ:aD}
theorem qQ{es:List ag}{pos lp:Pos}{f:aD->Rs (List D)}(h:SA X B W es f):SS X B W (.Return (some (.List es lp)) pos) (xY f):=by
 refine PS.imp (KY (Cq h)) fun De σ H ⟨ρ,G,s,p⟩=>⟨ρ,G,s,?_⟩
 unfold xY at p;cases e:f ρ with
 |ok ds =>
  rw[e]at p;have p':fP X.K B W G (if ds.length<=1000 then .rl ds else .no) De:=p;by_cases hl:ds.length<=1000
  ·rw[if_pos hl]at p';intro vs H' G' x r;refine⟨by rw[<- r.length];exact xK hl,fun c hc=>?_⟩;have s':=s.ext x;have y:=yL (xs:=vs) s'.en.gh s'.en.tp hc;exact p' c vs _ G' (s'.en.trans y) x.gg (s'.en.gh.free hc) (s'.en.hh.free hc) aV r
  ·rw[if_neg hl]at p';exact p'.elim
 |ex c n=>rw[e]at p;exact fun H' G' x=>p σ H' G' (s.ext x) x.gg
 |no=>rw[e]at p;exact p
theorem RJ{x:Str}{p pos:Pos}{e:ag}{es:List ag}{t:TA}{f:ae}{fd:cz}{ps:List Str}{k:Nat}{sp:Sp}(F:nD X.prog X.w X.K X.mg X.base (wZ X.prog X.w X.K) k f fd ps sp)(hr:jP k X.A)(hg:Gl X x)(hm:X.mg x=some (.ref f))(hk:iF X.K (.ref f)=true)(hb:Binds X.K fd ps [])
  (ha:PA X (e::es) t) (hdb:wk x:=by decide) (he:a8 (e::es) X.env=(false,a7 e X.env)::a8 es X.env:=by rfl) (hpl:(cE pos (a8 es X.env)).any (·.1)=false:=by rfl) :
  PE X (.Call (.Name x p) (e::es) [] pos) (fun σ H Q=>t σ H fun vs H1=>sp vs H1 Q fun _ _ _=>False):=by
 intro pins s σ H Q I h;refine kK (Am I hg hm ?_ hdb);refine tf (h₀:=X.base) I.ok.mod.Yp hk (nq (ha pos pins s σ H _ I h) fun us s1 ⟨vs,H1,I1,r,q⟩=>⟨I1.xu,?_⟩) he hpl;have hl:(us++[]).length=ps.length:=by rw[fh,<- r.length];exact F.len _ _ _ _ q
 have hbb:=hb s1 us I1.xu hl;rw[fh]at hbb;refine kH (i4 (F.run X.A X.stack s1 H1 ⟨us,[]⟩ us vs Q _ hr I1.env0 hbb r q) fun r s' hq=>?_);cases r with
 |error e=>obtain⟨ea,c,n,H',_,_,_,_,_,_,w⟩:=hq;exact w.elim
 |ok fl =>
  cases fl with
  |ret u=>exact I1.after hq
  |next=>exact dy hq
  |brk=>exact dy hq
  |cont=>exact dy hq
end
noncomputable def lf{α:Type}(r:Rs α)(ρ:aD):Rs (α×aD):=match r with
 | .ok a=>.ok (a,ρ)
 |_=>.no
noncomputable def bx{α β:Type}(r:Rs (α×aD))(k:α->aD->Rs (β×aD)):Rs (β×aD):=match r with
 | .ok (a,ρ)=>k a ρ
 |_=>.no
noncomputable def oX{α:Type}(r:Rs (α×aD))(k:α->aD->Ou):Ou:=match r with
 | .ok (a,ρ)=>k a ρ
 |_=>.no
noncomputable def qJ(K:ai)(B:Bs)(σ:St)(G:Hp)(r:Rs (D×aD))(Q:VK):Prop:=match r with
 | .ok (d,ρ')=>∀v H' G',SR K B σ H' ρ' G'->Same G G'->Rep K G' d v->Q v H'
 |_=>False
noncomputable def nM(K:ai)(B:Bs)(σ:St)(G:Hp)(r:Rs (List D×aD))(Q:List V->Hp->Prop):Prop:=match r with
 | .ok (ds,ρ')=>∀vs H' G',SR K B σ H' ρ' G'->Same G G'->bH K G' ds vs->Q vs H'
 |_=>False
noncomputable def tX(K:ai)(B:Bs)(f:aD->Rs (D×aD)):TE:=fun σ H Q=>∃ρ G,SR K B σ H ρ G/\qJ K B σ G (f ρ) Q
noncomputable def tAX(K:ai)(B:Bs)(f:aD->Rs (List D×aD)):TA:=fun σ H Q=>∃ρ G,SR K B σ H ρ G/\nM K B σ G (f ρ) Q
noncomputable def SX(X:Cx)(B:Bs)(e:ag)(f:aD->Rs (D×aD)):Prop:=PE X e (tX X.K B f)
noncomputable def SAX(X:Cx)(B:Bs)(es:List ag)(f:aD->Rs (List D×aD)):Prop:=PA X es (tAX X.K B f)
noncomputable def xP(f:aD->Rs D):aD->Rs (D×aD):=fun ρ=>lf (f ρ) ρ
noncomputable def uy(f:aD->Rs (List D)):aD->Rs (List D×aD):=fun ρ=>lf (f ρ) ρ
noncomputable def Hj(g:D->D->Rs D)(fa fb:aD->Rs (D×aD)):aD->Rs (D×aD):=fun ρ=>bx (fa ρ) fun x ρ1=>bx (fb ρ1) fun y ρ2=>lf (g x y) ρ2
noncomputable def Bt:aD->Rs (List D×aD):=fun ρ=>.ok ([],ρ)
noncomputable def iz(f:aD->Rs (D×aD))(fs:aD->Rs (List D×aD)):aD->Rs (List D×aD):=fun ρ=>bx (f ρ) fun x ρ1=>bx (fs ρ1) fun xs ρ2=>.ok (x::xs,ρ2)
noncomputable def xA(fs:aD->Rs (List D×aD))(g:List D->Rs D):aD->Rs (D×aD):=fun ρ=>bx (fs ρ) fun ds ρ1=>lf (g ds) ρ1
noncomputable def xM(i n:Nat)(g:List D->List D->Rs (D×List D))(fs:aD->Rs (List D×aD)):aD->Rs (D×aD):=fun ρ=>match ρ[i]? with
 |some z0=>(match lent z0 with
  |some _=>bx (fs ρ) fun ds ρ1=>if ds.length=n then (match ρ1[i]? with
   |some z=>(match lent z with
    |some es=>(match g es ds with
     | .ok (d,es')=>.ok (d,ρ1.set i (mC z es'))
     |_=>.no)
    |none=>.no)
   |none=>.no) else .no
  |none=>.no)
 |none=>.no
section
variable{X:Cx}{K:ai}{B:Bs}{W:Wi}{σ:St}{G H G' H':Hp}{ρ:aD}
theorem qJ.same{r:Rs (D×aD)}{Q:VK}(h:qJ K B σ G r Q)(e:Same G G'):qJ K B σ G' r Q:=by
 cases r with
 |ok p=>obtain⟨d,ρ'⟩:=p;exact fun v H' G'' s q=>h v H' G'' s (e.trans q)
 |_=>exact h
theorem nM.same{r:Rs (List D×aD)}{Q:List V->Hp->Prop}(h:nM K B σ G r Q)(e:Same G G'):nM K B σ G' r Q:=by
 cases r with
 |ok p=>obtain⟨d,ρ'⟩:=p;exact fun v H' G'' s q=>h v H' G'' s (e.trans q)
 |_=>exact h
theorem MJ{r:Rs D}{Q:VK}(s:SR K B σ H ρ G)(p:qJ K B σ G (lf r ρ) Q):Post K W σ G H r Q:=by
 cases r with
 |ok d=>exact fun v H' G' e r=>p v H' G' (s.ext e) e.gg r
 |ex c n=>exact p.elim
 |no=>exact p.elim
theorem ahv{r:Rs (D×aD)}{k:D->aD->Rs (D×aD)}{Q:VK}{Q':VK}(p:qJ K B σ G (bx r k) Q)(h:∀d ρ1 v H1 G1,SR K B σ H1 ρ1 G1->Same G G1->Rep K G1 d v->qJ K B σ G1 (k d ρ1) Q->Q' v H1):qJ K B σ G r Q':=by
 cases r with
 |ok x=>obtain⟨d,ρ1⟩:=x;exact fun v H1 G1 s q r=>h d ρ1 v H1 G1 s q r (qJ.same (show qJ K B σ G (k d ρ1) Q from p) q)
 |ex c n=>exact p.elim
 |no=>exact p.elim
theorem adt{r:Rs (List D×aD)}{k:List D->aD->Rs (D×aD)}{Q:VK}{Q':List V->Hp->Prop}(p:qJ K B σ G (bx r k) Q)(h:∀d ρ1 v H1 G1,SR K B σ H1 ρ1 G1->Same G G1->bH K G1 d v->qJ K B σ G1 (k d ρ1) Q->Q' v H1):nM K B σ G r Q':=by
 cases r with
 |ok x=>obtain⟨d,ρ1⟩:=x;exact fun v H1 G1 s q r=>h d ρ1 v H1 G1 s q r (qJ.same (show qJ K B σ G (k d ρ1) Q from p) q)
 |ex c n=>exact p.elim
 |no=>exact p.elim
theorem agd{r:Rs (List D×aD)}{k:List D->aD->Rs (List D×aD)}{Q:List V->Hp->Prop}{Q':List V->Hp->Prop}(p:nM K B σ G (bx r k) Q)(h:∀d ρ1 v H1 G1,SR K B σ H1 ρ1 G1->Same G G1->bH K G1 d v->nM K B σ G1 (k d ρ1) Q->Q' v H1):nM K B σ G r Q':=by
 cases r with
 |ok x=>obtain⟨d,ρ1⟩:=x;exact fun v H1 G1 s q r=>h d ρ1 v H1 G1 s q r (nM.same (show nM K B σ G (k d ρ1) Q from p) q)
 |ex c n=>exact p.elim
 |no=>exact p.elim
theorem agf{r:Rs (D×aD)}{k:D->aD->Rs (List D×aD)}{Q:List V->Hp->Prop}{Q':VK}(p:nM K B σ G (bx r k) Q)(h:∀d ρ1 v H1 G1,SR K B σ H1 ρ1 G1->Same G G1->Rep K G1 d v->nM K B σ G1 (k d ρ1) Q->Q' v H1):qJ K B σ G r Q':=by
 cases r with
 |ok x=>obtain⟨d,ρ1⟩:=x;exact fun v H1 G1 s q r=>h d ρ1 v H1 G1 s q r (nM.same (show nM K B σ G (k d ρ1) Q from p) q)
 |ex c n=>exact p.elim
 |no=>exact p.elim
theorem aoi{e:ag}{f:aD->Rs D}(h:SE X B W e f):SX X B e (xP f):=PE.imp h fun σ H Q ⟨ρ,G,s,p⟩=>⟨ρ,G,s,MJ s p⟩
theorem alU{es:List ag}{f:aD->Rs (List D)}(h:SA X B W es f):SAX X B es (uy f):=PA.imp h fun σ H Q ⟨ρ,G,s,p⟩=>by
 refine⟨ρ,G,s,?_⟩;unfold uy at p;cases e1:f ρ with
 |ok b=>rw[e1]at p;exact fun vs H' G' y r=>p vs H' G' (s.ext y) y.gg r
 |ex c n=>rw[e1]at p;exact p.elim
 |no=>rw[e1]at p;exact p.elim
theorem Xz{r:R2}{g:D->D->Rs D}{fa fb:aD->Rs (D×aD)}{Q:VK}(ho:Wv K r g)(h:tX K B (Hj g fa fb) σ H Q):tOp r (tX K B fa) (tX K B fb) σ H Q:=by obtain⟨ρ,G,s,p⟩:=h;refine⟨ρ,G,s,ahv (k:=fun x ρ1=>bx (fb ρ1) fun y ρ2=>lf (g x y) ρ2) p fun d ρ1 v H1 G1 s1 q1 r1 p1=>⟨ρ1,G1,s1,ahv (k:=fun y ρ2=>lf (g d y) ρ2) p1 fun d' ρ2 u H2 G2 s2 q2 r2 p2=>?_⟩⟩;exact ho B WF σ ρ2 G2 H2 d d' v u Q s2 (r1.mono q2) r2 (MJ s2 p2)
theorem adu{a b:ag}{op:Operator}{pos:Pos}{r:R2}{g:D->D->Rs D}{fa fb:aD->Rs (D×aD)}(ho:Ak X (fE op) r)(hg:Wv X.K r g)(ha:SX X B a fa)(hb:SX X B b fb):SX X B (.BinOp a op b pos) (Hj g fa fb) :=
 PE.imp (abg ho ha hb) fun _ _ _ h=>Xz hg h
theorem mL:SAX X B [] Bt:=PA.imp kZ fun σ H Q ⟨ρ,G,s,p⟩=>p [] H G s (.refl _) (bI.mpr rfl)
theorem bZ{e:ag}{es:List ag}{fe:aD->Rs (D×aD)}{fs:aD->Rs (List D×aD)}(ha:SX X B e fe)(hr:SAX X B es fs)(hs:a8 (e::es) X.env=(false,a7 e X.env)::a8 es X.env:=by rfl):SAX X B (e::es) (iz fe fs):=by
 refine PA.imp (eZ ha hr hs) fun σ H Q ⟨ρ,G,s,p⟩=>⟨ρ,G,s,agf (k:=fun x ρ1=>bx (fs ρ1) fun xs ρ2=>.ok (x::xs,ρ2)) p fun d ρ1 v H1 G1 s1 q1 r1 p1=>⟨ρ1,G1,s1,agd (k:=fun xs ρ2=>.ok (d::xs,ρ2)) p1 fun ds ρ2 vs H2 G2 s2 q2 r2 p2=>?_⟩⟩
 exact p2 (v::vs) H2 G2 s2 (.refl _) (aW.mpr ⟨v,vs,rfl,r1.mono q2,r2⟩)
theorem adw{t:aD->Rs (List D×aD)}{g:List D->Rs D}{r:List V->Hp->VK->Prop}{Q:VK}(hg:uh K r g)(h:tX K B (xA t g) σ H Q):tAX K B t σ H fun vs H1=>r vs H1 Q:=by obtain⟨ρ,G,s,p⟩:=h;exact⟨ρ,G,s,adt (k:=fun ds ρ1=>lf (g ds) ρ1) p fun ds ρ1 vs H1 G1 s1 q1 r1 p1=>hg B WF σ ρ1 G1 H1 ds vs Q s1 r1 (MJ s1 p1)⟩
theorem ajr:uh K (fun xs H1 Q=>xs.length<=sizeLine/\∀p,H1 p=none->Q (.ref p) (upd H1 p (.tup xs))) iR:=by
 intro B W σ ρ G H ds vs Q s r p;unfold iR at p;by_cases hl:ds.length<=1000
 ·rw[if_pos hl]at p;refine⟨by rw[<- r.length];exact xK hl,fun a ha=>?_⟩;have x:=sO (xs:=vs) s.en.gh s.en.tp ha;exact p _ _ _ x (bV.mpr ⟨a,vs,rfl,.of aV,r.mono x.gg⟩)
 ·rw[if_neg hl]at p;exact p.elim
theorem ajs:uh K (fun xs H1 Q=>xs.length<=sizeLine/\∀p,H1 p=none->Q (.ref p) (upd H1 p (.lst xs))) jY:=by
 intro B W σ ρ G H ds vs Q s r p;unfold jY at p;by_cases hl:ds.length<=1000
 ·rw[if_pos hl]at p;refine⟨by rw[<- r.length];exact xK hl,fun a ha=>?_⟩;have x:=Ez (xs:=vs) s.en.gh s.en.tp ha;exact p _ _ _ x (bO.mpr ⟨a,vs,rfl,.of aV,r.mono x.gg⟩)
 ·rw[if_neg hl]at p;exact p.elim
theorem vG{es:List ag}{x1}{pos:Pos}{f:aD->Rs (List D×aD)}(h:SAX X B es f):SX X B (.Tuple es x1 pos) (xA f iR):=PE.imp (Um h) fun σ H Q q=>adw ajr q
theorem ajt{es:List ag}{pos:Pos}{f:aD->Rs (List D×aD)}(h:SAX X B es f):SX X B (.List es pos) (xA f jY):=PE.imp (Cq h) fun σ H Q q=>adw ajs q
theorem DN{a b:ag}{pos:Pos}{fa fb:aD->Rs (D×aD)}(ha:SX X B a fa)(hb:SX X B b fb)(hs:Ey b:=by intro _ _;rfl):SX X B (.Subscript a b pos) (Hj jB fa fb) :=
 PE.imp (abq Uq ha hb hs) fun _ _ _ h=>Xz abE h
section
variable{x:Str}{p pos:Pos}{e:ag}{es:List ag}{id T:String}{r:List V->Hp->VK->Prop}{g:List D->Rs D}{fs:aD->Rs (List D×aD)}
end
theorem bQ(i:Nat){x y:Str}{p py pos:Pos}{es:List ag}{fs:aD->Rs (List D×aD)}{k n kr:Nat}{g:List D->List D->Rs (D×List D)}(O:Br X.prog X.w X.K X.mg X.base x k n g)(hr:jP kr X.A)(ha:SAX X B es fs)(hN:X.N[i]?=some y:=by rfl)(hv:Ik X.env.scope y:=by first|exact Or.inl rfl|exact Or.inr (Or.inl rfl)|exact Or.inr (Or.inr rfl))(hd:wk y:=by decide)
  (hcd:Qc y:=by decide) (hg:Gl X x:=by rfl) (hdb:wk x:=by decide)
  (he:a8 (.Name y py::es) X.env=(false,a7 (.Name y py) X.env)::a8 es X.env:=by rfl) (hpl:(cE pos (a8 es X.env)).any (·.1)=false:=by rfl) (mW:k<=kr:=by decide):SX X B (.Call (.Name x p) (.Name y py::es) [] pos) (xM i n g fs):=by
 obtain⟨f,fd,ps,F,hm,hk,hb⟩:=O;refine PE.imp (RJ F (hr.mono mW) hg hm hk hb (eZ (nC (pos:=py) hN hv hd hcd) ha he) hdb he hpl) fun σ H Q ⟨ρ,G,s,p⟩=>?_;unfold xM at p;cases q:ρ[i]? with
 |none=>rw[q]at p;exact p.elim
 |some z0 =>
  rw[q]at p;dsimp only at p;cases q1:lent z0 with
  |none=>rw[q1]at p;exact p.elim
  |some es0 =>
   rw[q1]at p;dsimp only at p;obtain⟨a,vs0,h1,h2,h3,h4,h5⟩:=s.lent q q1;refine⟨_,h1,ρ,G,s,adt (k:=fun ds ρ1=>if ds.length=n then (match ρ1[i]? with
    |some z=>(match lent z with
     |some es=>(match g es ds with
      | .ok (d,es')=>.ok (d,ρ1.set i (mC z es'))
      |_=>.no)
     |none=>.no)
    |none=>.no) else .no) p fun ds ρ1 us H1 G1 s1 e1 r1 p1=>?_⟩
   by_cases hl:ds.length=n
   ·rw[if_pos hl]at p1;cases q2:ρ1[i]? with
    |none=>rw[q2]at p1;exact p1.elim
    |some z =>
     rw[q2]at p1;dsimp only at p1;cases q3:lent z with
     |none=>rw[q3]at p1;exact p1.elim
     |some es1 =>
      rw[q3]at p1;dsimp only at p1;obtain⟨b,ws,k1,k2,k3,k4,k5⟩:=s1.lent q2 q3;have eb:b=a:=by rw[h1]at k1;injection k1 with z;injection z with z;injection z with z;exact z.symm
      subst eb;refine⟨by simp[<- r1.length,hl],b,us,G1,ws,es1,ds,rfl,s1.ex0,k3,k2,k5,r1,?_⟩;cases q4:g es1 ds with
      |no=>rw[q4]at p1;exact p1.elim
      |ex c m=>rw[q4]at p1;exact p1.elim
      |ok dz =>
       obtain⟨d,es2⟩:=dz;rw[q4]at p1;exact fun v H' G' ws' y g1 h' r2 r3=>p1 v H' G' (s1.back q2 q3 k1 y g1 h' r2) y.gg r3
   ·rw[if_neg hl]at p1;exact p1.elim
variable{a b:ag}{pos:Pos}{fa fb:aD->Rs (D×aD)}
theorem MK(ha:SX X B a fa)(hb:SX X B b fb):SX X B (.BinOp a .Add b pos) (Hj iT fa fb):=adu WD QB ha hb
theorem adx(ha:SX X B a fa)(hb:SX X B b fb):SX X B (.BinOp a .Sub b pos) (Hj rZ fa fb):=adu abj (Cv fun _ _ _=>bN.mpr rfl) ha hb
noncomputable def ZD(j:Nat)(f:aD->Rs D):aD->Rs D:=fun ρ=>match ρ[j]? with
 |some z=>(match lent z with|some ds=>(f ρ).bind fun k=>jB (.lst ds) k|none=>.no)
 |none=>.no
theorem ady(j:Nat){x:Str}{b:ag}{p1 pos:Pos}{fb:aD->Rs D}(hb:SE X B W b fb)(hN:X.N[j]?=some x:=by rfl)(hv:Ik X.env.scope x:=by first|exact Or.inl rfl|exact Or.inr (Or.inl rfl)|exact Or.inr (Or.inr rfl))(hd:wk x:=by decide)
  (hcd:Qc x:=by decide) (hs:Ey b:=by intro _ _;rfl):SE X B W (.Subscript (.Name x p1) b pos) (ZD j fb):=by
 refine PE.imp (abq Uq (nC (pos:=p1) hN hv hd hcd) hb hs) fun σ H Q ⟨ρ,G,s,p⟩=>?_;unfold ZD at p;cases q:ρ[j]? with
 |none=>rw[q]at p;exact p.elim
 |some z =>
  rw[q]at p;dsimp only at p;cases q1:lent z with
  |none=>rw[q1]at p;exact p.elim
  |some ds =>
   rw[q1]at p;obtain⟨a,vs,h1,h2,h3,h4,h5⟩:=s.lent q q1;refine⟨_,h1,ρ,G,s,?_⟩;refine Post.mono (Post.bind (k:=fun k=>jB (.lst ds) k) p) fun v H1 ⟨G1,d,y,r,p1⟩=>?_;cases d with
   |int i =>
    simp only[jB]at p1;cases e:Uo ds i with
    |none=>rw[e]at p1;exact p1.elim
    |some d =>
     rw[e]at p1;obtain⟨w,e2,rw'⟩:=FW h5 e;exact .inl ⟨a,vs,i,w,rfl,bN.mp r,.of (y.hh _ _ h2),e2,p1 _ H1 G1 (.refl y.gh y.tp) (rw'.mono y.gg)⟩
   |_=>exact p1.elim
end
end Vl
namespace Vl
open PySem PySem.Spec PySem.Calls PySem.W L2 So
noncomputable def xg(f:aD->Rs (D×aD)):aD->Ou:=fun ρ=>oX (f ρ) fun d ρ1=>.rx d ρ1
noncomputable def qj(i:Nat)(f:aD->Rs (D×aD)):aD->Ou:=fun ρ=>oX (f ρ) fun d ρ1=>.nx (ρ1.set i (.fz d))
noncomputable def XC(h:Tg)(gb:aD->Ou)(f:aD->Rs (D×aD)):aD->Ou:=fun ρ=>oX (f ρ) fun d ρ1=>match d with|.int n=>if-(2 ^ 62)<=n/\n < 2 ^ 62 then jA h gb ((b7 n.toNat).map fun(i:Nat)=>.int i) ρ1 else .no|_=>.no
noncomputable def RK(i:Nat)(f:aD->Rs (D×aD)):aD->Ou:=fun ρ=>match ρ[i]? with
 |some (.ow _)=>oX (f ρ) fun d ρ1=>(match ρ1[i]? with
  |some (.ow ds)=>if ds.length < 1000000 then .nx (ρ1.set i (.ow (ds++[d]))) else .no
  |_=>.no)
 |_=>.no
section
variable{X:Cx}{K:ai}{B:Bs}{W:Wi}{σ:St}{G H G' H':Hp}{ρ:aD}{De:Ends}
theorem Bu{r:Rs (D×aD)}{k:D->aD->Ou}{Q:VK}(p:fP K B W G (oX r k) De)(h:∀d ρ1 v H1 G1,SR K B σ H1 ρ1 G1->Same G G1->Rep K G1 d v->fP K B W G1 (k d ρ1) De->Q v H1):qJ K B σ G r Q:=by
 cases r with
 |ok x=>obtain⟨d,ρ1⟩:=x;exact fun v H1 G1 s q r=>h d ρ1 v H1 G1 s q r (fP.same (show fP K B W G (k d ρ1) De from p) q)
 |ex c n=>exact p.elim
 |no=>exact p.elim
theorem nO{e:ag}{pos}{f:aD->Rs (D×aD)}(h:SX X B e f):SS X B W (.Return (some e) pos) (xg f) :=
 PS.imp (KY h) fun De σ H ⟨ρ,G,s,p⟩=>⟨ρ,G,s,Bu (k:=fun d ρ1=>.rx d ρ1) p fun d ρ1 v H1 G1 s1 q1 r1 p1=>p1 v σ H1 G1 s1 (.refl _) r1⟩
theorem kh(i:Nat){x:Str}{e:ag}{pos pos':Pos}{f:aD->Rs (D×aD)}(hN:X.N.Nodup)(he:SX X B e f)(hi:X.N[i]?=some x:=by rfl)(hx:Loc X.env.scope x:=by first|exact Or.inl rfl|exact Or.inr rfl)(hs:dC e (some (.Name x pos')) pos.line X.env=pure false:=by rfl)(hf:X.fn x=true∨X.env.scope.names.lookup x=some .local:=by first|exact .inl rfl|exact .inr rfl|assumption) :
  SS X B W (.Assign [.Name x pos'] e pos) (qj i f) :=
 PS.imp (KZ hN hi hx he hs hf) fun De σ H ⟨ρ,G,s,p⟩=>⟨ρ,G,s,Bu (k:=fun d ρ1=>.nx (ρ1.set i (.fz d))) p fun d ρ1 v H1 G1 s1 q1 r1 p1=>p1 _ H1 G1 (s1.set r1) (.refl _)⟩
theorem agg{tg e:ag}{body:List aS}{pos p1 p2:Pos}{f:aD->Rs (D×aD)}{h:Tg}{gb:aD->Ou}(hp:ls (ar X.prog X.w) X.A X.env X.xe) (hc:X.calm=true) (hm:X.mg "range"=none) (hi:SX X B e f) (hg:SG X B tg h) (hb:Ba X B W body gb)
  (hgl:Gl X "range":=by rfl) (hst:a8 [e] X.env=[(false,a7 e X.env)]:=by rfl)
  (hs:∀x,ir (.Call (.Name "range" p1) [e] [] p2) X.env x=pure x:=by intro _;rfl):SS X B W (.For tg (.Call (.Name "range" p1) [e] [] p2) body [] pos) (XC h gb f):=by
 refine PS.imp (Fx hp hc (Jx hgl hm (eZ hi kZ (by rw[hst];rfl)) hst) hg hb hs) fun De σ H ⟨ρ,G,s,p⟩=>?_;refine⟨ρ,G,s,Bu (k:=fun d ρ1=>match d with|.int n=>if-(2 ^ 62)<=n/\n < 2 ^ 62 then jA h gb ((b7 n.toNat).map fun(i:Nat)=>.int i) ρ1 else .no|_=>.no) p fun d ρ1 v H1 G1 s1 q1 r1 p1=>?_⟩;cases d with
 |int n =>
  dsimp only at p1;by_cases c:-(2 ^ 62)<=n/\n < 2 ^ 62
  ·rw[if_pos c]at p1;refine⟨n,by rw[bN.mp r1],c.1,c.2,Gb s1 ?_⟩;simpa using p1
  ·rw[if_neg c]at p1;exact p1.elim
 |_=>exact p1.elim
theorem agh(i:Nat){x:Str}{e:ag}{pos p1 p2 cp:Pos}{f:aD->Rs (D×aD)}(he:SX X B e f)(hN:X.N[i]?=some x:=by rfl)(hv:Ik X.env.scope x:=by first|exact Or.inl rfl|exact Or.inr (Or.inl rfl)|exact Or.inr (Or.inr rfl))(hd:wk x:=by decide)
  (hcd:Qc x:=by decide) (hst:a8 [e] X.env=[(false,a7 e X.env)]:=by rfl)
  (hbase:iX (.Name x p1) "append" X.env (a7 (.Name x p1) X.env)=a7 (.Name x p1) X.env:=by rfl)
  (hfew:((cE cp (a8 [e] X.env)).all (fun x=>!x.1) && (gy cp (gz [] X.env)).all (fun x=>x.1.isSome)
   && decide (([e]:List ag).length + ([]:List hV).length + (if ([]:List hV).isEmpty then 0 else 1) < 30))=true:=by rfl)
  (hline:(p2.endLine == cp.line)=true:=by rfl) (hplain:(cE cp (a8 [] X.env)).any (·.1)=false:=by rfl)
  (hs:dC (.Call (.Attribute (.Name x p1) "append" p2) [e] [] cp) none pos.line X.env=pure false:=by rfl) :
  SS X B W (.Expr (.Call (.Attribute (.Name x p1) "append" p2) [e] [] cp) pos) (RK i f):=by
 refine PS.imp (Eu (Qo rS PySem.F.slot_list_append PySem.F.type_list_append Cr (nC hN hv hd hcd) (eZ he kZ hst) hbase hfew hline hst hplain) hs) fun De σ H ⟨ρ,G,s,p⟩=>?_;unfold RK at p;cases q:ρ[i]? with
 |none=>rw[q]at p;exact p.elim
 |some z =>
  rw[q]at p;cases z with
  |ow ds0 =>
   obtain⟨a,vs0,e1,h2,h3,h4,h5⟩:=s.ow i ds0 q;refine⟨_,e1,.inl ⟨rfl,vs0,.of h2⟩,ρ,G,s,Bu (k:=fun d ρ1=>(match ρ1[i]? with
    |some (.ow ds)=>if ds.length < 1000000 then .nx (ρ1.set i (.ow (ds++[d]))) else .no
    |_=>.no)) p fun d ρ1 v H1 G1 s1 q1 r1 p1=>?_⟩
   cases e3:ρ1[i]? with
   |none=>rw[e3]at p1;exact p1.elim
   |some z1 =>
    rw[e3]at p1;cases z1 with
    |ow ds =>
     dsimp only at p1;by_cases hc:ds.length < 1000000
     ·rw[if_pos hc]at p1;obtain⟨b,vs,k1,k2,k3,k4,k5⟩:=s1.ow i ds e3;have eb:b=a:=by rw[e1]at k1;injection k1 with z;injection z with z;injection z with z;exact z.symm
      subst eb;exact⟨b,vs,v,rfl,rfl,k2,by rw[<- k5.length];exact dn hc (by rw[e_];decide),p1 σ _ G1 (s1.write e3 e1 (k5.append (.one r1))) (.refl _)⟩
     ·rw[if_neg hc]at p1;exact p1.elim
    |_=>exact p1.elim
  |_=>exact p.elim
end
section
variable{X:Cx}{K:ai}{B:Bs}{W:Wi}{σ:St}{G H G' H':Hp}{ρ:aD}{a b:ag}{pos:Pos}{fa fb:aD->Rs (D×aD)}
section
variable{x:Str}{p1:Pos}{fb:aD->Rs D}(j:Nat)(hu:X.A.units + 8 < b9)(hb:SE X B W b fb)(hN:X.N[j]?=some x)(hv:Ik X.env.scope x)(hd:wk x)(hcd:Qc x)
end
end
end Vl
namespace Vl
open PySem PySem.Spec L2 AutoSeq1
section
variable{X:Cx}{B:Bs}{W:Wi}{K:ai}
end
end Vl
namespace Vl
open PySem PySem.Spec L2
mutual
noncomputable def noL:D->Bool
 | .non=>true
 | .bl _=>true
 | .int _=>true
 | .str _=>true
 | .tup ds=>agi ds
 |_=>false
noncomputable def agi:List D->Bool
 | []=>true
 |d::ds=>noL d && agi ds
end
noncomputable def drp(G:Hp)(a:ae):Hp:=fun b=>if b=a then none else G b
theorem CQ{G:Hp}{a b:ae}(h:b≠a):drp G a b=G b:=if_neg h
theorem adz{G:Hp}{a:ae}:drp G a a=none:=if_pos rfl
section
variable{X:Cx}{B:Bs}{W:Wi}{K:ai}{G H:Hp}{σ:L2.St}{ρ:aD}{a:ae}{vs:List V}
theorem ajv{b:ae}{xs:List V}(h:G a=some (.lst vs))(r:qF K G b xs):qF K (drp G a) b xs:=by
 rcases r with (r|⟨o,r⟩)|r
 ·have:b≠a:=fun z=>by rw[z,h]at r;cases r
  exact .inl (.inl (by rw[CQ this];exact r))
 ·have:b≠a:=fun z=>by rw[z,h]at r;cases r
  exact .inl (.inr ⟨o,by rw[CQ this];exact r⟩)
 ·exact .inr r
mutual
theorem agj(h:G a=some (.lst vs)):∀{d:D}{v:V},noL d=true->Rep K G d v->Rep K (drp G a) d v
 | .non,v,_,r=>sI.mpr (sI.mp r)
 | .bl b,v,_,r=>fG.mpr (fG.mp r)
 | .int i,v,_,r=>bN.mpr (bN.mp r)
 | .str i,v,_,r=>pq.mpr (pq.mp r)
 | .tup ds,v,n,r=>by obtain⟨b,us,e,q,rr⟩:=bV.mp r;exact bV.mpr ⟨b,us,e,ajv h q,RL h (by unfold noL at n;exact n) rr⟩
 | .lst _,v,n,r=>by unfold noL at n;cases n
 | .JG _ _,v,n,r=>by unfold noL at n;cases n
 | .JH _ _,v,n,r=>by unfold noL at n;cases n
 | .fn _,v,n,r=>by unfold noL at n;cases n
 | .obj _ _ _,v,n,r=>by unfold noL at n;cases n
theorem RL(h:G a=some (.lst vs)):∀{ds:List D}{us:List V},agi ds=true->bH K G ds us->bH K (drp G a) ds us
 | [],us,_,r=>bI.mpr (bI.mp r)
 |d::ds,us,n,r=>by obtain⟨v,ws,e,r1,r2⟩:=aW.mp r;unfold agi at n;have n:=fN _ _▸n;exact aW.mpr ⟨v,ws,e,agj h n.1 r1,RL h n.2 r2⟩
end
theorem SR.lend(h:SR K B σ H ρ G){i:Nat}{ds:List D}(q:ρ[i]?=some (.ow ds)):∃a vs,H a=some (.lst vs)/\G a=none/\SR K B σ H (ρ.set i (.fz (.lst ds))) (upd G a (.lst vs)):=by
  obtain⟨a,vs,e1,h2,h3,h4,h5⟩:=h.ow i ds q;have hl:i < ρ.length:=(dq.mp q).1;have gg:Same G (upd G a (.lst vs)):=fun b o z=>by rw[aQ (aR z h3)];exact z
  refine⟨a,vs,h2,h3,⟨h.en.gg.trans gg,h.en.hh,fun b o z=>?_,fun b xs z=>?_,fun b o z w=>?_⟩,by simp[h.len],fun j d z=>?_,fun j fs z wz=>?_,fun j k fs gs c z1 w1 z2 w2 z3 z4=>?_,fun j es c z1 z2=>?_,h.co⟩
  ·by_cases w:b=a
   ·subst w;rw[aV]at z;cases z;exact h2
   ·rw[aQ w]at z;exact h.en.gh b o z
  ·by_cases w:b=a
   ·subst w;rw[h2]at z;cases z
   ·rw[aQ w];exact h.en.tp b xs z
  ·rw[aQ (aR z h4)];exact h.en.nw b o z w
  ·by_cases e:i=j
   ·subst e;rw[dt hl]at z;cases z;exact⟨_,e1,bO.mpr ⟨a,vs,rfl,.of aV,h5.mono gg⟩⟩
   ·rw[c8 e]at z;obtain⟨v,w1,w2⟩:=h.fz j d z;exact⟨v,w1,w2.mono gg⟩
  ·by_cases e:i=j
   ·subst e;rw[dt hl]at z;cases z;cases wz
   ·rw[c8 e]at z;obtain⟨b,us,w1,w2,w3,w4,w5⟩:=h.own j fs z wz;have hne:b≠a:=fun w=>by subst w;exact e (h.ap i j _ fs b q rfl z wz e1 w1)
    exact⟨b,us,w1,w2,by rw[aQ hne];exact w3,w4,w5.mono gg⟩
  ·have nj:i≠j:=fun e=>by subst e;rw[dt hl]at z1;cases z1;cases w1
   have nk:i≠k:=fun e=>by subst e;rw[dt hl]at z2;cases z2;cases w2
   rw[c8 nj]at z1;rw[c8 nk]at z2;exact h.ap j k fs gs c z1 w1 z2 w2 z3 z4
  ·have nj:i≠j:=fun e=>by subst e;rw[dt hl]at z1;cases z1
   rw[c8 nj]at z1;exact h.tie j es c z1 z2
theorem XD{G2 H2:Hp}(h2:H a=some (.lst vs))(h3:G a=none)(x:Ext (upd G a (.lst vs)) H G2 H2):Ext G H (drp G2 a) H2:=by
 refine⟨fun b o z=>?_,x.hh,fun b o z=>?_,fun c xs z=>?_,fun b o z w=>?_⟩
 ·have ne:=aR z h3;rw[CQ ne];exact x.gg b o (by rw[aQ ne];exact z)
 ·by_cases e:b=a
  ·rw[e,adz]at z;cases z
  ·rw[CQ e]at z;exact x.gh b o z
 ·have ne:c≠a:=fun e=>by rw[e,x.hh a _ h2]at z;cases z
  rw[CQ ne];exact x.tp c xs z
 ·by_cases e:b=a
  ·rw[e];exact adz
  ·rw[CQ e];exact x.nw b o z (by rw[aQ e];exact w)
noncomputable def Hl(i:Nat)(f:aD->Rs Bool):aD->Rs Bool:=fun ρ=>match ρ[i]? with
 |some (.ow ds)=>f (ρ.set i (.fz (.lst ds)))
 |_=>.no
theorem agk(i:Nat){e:ag}{f:aD->Rs Bool}(h:ST X B W e f):ST X B W e (Hl i f):=by
 intro pins s σ H Q I ⟨ρ,G,r,p⟩;unfold Hl at p;cases q:ρ[i]? with
 |none=>rw[q]at p;exact p.elim
 |some z =>
  rw[q]at p;cases z with
  |ow ds =>
   obtain⟨a,vs,h2,h3,r'⟩:=r.lend q;refine h pins s σ H Q I ⟨_,_,r',?_⟩;dsimp only at p;cases e2:f (ρ.set i (.fz (.lst ds))) with
   |ok d=>rw[e2]at p;exact fun H' G' x=>p H' (drp G' a) (XD h2 h3 x)
   |ex c n=>rw[e2]at p;exact fun H' G' x=>p H' (drp G' a) (XD h2 h3 x)
   |no=>rw[e2]at p;exact p.elim
  |_=>exact p.elim
end
end Vl
namespace Vl
open PySem PySem.Spec PySem.Calls PySem.W L2
section
variable{X:Cx}{B:Bs}{a b:ag}{pos:Pos}{fa fb:aD->Rs (D×aD)}
theorem agl(ha:SX X B a fa)(hb:SX X B b fb):SX X B (.BinOp a .Add b pos) (Hj Xq fa fb):=adu (aeO.or adi) adk ha hb
end
section
variable{ρ ρ1:aD}{d x y z:D}{f fa fb:aD->Rs D}{g k a b:aD->Ou}{r:Ou}{ds:List D}{fs:aD->Rs (List D)}{c c1 c2:aD->Rs Bool}{t u:Bool}{i j:Nat}{α β:Type}{e:Str}{n:Int}
theorem ahy{a:α}{k:α->Rs β}:Rs.bind (.ok a) k=k a:=rfl
theorem Ho{m n:Int}(h:-(2 ^ 64) < n/\n < 2 ^ 64):wY (.int m) (.int n)=.ok (.int (m * n)):=ahg (.inr h)
theorem ajw{m n:Int}(h:-(2 ^ 64) < m/\m < 2 ^ 64):wY (.int m) (.int n)=.ok (.int (m * n)):=ahg (.inl h)
theorem alV{m:Int}:jB (.tup ds) (.int m)=match Uo ds m with|some d=>.ok d|none=>.no:=rfl
theorem Hq:vh [.lst ds]=.ok (.int ds.length):=rfl
theorem MN:vh [.tup ds]=.ok (.int ds.length):=rfl
theorem ajx:FZ [.lst ds]=.ok (.tup ds):=rfl
end
section
open So Tb
theorem rz{α:Type}{h:Tg}{fe:aD->Rs D}(P:aD->Prop)(yX:α->D)(F:α->D):∀{xs:List α}{ρ:aD},P ρ->(∀x∈xs,∀ρ,P ρ->∃ρ1,h (yX x) ρ=some ρ1/\fe ρ1=.ok (F x)/\P ρ1)->jr h (fun _=>.ok true) fe (xs.map yX) ρ=.ok (xs.map F)
 | [],ρ,p,_=>rfl
 |x::xs,ρ,p,st=>by obtain⟨ρ1,e1,e2,p2⟩:=st x (by simp) ρ p;have e:=rz (xs:=xs) P yX F p2 fun d' hd=>st d' (by simp[hd]);simp only[c6,jr,e1,Rs.bind,e2,e,if_true]
theorem agm{acc:LL}{k x:List Int}:x∈ins acc k↔x=k∨x∈acc:=by
 unfold ins;split
 ·rename_i h;constructor
  ·exact .inr
  ·rintro(rfl|h')
   ·exact h
   ·exact h'
 ·exact bq
theorem Hr{l:LL}{x:List Int}:x∈cZ l↔x∈l:=by
 unfold cZ;have:∀(l acc:LL),x∈l.foldl ins acc↔x∈l∨x∈acc:=by
  intro l
  induction l with
  |nil=>intro acc;simp
  |cons a l ih =>
   intro acc;rw[j9,ih,agm,bq];constructor
   ·rintro(h|h|h)
    ·exact .inl (.inr h)
    ·exact .inl (.inl h)
    ·exact .inr h
   ·rintro((h|h)|h)
    ·exact .inr (.inl h)
    ·exact .inl h
    ·exact .inr (.inr h)
 simpa using this l []
theorem ZF{l:LL}{x:List Int}:x∈nJ l↔x∈l:=(oY l).mem_iff
theorem ZG(l:LL):(nJ l).length=l.length:=(oY l).length_eq
noncomputable abbrev rise(l:LL):LL:=nJ (cZ l)
theorem adA{l:LL}{x:List Int}:x∈rise l↔x∈l:=ZF.trans Hr
theorem adB(l:LL):(rise l).length<=l.length:=by unfold rise;rw[ZG];exact zX l
theorem agn{f:aD->Rs D}{ρ:aD}{bM:LL}(h:f ρ=.ok (.lst (bM.map dF)))(hl:bM.length < 4900)(hne:∀ks∈bM,ks≠[]):GQ (fK f) ρ=.ok (.lst ((rise bM).map dF)):=by unfold GQ fK;rw[h];simp only[ahy,Ms,Zi];rw[if_pos (j7 (Tb.zX _) hl)];simp only[ahy,Mt];rw[if_pos ⟨fun ks hk=>hne ks (Hr.mp hk),j7 (zX bM) hl⟩]
noncomputable def alW(ks:List Int):Prop:=∃a b,ks=[a,b]
theorem Hs{α:Type}(xs:List α):QJ [.lst (xs.map fun _=>.bl true)]=.ok (.bl true):=by
 have h:∀xs:List α,Ge (xs.map fun _=>D.bl true)=some (xs.map fun _=>true):=fun xs=>by
  induction xs with
  |nil=>rfl
  |cons x xs ih=>simp only[c6,Ge,ih];rfl
 simp only[QJ,h];have:(xs.map fun _=>true).all id=true:=by simp
 rw[this]
end
end Vl
namespace Vl
open PySem PySem.Spec PySem.Calls PySem.W L2 So
section
variable{ρ ρ1 ρ2:aD}{d x y z:D}{f fa fb:aD->Rs D}{xa xb:aD->Rs (D×aD)}{g k a b:aD->Ou}{r:Ou}{ds:List D}{fs:aD->Rs (List D)}{xs:aD->Rs (List D×aD)}{c c1 c2:aD->Rs (Bool×aD)}{t u:Bool}{i j:Nat}
theorem kY(h:f ρ=.ok d):xP f ρ=.ok (d,ρ):=by unfold xP;rw[h];rfl
theorem uz(h:fs ρ=.ok ds):uy fs ρ=.ok (ds,ρ):=by unfold uy;rw[h];rfl
theorem pN{o:D->D->Rs D}(h1:xa ρ=.ok (x,ρ1))(h2:xb ρ1=.ok (y,ρ2))(h3:o x y=.ok z):Hj o xa xb ρ=.ok (z,ρ2):=by unfold Hj;rw[h1];show bx (xb ρ1) _=_;rw[h2];show lf (o x y) ρ2=_;rw[h3];rfl
theorem qm:Bt ρ=.ok ([],ρ):=rfl
theorem cN(h1:xa ρ=.ok (x,ρ1))(h2:xs ρ1=.ok (ds,ρ2)):iz xa xs ρ=.ok (x::ds,ρ2):=by unfold iz;rw[h1];show bx (xs ρ1) _=_;rw[h2];rfl
theorem Iz{o:List D->Rs D}(h1:xs ρ=.ok (ds,ρ1))(h2:o ds=.ok d):xA xs o ρ=.ok (d,ρ1):=by unfold xA;rw[h1];show lf (o ds) ρ1=_;rw[h2];rfl
theorem Ac{n:Nat}{w:List D->List D->Rs (D×List D)}{z0 z1:Sl}{e0 es es':List D}(h0:ρ[i]?=some z0)(l0:lent z0=some e0)(h1:xs ρ=.ok (ds,ρ1))(hn:ds.length=n)(h2:ρ1[i]?=some z1)(l1:lent z1=some es)(h3:w es ds=.ok (d,es')):xM i n w xs ρ=.ok (d,ρ1.set i (mC z1 es')):=by unfold xM;rw[h0];dsimp only;rw[l0];dsimp only;rw[h1];show(if ds.length=n then _ else _)=_;rw[if_pos hn,h2];dsimp only;rw[l1];dsimp only;rw[h3]
theorem ago(h:xa ρ=.ok (d,ρ1)):qj i xa ρ=.nx (ρ1.set i (.fz d)):=by unfold qj;rw[h];rfl
theorem gJ(h:xa ρ=.ok (d,ρ1))(e:ρ1.set i (.fz d)=ρ2):qj i xa ρ=.nx ρ2:=by rw[<- e];exact ago h
theorem jq(h:xa ρ=.ok (d,ρ1)):xg xa ρ=.rx d ρ1:=by unfold xg;rw[h];rfl
theorem adC{h:Tg}{n:Int}{N:Nat}(h1:xa ρ=.ok (.int n,ρ1))(hb:n < 2 ^ 62)(hN:n=(N:Int))(h2:jA h g ((b7 N).map fun(i:Nat)=>.int i) ρ1=r):XC h g xa ρ=r:=by
 have hc:-(2 ^ 62)<=n/\n < 2 ^ 62:=⟨by subst hN;lia,hb⟩
 unfold XC;rw[h1];simp only[oX];rw[if_pos hc,hN,kQ];exact h2
theorem vH{ρ2:aD}(h:g ρ=.rx d ρ2):bR g k ρ=.rx d ρ2:=by unfold bR;rw[h];rfl
theorem ahz{z0:Sl}{es:List D}(h0:ρ[j]?=some z0)(l0:lent z0=some es)(hb:fb ρ=.ok y)(h:jB (.lst es) y=.ok d):ZD j fb ρ=.ok d:=by unfold ZD;rw[h0];dsimp only;rw[l0];dsimp only;rw[hb];exact h
end
end Vl
namespace Vl
open PySem PySem.Spec PySem.Calls PySem.W L2
noncomputable abbrev KL:=LL
theorem t2(a b:D):iR [a,b]=.ok (.tup [a,b]):=dZ (by simp)
noncomputable def GK(kvs:List (List Int×D)):Prop:=∀x∈kvs.map (·.1),alW x
structure GN (kvs:List (List Int×D)):Prop where
 pr:GK kvs
 nd:(kvs.map (·.1)).Nodup
theorem abr(p:List Int)(i:Int)(j:Nat)(hi:i=j)(hj:j < p.length):jB (dF p) (.int i)=.ok (.int (p.getD j 0)):=by subst hi;show jB (.tup (p.map D.int)) (.int j)=_;rw[alV];unfold Uo Qm;rw[if_pos (by lia),if_pos (by rw[b_];lia)];simp only[kQ,Option.bind_some,df,di hj,nN,gE,nS]
section
variable{X:Cx}{K:ai}{B:Bs}{W:Wi}{σ:St}{G H:Hp}{ρ:aD}
section
variable{a b:ag}{pos:Pos}{fa fb:aD->Rs D}
end
end
end Vl
namespace L2
open PySem PySem.Spec PyProof.Rows
section
variable{X:Cx}{tg:ag}
end
end L2
namespace Vl
open PySem PySem.Spec L2
section
variable{X:Cx}{B:Bs}{W:Wi}{tg:ag}
end
end Vl
namespace Vl
open PySem PySem.Spec PySem.Calls PySem.W L2
section
variable{X:Cx}{pins:List (ae×Obj)}{σ:St}{H:Hp}{s:af}
end
section
variable{X:Cx}{pins:List (ae×Obj)}{σ:St}
noncomputable def alX(vs:Array aa)(c:Nat):Obj:={ cls:=.type "list",dict:=none,data:=.seq vs c,slots:=#[] }
end
section
variable{X:Cx}{pins:List (ae×Obj)}{σ:St}
end
section
variable{X:Cx}{pins:List (ae×Obj)}{σ:St}{H:Hp}{s:af}
structure Made (X:Cx)(pins:List (ae×Obj))(σ:St)(H:Hp)(P:ae)(q:Str)(params:Arguments)(body:ag)(sc:Scope)(f c':ae)(pm ctv:aa)(H':Hp)(s':af):Prop where
 inv:Inv X pins σ H' s'
 hs:H'=H∨∃a,H a=none/\H'=upd H a (.cod q)
 cod:H' c'=some (.cod q)
 obj:s'.heap.get? f=some (kla_obj "<lambda>" q params body sc (qe sc X.env) pm c' ctv)
 fn:H' f=none
 ff:f∉Al X.stack
end
section
variable{X:Cx}{B:Bs}{W:Wi}{K:ai}
end
end Vl
namespace Dk
open PySem PySem.Spec
section
variable{prog:aE}{w:ay}{A:aT}{E:aa->af->Prop}{s:af}{es:Array nc}{ep:Nat}{D:ae}
end
end Dk
namespace Vl
open PySem PySem.Spec PySem.Calls PySem.W L2
section
variable{X:Cx}{B:Bs}{W:Wi}{K:ai}
end
structure aqE (K:ai)(x:Str)(st:aS)(f:ae)(fd:cz)(c P:ae)(q:Str):Prop where
 ex:∃(oc:aa) (od:Option ae) (kV doc pm:aa) (an:Option ae) (ct:aa) (osl:Array (Option aa)),
  fd=gx x x (iC st) (cM st) (aC st) .none kV doc pm an (.ref c) ct/\K.lookup f=some ⟨oc,od,.func fd,osl⟩/\nz K (.ref c) x=true
 kp:iF K (.ref f)=true
 hd:codeHdIn K c P=true
 mem:(P,q)∈air K
section
variable{P:aE}{w:ay}{K:ai}{mg:Str->Option aa}{base:aw}
end
end Vl
namespace Vl
open PySem PySem.Spec L2 So Tb
noncomputable def alY(t:Int)(ks:List Int):List Int :=
 let r:=ks.getD 0 0;let c:=ks.getD 1 0
 if t=0 then [r,c] else if t=1 then [c,-r] else if t=2 then [-r,-c] else if t=3 then [-c,r] else if t=4 then [r,-c] else if t=5 then [-c,-r] else if t=6 then [-r,c] else [c,r]
noncomputable def turned(t:Int)(l:LL):LL:=nJ (l.map (alY t))
end Vl
namespace Vl
open PySem PySem.Spec PySem.Calls PySem.W L2 So Tb
noncomputable abbrev c0(a:List Int):Int:=a.getD 0 0
noncomputable abbrev c1(a:List Int):Int:=a.getD 1 0
noncomputable def ltP(a b:List Int):Prop:=c0 a < c0 b∨(c0 a=c0 b/\c1 a < c1 b)
structure zY (L:KL):Prop where
 pr:∀x∈L,alW x
 pw:L.Pairwise ltP
noncomputable def go(st c:List Int)(j:Nat):List Int:=[c0 c + j * c0 st,c1 c + j * c1 st]
noncomputable def Up(st:List Int):Prop:=ltP [0,0] st
end Vl
namespace Vl
open PySem PySem.Spec PySem.Calls PySem.W L2
end Vl
namespace L2
open PySem PySem.Spec PyProof.Rows Vl
section
variable{X:Cx}{tg:ag}
end
end L2
namespace Vl
open PySem PySem.Spec L2 So Tb
section
variable{X:Cx}{B:Bs}{W:Wi}{tg:ag}{K:ai}
end
end Vl
namespace Vl
open PySem PySem.Spec PySem.Calls PySem.W L2 So
structure Km (kvs:List (List Int×D))(n:Nat)(M:List Int->Prop):Prop where
 gn:GN kvs
 le:kvs.length<=n
 iff:∀k,k∈kvs.map (·.1)↔M k
end Vl
namespace Vl
open PySem PySem.Spec PySem.Calls PySem.W L2
noncomputable def scB(N P:List Str)(sc:Scope):Bool:=decide (sc.kind=.function) && !sc.isCoroutine && !sc.isGenerator && decide N.Nodup && decide (N.take P.length=P) && P.all (fun x=>sc.names.lookup x == some .local || sc.names.lookup x == some .cell) && sc.names.all (fun y=>y.2 != .free)
theorem scp{N P:List Str}{sc:Scope}(h:scB N P sc=true):aX N P sc:=by unfold scB at h;simp only[fN,decide_eq_true_eq,uC,bne_iff_ne,uS,beq_iff_eq,ne_eq,Bool.not_eq_true']at h;obtain⟨⟨⟨⟨⟨⟨h1,h2⟩,h3⟩,h4⟩,h5⟩,h6⟩,h7⟩:=h;exact⟨h1,h2,h3,h4,h5,h6,h7⟩
section
variable{P:aE}{w:ay}{K:c9}{mg:Str->Option aa}{base:aw}{x:Str}{st:aS}{N ps:List Str}{k n:Nat}{g:aD->Ou}
noncomputable abbrev lM(K:c9)(mg:Str->Option aa)(x:Str)(st:aS):Prop:=∃f fd,Fun K x x st f fd/\mg x=some (.ref f)
noncomputable def Dn(K:c9)(x:Str)(st:aS):Prop:=∃(f:ae) (oc:aa) (od:Option ae) (sl:Array (Option aa)) (kV dc pm:aa) (an:Option ae) (cd ct:aa),
 bz K bb x=some (some (.ref f))/\K.lookup f=some ⟨oc,od,.func (kv x x (iC st) (cM st) (aC st) .none kV dc pm an cd ct),sl⟩/\codeIn K cd x=true/\du K (.ref f)=true
theorem Dn.ent{h:aw}(a:Dn K x st)(X:K.In h)(G:h.Ns bb mg):lM K mg x st:=by obtain⟨f,oc,od,sl,kV,dc,pm,an,cd,ct,a,l,d,k⟩:=a;exact⟨f,_,abu (st:=st) l d k,ip X G a⟩
noncomputable abbrev Hb(P:aE)(w:ay)(K:c9)(mg:Str->Option aa)(base:aw)(N:List Str)(x:Str)(st:aS)(k:Nat)(g:aD->Ou):Prop :=
 ∀(f:ae) (cdv:aa) (A:aT) (outer:List Env) (s:af) (H:Hp) (E:XK) (B:Bs),jP k (A.deeper (kP x (aC st) s.heap.objs.size f cdv)) ->
  uo (tR (wZ P w K) P w K mg base N x (aC st) f cdv A outer s H E) (fun c n _ H'=>E (yX c n) none H') ->
  Ba (tR (wZ P w K) P w K mg base N x (aC st) f cdv A outer s H E) B (fun c n _ H'=>E (yX c n) none H') (cM st) g
noncomputable abbrev Bi(x:Str)(st:aS)(ps:List Str):Prop:=∀(kV doc pm:aa) (an:Option ae) (cdv ct:aa) (us:List aa),us.length=ps.length->bindArgs (kv x x (iC st) (cM st) (aC st) .none kV doc pm an cdv ct) ⟨us,[]⟩=pure (ps.zip us)
theorem wC(F:lM K mg x st)(S:aX N ps (aC st))(hb:Hb P w K mg base N x st k g)(hbi:Bi x st ps:=by intro _ _ _ _ _ _ us hl;rcases us with _|⟨_,_|⟨_,_|⟨_,_|⟨_,_|⟨_,us⟩⟩⟩⟩⟩ <;> first|rfl|(simp only[bu,c7]at hl;lia)) :
  qd P w K mg base x (k + 1) ps.length (fun ds=>jk (g (aP N ds))):=let ⟨f,_,F,hm⟩:=F;aiR F hm S hbi (hb f)
theorem Ht(F:lM K mg x st)(S:aX N ps (aC st))(hb:Hb P w K mg base N x st k g)(hbi:Bi x st ps:=by intro _ _ _ _ _ _ us hl;rcases us with _|⟨_,_|⟨_,_|⟨_,_|⟨_,_|⟨_,us⟩⟩⟩⟩⟩ <;> first|rfl|(simp only[bu,c7]at hl;lia))(hn:ps.length=n + 1:=by rfl) :
  Br P w K mg base x (k + 1) n (fun es ds=>Ab (g (fJ N es ds))):=let ⟨f,_,F,hm⟩:=F;ajq F hm S hbi (hb f) hn
end
theorem Dn.mk{K:c9}{x:Str}{st:aS}{f:ae}{oc:aa}{od:Option ae}{sl:Array (Option aa)}{kV dc pm:aa}{an:Option ae}{cd ct:aa}(a:bz K bb x=some (some (.ref f)))(b:K.lookup f=some ⟨oc,od,.func (kv x x (iC st) (cM st) (aC st) .none kV dc pm an cd ct),sl⟩)(c:codeIn K cd x=true)(d:du K (.ref f)=true):Dn K x st:=⟨f,oc,od,sl,kV,dc,pm,an,cd,ct,a,b,c,d⟩
end Vl
namespace Vl
open PySem PySem.Spec L2 So Tb
section
variable{X:Cx}{B:Bs}{W:Wi}{K:ai}
noncomputable def asS:D->Rs (List D)
 | .lst ds=>.ok ds
 | .tup ds=>.ok ds
 |_=>.no
theorem ajy{tg iter:ag}{f:aD->Rs D}(hi:SE X B W iter f):SI X B W tg iter (fL f asS):=fun pins s σ H R I h=>by
 obtain⟨ρ,G,sr,p⟩:=h;have key:fL f asS ρ=fL f asL ρ∨fL f asS ρ=fL f asT ρ:=by
  unfold fL;cases f ρ with
  |ok d=>cases d <;> first|exact .inl rfl|exact .inr rfl
  |_=>exact .inl rfl
 rcases key with e|e
 ·rw[e]at p;exact Bg hi pins s σ H R I ⟨ρ,G,sr,p⟩
 ·rw[e]at p;exact aiQ hi pins s σ H R I ⟨ρ,G,sr,p⟩
end
end Vl
namespace Vl
open PySem PySem.Spec PySem.Calls PySem.W L2
section
variable{prog:aE}{w:ay}{A:aT}{E:aa->af->Prop}{h:aw}{g:Array kB}{d:Drawn}{t:Nat}{os:OsState}
variable{nm q:Str}{C N:ae}{bs bm bmB:List aa}{hdct:Bool}{sn:List Str}{sub:List aa}{ab:Bool}{col:Option Bool}{dd:Option ae}{k0 k1 k2 k3 k5:Option aa}{Bb Bn newId nid initId inN:String}{bmN:List aa}
noncomputable def aok(C M:ae):List aa:=[.ref C,.ref M,.type "ValueError",.type "Exception",.type "BaseException",.type "object"]
structure Xik (K:c9)(C M:ae)(nm:Str):Prop where
 cls:∃cd,clsIn K C=some cd/\cd.mro=aok C M/\cd.hasDict=true
 ob:mroIn K C (.type "object")=some true
 be:mroIn K C (.type "BaseException")=some true
 sa:b6 K (.ref C) "__setattr__"=some (some (.builtin "object.__setattr__"))
 no:b6 K (.ref C) nm=some none
 ga:b6 K (.ref C) "__getattribute__"=some (some (.builtin "BaseException.__getattribute__"))
 gh:b6 K (.ref C) "__getattr__"=some none
end
section
variable{X:Cx}{pins:List (ae×Obj)}{σ:St}{H:Hp}{s:af}
end
section
variable{X:Cx}{pins:List (ae×Obj)}{σ:St}{H:Hp}{s:af}
end
section
variable{P:aE}{w:ay}{K:ai}{mg:Str->Option aa}{base:aw}
end
section
variable{X:Cx}{B:Bs}{W:Wi}{pins:List (ae×Obj)}{σ:St}{H:Hp}{s:af}{C f:ae}{fd:cz}{a:Str}{newId:String}
end
section
variable{M:Model}{A:aT}{E:aa->af->Prop}{env:Env}
variable{nm q:Str}{C N:ae}{bs bm:List aa}{hdct:Bool}{sn:List Str}{sub:List aa}{ab:Bool}{col:Option Bool}{dd:Option ae}{k0 k1 k2 k3 k5:Option aa}{newId:String}
end
section
variable{X:Cx}{B:Bs}{W:Wi}{C f:ae}{fd:cz}{a:Str}
end
section
variable{X:Cx}{B:Bs}{W:Wi}
end
section
variable{P:aE}{w:ay}{K:c9}{mg:Str->Option aa}{base:aw}{x:Str}{st:aS}{N ps:List Str}{k n:Nat}{g:aD->Ou}
end
end Vl
namespace Vl
open PySem PySem.Spec L2
section
variable{X:Cx}{B:Bs}{W:Wi}
end
end Vl
namespace Vl
open PySem PySem.Spec PySem.Calls PySem.W L2
structure apn (K:c9)(x:Str)(st:aS)(f:ae)(fd:cz)(ps:List Str)(b:Bool)(kn:Str):Prop extends aoe K x st f fd ps where
 bd:Binds K fd ps [.bool b]
 bk:∀(s:af) (us:List aa) (z:aa),K.In s.heap->us.length + 1=ps.length->i0 s fd ⟨us,[(kn,z)]⟩ (ps.zip (us++[z]))
section
variable{X:Cx}{B:Bs}{W:Wi}
end
end Vl
namespace L2
open PySem PySem.Spec PyProof.Rows AutoSeq1
section
variable{X:Cx}
end
end L2
namespace Vl
open PySem PySem.Spec L2
section
variable{X:Cx}{B:Bs}{W:Wi}{K:ai}{G:Hp}
end
end Vl
namespace Vl
open PySem PySem.Spec PySem.Calls PySem.W L2
noncomputable def jl(K:c9)(C:ae):Bool :=
 plainGet K C Str.empty && (hasDictIn K C && (plainOver K C && (b6 K (.ref C) "__setattr__" == some (some (.builtin "object.__setattr__")) && (b6 K (.ref C) "__class__" == some (some (.builtin "object.__class__")) &&
  (specialIn K (.builtin "object.__class__") "__get__" == some (some (.builtin "getset_descriptor.__get__")) && (takesIn K (.builtin "object.__class__") == some true && mroIn K C (.type "object") == some true))))))
theorem xZ{K:c9}{C:ae}(h:jl K C=true):Cls K C:=by simp only[jl,fN,beq_iff_eq]at h;exact⟨h.1,h.2.1,h.2.2.1,h.2.2.2.1⟩
theorem adD{K:c9}{C x:ae}{ox od:Obj}(h:jl K C=true):KitX K (.ref x) (.ref C) (fun h=>InstAt h x ox C (some od)):=by simp only[jl,fN,beq_iff_eq]at h;exact kitx_own h.1 h.2.1 h.2.2.2.2.1 h.2.2.2.2.2.1 h.2.2.2.2.2.2.1 h.2.2.2.2.2.2.2
section
variable{X:Cx}{B:Bs}{W:Wi}
noncomputable def ni(m:Str->Bool)(f:Str):D->Rs D
 | .obj c ns ds=>if m c=true then (match (ns.zip ds).lookup f with|some d=>.ok d|none=>.no) else .no
 |_=>.no
theorem wD{K:c9}{G:Hp}{f:Str}:∀{ns:List Str}{ds:List D}{us:List V}{d:D},bH K G ds us->(ns.zip ds).lookup f=some d->∃v,(ns.zip us).lookup f=some v/\Rep K G d v
 | [],ds,us,d,r,h=>by rw[List.zip_nil_left]at h;cases h
 |n::ns,[],us,d,r,h=>by rw[List.zip_nil_right]at h;cases h
 |n::ns,x::ds,us,d,r,h=>by
  obtain⟨u,us',rfl,r1,r2⟩:=aW.mp r;rw[oy,fI]at h;rw[oy,fI];cases e:f == n with
  |true=>rw[e]at h;cases h;exact⟨u,rfl,r1⟩
  |false=>rw[e]at h;exact wD r2 h
theorem iH{m:Str->Bool}{f:Str}{e:ag}{pos:Pos}{fe:aD->Rs D}(hm:∀c C,m c=true->bz X.K bb c=some (some (.ref C))->jl X.K C=true/\b6 X.K (.ref C) f=some none)(he:SE X B W e fe)(hb:iX e f X.env (a7 e X.env)=a7 e X.env:=by rfl) :
  SE X B W (.Attribute e f pos) (fB fe (ni m f)):=by
 refine PE.imp (aij he hb) fun σ H Q h=>?_;obtain⟨ρ,G,s,p⟩:=sS (k:=fun _=>ni m f) h;refine⟨ρ,G,s,p.mono fun v H1 ⟨ρ1,G1,d,s1,r,q⟩=>?_⟩;cases d with
 |obj c ns ds =>
  unfold ni at q;dsimp only at q;by_cases hc:m c=true
  ·rw[if_pos hc]at q;obtain⟨a,C,dx,us,e1,e2,e3,e4,e5,e6⟩:=sJ.mp r;cases hl:(ns.zip ds).lookup f with
   |none=>rw[hl]at q;exact q.elim
   |some d =>
    rw[hl]at q;obtain⟨y,hy,ry⟩:=wD e6 hl;obtain⟨h1,h2⟩:=hm c C hc e2;exact⟨a,C,dx,_,y,e1,s1.en.gh _ _ e3,xZ h1,h2,hy,Post.ok s1 q ry⟩
  ·rw[if_neg hc]at q;exact q.elim
 |_=>exact q.elim
noncomputable def CT(m:Str->Option Bool):D->Rs D
 | .obj c _ _=>match m c with|some b=>.ok (.bl b)|none=>.no
 |_=>.no
theorem ajz{H:Hp}{h:aw}{P:aE}{w:ay}{a C dx:ae}{fs:List (Str×V)}(hok:Cj P w H h)(e:H a=some (.ins C dx fs)):∃od,InstAt h a (mS C dx) C (some od):=by obtain⟨mA,O,_⟩:=Ew hok e;obtain⟨od,ho,_⟩:=Jy O.ns;exact⟨od,O.obj,rfl,rfl,ho⟩
theorem adE{m:Str->Option Bool}{u:aa}{v:V}(ru:∀u',RelV v u'->u'=u)(hm:∀c b C,m c=some b->bz X.K bb c=some (some (.ref C))->jl X.K C=true/\bg X.K (.ref C) u=some b) :
  qG X (.builtin "isinstance") (fun xs H Q=>∃y c ns ds b,xs=[y,v]/\m c=some b/\Rep X.K H (.obj c ns ds) y/\Q (.bl b) H):=by
 intro pins s σ H xs us Q I r ⟨y,c,ns,ds,b,e,mc,rd,q⟩;subst e;cases r with
 |cons r1 r2 =>
  cases r2 with
  |cons r3 r4 =>
   cases r4;obtain⟨a,C',dx,vs,rfl,hn,hH,_⟩:=sJ.mp rd;cases r1;obtain rfl:=ru _ r3;obtain⟨h1,h2⟩:=hm c b C' mc hn;obtain⟨od,io⟩:=ajz I.hok hH;exact kia_one (adD h1) I.xu io h2 (fun z=>nomatch z) fun tk=>⟨.bl b,H,I.tok tk,rfl,q⟩
theorem ama{m:Str->Option Bool}{d:D}{G H:Hp}{σ:St}{Q:VK}(q:Post X.K W σ G H (CT m d) Q):∃c ns ds b,d=.obj c ns ds/\m c=some b/\Post X.K W σ G H (.ok (.bl b)) Q:=by
 cases d with
 |obj c ns ds =>
  simp only[CT]at q;cases e:m c with
  |none=>rw[e]at q;exact q.elim
  |some b=>rw[e]at q;exact⟨c,ns,ds,b,rfl,e,q⟩
 |_=>exact q.elim
theorem vI{m:Str->Option Bool}{C:ae}{x:Str}{e:ag}{p1 p2 pos:Pos}{f:aD->Rs D}(hm:∀c b C',m c=some b->bz X.K bb c=some (some (.ref C'))->jl X.K C'=true/\bg X.K (.ref C') (.ref C)=some b)
  (hi:X.mg "isinstance"=none) (hmt:X.mg x=some (.ref C)) (he:SE X B W e f) (hg:Gl X "isinstance":=by rfl) (hgx:Gl X x:=by rfl)
  (hst:a8 [e,.Name x p2] X.env=[(false,a7 e X.env),(false,a7 (.Name x p2) X.env)]:=by rfl) (hst2:a8 [.Name x p2] X.env=[(false,a7 (.Name x p2) X.env)]:=by rfl) (hd:wk x:=by decide) :
  SE X B W (.Call (.Name "isinstance" p1) [e,.Name x p2] [] pos) (fB f (CT m)):=by
 refine PE.imp (xH (adE (v:=.ref C) (fun _ z=>z) hm) hg hi uA (eZ he (eZ (aey (v:=.ref C) hgx hmt rfl hd) kZ (by rw[hst2];rfl)) (by rw[hst,hst2])) (by decide) (by decide) (by rw[hst,hst2]) (by rw[hst2];rfl)) fun σ H Q h=>?_;obtain⟨ρ,G,s,p⟩:=sS (k:=fun _=>CT m) h;refine⟨ρ,G,s,p.mono fun v H1 ⟨ρ1,G1,d,s1,r,q⟩=>?_⟩;obtain⟨c,ns,ds,b,rfl,mc,q⟩:=ama q;exact⟨v,c,ns,ds,b,rfl,mc,r.mono s1.en.gh,Post.ok s1 q (fG.mpr rfl)⟩
end
theorem XF{G H:Hp}(gh:Same G H)(tp:∀a xs,H a=some (.tup xs)->G a=some (.tup xs)){a:ae}{o:HO}(hn:∀xs,o≠.tup xs)(ha:H a=none):Ext G H (upd G a o) (upd H a o):=by
 have ga:G a=none:=by
  cases z:G a with
  |none=>rfl
  |some p=>rw[gh _ _ z]at ha;cases ha
 refine⟨fun b p z=>?_,fun b p z=>?_,fun b p z=>?_,fun b ys z=>?_,fun b p z n=>?_⟩
 ·rw[aQ (aR z ga)];exact z
 ·rw[aQ (aR z ha)];exact z
 ·by_cases q:b=a
  ·subst q;rw[aV]at z ⊢;exact z
  ·rw[aQ q]at z ⊢;exact gh _ _ z
 ·by_cases q:b=a
  ·subst q;rw[aV]at z;cases z;exact(hn _ rfl).elim
  ·rw[aQ q]at z ⊢;exact tp _ _ z
 ·rw[aQ (aR z ha)];exact n
theorem XH{G H:Hp}(gh:Same G H)(tp:∀a xs,H a=some (.tup xs)->G a=some (.tup xs)){a dx C:ae}{fs:List (Str×V)}(ha:H a=none)(hd:H dx=none)(ne:dx≠a):Ext G H (upd (upd G dx (.own a)) a (.ins C dx fs)) (upd (upd H dx (.own a)) a (.ins C dx fs)):=by have x1:=XF gh tp (o:=.own a) (fun _ z=>by cases z) hd;exact x1.trans (XF x1.gh x1.tp (fun _ z=>by cases z) (by rw[aQ ne.symm];exact ha))
noncomputable def IK(K:c9)(C:ae):Bool:=makesIn K C && (b6 K (.ref C) "__init__" == some (some (.builtin "object.__init__")) && du K (.ref C))
section
variable{X:Cx}{B:Bs}{W:Wi}
theorem ZJ{pins:List (ae×Obj)}{σ:St}{H:Hp}{s:af}{C:ae}{Q:VK}(hk:IK X.K C=true)(I:Inv X pins σ H s)(h:∀x dx,H x=none->H dx=none->dx≠x->Q (.ref x) (upd (upd H dx (.own x)) x (.ins C dx []))) :
  az (ar X.prog X.w) X.A (call (.ref C) []) (EP X pins σ Q) X.xe s:=by
 simp only[IK,fN,beq_iff_eq]at hk;have hq:=h (s.heap.objs.size + 1) s.heap.objs.size (I.hok.fresh (td _)) (I.hok.fresh (bj _)) (cq (pd _));have I2:=Inv.made (C:=C) I;refine kH (Yx I.xu hk.1 hk.2.1 (fun self=>Looks.of_pure (oi_bind self)) ?_);have Y:=makes_of (M:=ar X.prog X.w) I.xu hk.1;obtain⟨hh,g,d,t,os⟩:=s;have e2:((hh.push sg).push (mS C hh.objs.size)).get? (hh.objs.size + 1)=some (mS C hh.objs.size):=by have:=cK (hh.push sg) (o:=mS C hh.objs.size) rfl;rwa [gr]at this
 have t1:Looks (ar X.prog X.w) ((hh.push sg).push (mS C hh.objs.size)) (typeOf (.ref (hh.objs.size + 1))) (.ref C):=(Looks.ld e2).andThen .now;have t2:Looks (ar X.prog X.w) ((hh.push sg).push (mS C hh.objs.size)) (isInstance (.ref (hh.objs.size + 1)) (.type "object")) true:=t1.andThen (Y.top.keeps fun b o e=>cm _ (cm _ e));refine codeAny_call_builtin oi_plain entry_oi (@check_slot (ar X.prog X.w) _ _ _ "object.__init__" "object" "__init__" (.ref (hh.objs.size + 1)) [] [] _ oi_kind oi_split t2 (oi_args (.ref (hh.objs.size + 1))) ?_);rw[oi_run];exact a9 (And.intro rfl ⟨V.ref (hh.objs.size + 1),_,I2,rfl,hq⟩)
theorem MP{x:Str}{C:ae}{p pos:Pos}(hk:IK X.K C=true)(hg:Gl X x)(hm:X.mg x=some (.ref C))(hns:bz X.K bb x=some (some (.ref C)))(hdb:wk x:=by decide) :
  SE X B W (.Call (.Name x p) [] [] pos) (fC (.obj x [] [])):=by
 intro pins s σ H Q I ⟨ρ,G,sr,p⟩;refine kK (Am I hg hm ?_ hdb);have kp:du X.K (.ref C)=true:=by simp only[IK,fN]at hk;exact hk.2.2
 refine wc I.xu kp (ZJ hk I fun a dx h1 h2 ne=>?_);have x:=XH (C:=C) (fs:=[]) sr.en.gh sr.en.tp h1 h2 ne;exact p (.ref a) _ _ x (sJ.mpr ⟨a,C,dx,[],rfl,hns,aV,by rw[aQ ne,aV],rfl,bI.mpr rfl⟩)
end
noncomputable def spI(C:ae)(ns:List Str):Sp:=fun vs H Q E=>vs.length=ns.length + 1/\∃x dx us,vs=.ref x::us/\us.length=ns.length/\H x=some (.ins C dx [])/\Q .non (upd H x (.ins C dx (ns.zip us)))
noncomputable def RM(K:c9)(C f:ae)(ns:List Str):Bool:=jl K C && (makesIn K C && (b6 K (.ref C) "__init__" == some (some (.ref f)) && (eQ K (.ref f) && (du K (.ref C) && ns.all fun n=>b6 K (.ref C) n == some none))))
section
variable{P:aE}{w:ay}{K:ai}{mg:Str->Option aa}{base:aw}
theorem adF{qual a b:Str}{st:aS}{f C:ae}{fd:cz}{p1 p2 p3 p4 q1 q2 q3 q4:Pos}(F:Fun K "__init__" qual st f fd) (S:aX ["self",a,b] ["self",a,b] (aC st))
  (hb:cM st=[.Assign [.Attribute (.Name "self" p1) a p2] (.Name a p3) p4,.Assign [.Attribute (.Name "self" q1) b q2] (.Name b q3) q4]) (hk:RM K C f [a,b]=true) (hne:a≠b)
  (hc:∀(cdv:aa) (A:aT) (outer:List Env) (s:af) (H:Hp) (E:XK),let X:=tR (wZ P w K) P w K mg base ["self",a,b] qual (aC st) f cdv A outer s H E
   Ik X.env.scope "self"/\Ik X.env.scope a/\Ik X.env.scope b/\dC (.Name a p3) (some (.Attribute (.Name "self" p1) a p2)) p4.line X.env=pure false/\dC (.Name b q3) (some (.Attribute (.Name "self" q1) b q2)) q4.line X.env=pure false)
  (hd:wk a:=by decide) (hcd:Qc a:=by decide) (hd':wk b:=by decide) (hcd':Qc b:=by decide) :
  nD P w K mg base (wZ P w K) 1 f fd ["self",a,b] (spI C [a,b]):=by
 obtain⟨oc,od,kV,doc,pm,an,cdv,ct,osl,rfl,lk,aom⟩:=F.ex;refine Wn lk aom S (fun vs H Q E h=>h.1) fun A outer s H vs Q E hr _ h=>?_;obtain⟨_,x,dx,us,rfl,hl,h1,h2⟩:=h;obtain⟨c1,c2,c3,c4,c5⟩:=hc cdv A outer s H E;simp only[RM,fN,beq_iff_eq,pk,List.all_nil]at hk;obtain⟨k1,_,_,_,_,k2,k3,_⟩:=hk
 match us,hl with
 | [u,v],_ =>
  rw[hb];refine⟨_,Qi (abm (nC (i:=0) rfl c1 (by decide) (by decide)) (nC (i:=1) rfl c2 hd hcd) c4) (Wh (abm (nC (i:=0) rfl c1 (by decide) (by decide)) (nC (i:=2) rfl c3 hd' hcd') c5)),?_⟩;refine⟨u,rfl,.ref x,rfl,x,C,dx,[],rfl,h1,xZ k1,k2,by decide,v,rfl,.ref x,rfl,x,C,dx,_,rfl,aV,xZ k1,k3,by simp[vf],?_⟩;rw[Wb];have:vf b v (vf a u [])=[a,b].zip [u,v]:=by show(if a=b then _ else _)=_;rw[if_neg hne];rfl
  rw[this];exact h2
end
section
variable{X:Cx}{B:Bs}{W:Wi}
noncomputable def Nb(x:Str)(ns:List Str)(ds:List D):Rs D:=if ds.length=ns.length then .ok (.obj x ns ds) else .no
theorem ajA{x:Str}{C f:ae}{fd:cz}{ns:List Str}{p pos:Pos}{e:ag}{es:List ag}{fs:aD->Rs (List D)}{k:Nat}{ps:List Str}(hk:RM X.K C f ns=true)(F:nD X.prog X.w X.K X.mg X.base (wZ X.prog X.w X.K) k f fd ps (spI C ns))(hb:Binds X.K fd ps [])(hr:jP (k + 1) X.A)(hg:Gl X x)(hm:X.mg x=some (.ref C))(hns:bz X.K bb x=some (some (.ref C)))
  (ha:SA X B W (e::es) fs) (hdb:wk x:=by decide) (he:a8 (e::es) X.env=(false,a7 e X.env)::a8 es X.env:=by rfl) (hpl:(cE pos (a8 es X.env)).any (·.1)=false:=by rfl) :
  SE X B W (.Call (.Name x p) (e::es) [] pos) (fA fs (Nb x ns)):=by
 simp only[RM,fN,beq_iff_eq]at hk;obtain⟨k1,k2,k3,k4,k5,_⟩:=hk;refine PE.imp (aeM (E:=fun _ _ _=>False) (dvs:=[]) (ds:=[]) ⟨k2,k3,k4,k5⟩ F hr hg hm hb .nil (fun pins σ H s e s' I ⟨ea,c,n,H',_,_,_,_,_,_,w⟩=>w.elim) ha hdb he hpl) fun σ H Q ⟨ρ,G,sr,p0⟩=>?_;refine⟨ρ,G,sr,?_⟩;unfold fA at p0;cases e:fs ρ with
 |ex c n=>rw[e]at p0;exact p0
 |no=>rw[e]at p0;exact p0
 |ok ds =>
  rw[e]at p0;intro vs H1 G1 x1 r a dx h1 h2 ne;have p1:=Post.ext x1 p0;unfold Nb at p1;dsimp only[Rs.bind]at p1;by_cases hl:ds.length=ns.length
  ·rw[if_pos hl]at p1;have lv:vs.length=ns.length:=by rw[<- r.length];exact hl
   refine⟨by rw[fh,bu,lv],a,dx,vs,by rw[fh],lv,aV,rfl,?_⟩;rw[Wb];have s1:=sr.ext x1;have y:=XH (C:=C) (fs:=ns.zip vs) s1.en.gh s1.en.tp h1 h2 ne;exact p1 (.ref a) _ _ y (sJ.mpr ⟨a,C,dx,vs,rfl,hns,aV,by rw[aQ ne,aV],lv,r.mono y.gg⟩)
  ·rw[if_neg hl]at p1;exact p1.elim
end
noncomputable def vJ(P:aE)(w:ay)(K:ai)(mg:Str->Option aa)(base:aw)(cn m:Str)(k n:Nat)(v:List D->Rs D):Prop :=
 ∃C f fd ps,nD P w K mg base (wZ P w K) k f fd ps (spV K n v)/\bz K bb cn=some (some (.ref C))/\jl K C=true/\Meth K C m f/\Binds K fd ps []
noncomputable def wF(K:c9)(C f:ae)(m:Str):Bool:=jl K C && (b6 K (.ref C) m == some (some (.ref f)) && (eQ K (.ref f) && du K (.ref f)))
theorem qp{m:Str}:∀{ns:List Str}{us:List V},ns.contains m=false->(ns.zip us).lookup m=none
 | [],us,_=>by rw[List.zip_nil_left];rfl
 |n::ns,[],_=>by rw[List.zip_nil_right];rfl
 |n::ns,u::us,h=>by rw[List.contains_cons,Bool.or_eq_false_iff]at h;rw[oy,fI,h.1];exact qp h.2
noncomputable abbrev PX:=List (Str×(List D->Rs D))
noncomputable def Qa(n:Nat)(m:Str)(tb:PX)(fe:aD->Rs D)(fs:aD->Rs (List D)):aD->Rs D:=fun ρ=>match fe ρ with
 | .ok (.obj c ns xs)=>if ns.contains m=true then .no else (match tb.lookup c with
  |some v=>(fs ρ).bind fun ds=>bA n v (.obj c ns xs::ds)
  |none=>.no)
 |_=>.no
section
variable{X:Cx}{B:Bs}{W:Wi}
theorem amb{n k:Nat}{m:Str}{tb:PX}{fe:aD->Rs D}{fs:aD->Rs (List D)}{σ:St}{H:Hp}{Q:VK}(hO:∀c v,tb.lookup c=some v->vJ X.prog X.w X.K X.mg X.base c m k n v)(h:tF X.K B W (Qa n m tb fe fs) σ H Q) :
  ∃ρ C f fd ps v c ns xs,nD X.prog X.w X.K X.mg X.base (wZ X.prog X.w X.K) k f fd ps (spV X.K n v)/\jl X.K C=true/\Meth X.K C m f/\Binds X.K fd ps [] /\
   tF X.K B W fe σ H fun x H1=>∃a dx gs G1,x=.ref a/\H1 a=some (.ins C dx gs)/\gs.lookup m=none/\SR X.K B σ H1 ρ G1/\Rep X.K G1 (.obj c ns xs) x/\Post X.K W σ G1 H1 ((fs ρ).bind fun ds=>bA n v (.obj c ns xs::ds)) Q:=by
 obtain⟨ρ,G,sr,p⟩:=h;unfold Qa at p;cases e1:fe ρ with
 |ex c n=>rw[e1]at p;exact p.elim
 |no=>rw[e1]at p;exact p.elim
 |ok d =>
  rw[e1]at p;cases d with
  |obj c ns xs =>
   dsimp only at p;cases e2:ns.contains m with
   |true=>rw[e2]at p;exact p.elim
   |false =>
    rw[e2,if_neg (by decide)]at p;cases e3:tb.lookup c with
    |none=>rw[e3]at p;exact p.elim
    |some v =>
     rw[e3]at p;dsimp only at p;obtain⟨C,f,fd,ps,F,hn,hc,hM,hb⟩:=hO c v e3;refine⟨ρ,C,f,fd,ps,v,c,ns,xs,F,hc,hM,hb,ρ,G,sr,?_⟩;rw[e1];intro x H1 G1 x1 r;obtain⟨a,C',dx,us,q1,q2,q3,q4,q5,q6⟩:=sJ.mp r;rw[hn]at q2;cases q2;exact⟨a,dx,_,G1,q1,(sr.ext x1).en.gh _ _ q3,qp e2,sr.ext x1,r,Post.ext x1 p⟩
  |_=>exact p.elim
theorem amc{n:Nat}{v:List D->Rs D}{fs:aD->Rs (List D)}{ρ:aD}{σ:St}{H1 G1:Hp}{c:Str}{ns:List Str}{xs:List D}{x:V}{Q:VK}(s:SR X.K B σ H1 ρ G1)(r0:Rep X.K G1 (.obj c ns xs) x)(p:Post X.K W σ G1 H1 ((fs ρ).bind fun ds=>bA n v (.obj c ns xs::ds)) Q) :
  tAF X.K B W fs σ H1 fun vs H2=>spV X.K n v (x::vs) H2 Q fun z _ H'=>∃c n,z=yX c n/\W c n σ H':=by
 refine⟨ρ,G1,s,?_⟩;cases e:fs ρ with
 |ex c n=>rw[e]at p;exact p
 |no=>rw[e]at p;exact p
 |ok ds =>
  rw[e]at p;intro vs H2 G2 x2 r;have p:=Post.ext x2 p;unfold bA at p;dsimp only[Rs.bind]at p;have r':bH X.K G2 (.obj c ns xs::ds) (x::vs):=aW.mpr ⟨_,_,rfl,r0.mono x2.gg,r⟩;by_cases hl:(D.obj c ns xs::ds).length=n
  ·rw[if_pos hl]at p;refine⟨by rw[<- r'.length];exact hl,G2,_,(s.ext x2).ex0,r',?_⟩;cases e1:v (.obj c ns xs::ds) with
   |ok d=>rw[e1]at p;exact p
   |ex c n=>rw[e1]at p;exact fun H' G' y=>⟨c,n,rfl,p H' G' y⟩
   |no=>rw[e1]at p;exact p.elim
  ·rw[if_neg hl]at p;exact p.elim
theorem ajB{k:Nat}{f:ae}{fd:cz}{ps:List Str}{sp:Sp}{pins:List (ae×Obj)}{σ:St}{H:Hp}{s:af}{Q:VK}{us:List aa}{vs:List V}(F:nD X.prog X.w X.K X.mg X.base (wZ X.prog X.w X.K) k f fd ps sp)(hr:jP k X.A)(hb:Binds X.K fd ps [])(hx:uo X W)(I:Inv X pins σ H s)(r:Vals vs us)
  (q:sp vs H Q fun z _ H'=>∃c n,z=yX c n/\W c n σ H'):az (ar X.prog X.w) X.A (call (.ref f) us) (EP X pins σ Q) X.xe s:=by
 have hl:(us++[]).length=ps.length:=by rw[fh,<- r.length];exact F.len _ _ _ _ q
 have hbb:=hb s us I.xu hl;rw[fh]at hbb;refine kH (i4 (F.run X.A X.stack s H ⟨us,[]⟩ us vs Q _ hr I.env0 hbb r q) fun r s' hq=>?_);cases r with
 |error e=>exact hx pins σ H s e s' I hq
 |ok fl =>
  cases fl with
  |ret u=>exact I.after hq
  |next=>exact dy hq
  |brk=>exact dy hq
  |cont=>exact dy hq
theorem rJ{n k kr:Nat}{m:Str}{tb:PX}{o:ag}{apos pos:Pos}{fe:aD->Rs D}{pl:Sem Bool}(hO:∀c v,tb.lookup c=some v->vJ X.prog X.w X.K X.mg X.base c m k n v)(hr:jP kr X.A)(hx:uo X W)(he:SE X B W o fe)
  (ht:a7 (.Call (.Attribute o m apos) [] [] pos) X.env=(do
   let ov <- a7 o X.env
   jS apos.atName
   let (f,first) <- eL [ov] (ng ov m pl)
   callWith pos f first (cE pos (a8 [] X.env)) (gy pos (gz [] X.env))):=by rfl) (mW:k<=kr:=by decide) :
  SE X B W (.Call (.Attribute o m apos) [] [] pos) (Qa n m tb fe aL):=by
 intro pins s σ H Q I h;obtain⟨ρ,C,f,fd,ps,v,c,ns,xs,F,hc,hM,hb,h⟩:=amb hO h;refine PySem.W.methodCall_KW (pl:=pl) (nq (he pins s σ H _ I h) fun u s1 ⟨x,H1,I1,rx,a,dx,gs,G1,ex,ea,l,s2,r,p⟩=>?_) ht;have h2:=amc (fs:=aL) s2 r p;subst ex;obtain rfl:u=aa.ref a:=rx;refine Fz I1 ea (xZ hc) hM l ?_;obtain⟨ρ2,G2,s3,p3⟩:=h2;have q:=p3 [] H1 G2 s3.Qt (bI.mpr rfl);exact wc (first:=[.ref a]) I1.xu hM.kp (ajB (us:=[.ref a]) (vs:=[.ref a]) F (hr.mono mW) hb hx I1 (.cons rfl .nil) q)
end
section
variable{P:aE}{w:ay}{K:ai}{mg:Str->Option aa}{base:aw}
noncomputable def kW(K:c9)(m qual:Str)(st:aS)(f:ae):Prop:=∃(oc:aa) (od:Option ae) (sl:Array (Option aa)) (kV dc pm:aa) (an:Option ae) (cd ct:aa),
 K.lookup f=some ⟨oc,od,.func (kv m qual (iC st) (cM st) (aC st) .none kV dc pm an cd ct),sl⟩/\codeIn K cd qual=true/\du K (.ref f)=true
theorem kW.mk{m qual:Str}{st:aS}{f:ae}{oc:aa}{od an:Option ae}{sl:Array (Option aa)}{kV dc pm cd ct:aa}(h2:K.lookup f=some ⟨oc,od,.func (kv m qual (iC st) (cM st) (aC st) .none kV dc pm an cd ct),sl⟩)(h3:codeIn K cd qual=true)(h4:du K (.ref f)=true):kW K m qual st f :=
 ⟨oc,od,sl,kV,dc,pm,an,cd,ct,h2,h3,h4⟩
theorem kW.fn{m qual:Str}{st:aS}{f:ae}(D:kW K m qual st f):∃fd,Fun K m qual st f fd:=by obtain⟨oc,od,sl,kV,dc,pm,an,cd,ct,h2,h3,h4⟩:=D;exact⟨_,⟨⟨oc,od,kV,dc,pm,an,cd,ct,sl,rfl,h2,h3⟩,h4⟩⟩
theorem dG{C f:ae}{m:Str}(h1:jl K C=true)(h2:b6 K (.ref C) m=some (some (.ref f)))(h3:eQ K (.ref f)=true)(h4:du K (.ref f)=true):wF K C f m=true:=by simp only[wF,h1,h2,h3,h4,Bool.and_self,beq_self_eq_true]
noncomputable abbrev Hbm(P:aE)(w:ay)(K:c9)(mg:Str->Option aa)(base:aw)(N:List Str)(qual:Str)(st:aS)(f:ae)(k:Nat)(g:aD->Ou):Prop :=
 ∀(cdv:aa) (A:aT) (outer:List Env) (s:af) (H:Hp) (E:XK) (B:Bs),jP k (A.deeper (kP qual (aC st) s.heap.objs.size f cdv)) ->
  uo (tR (wZ P w K) P w K mg base N qual (aC st) f cdv A outer s H E) (fun c n _ H'=>E (yX c n) none H') ->
  Ba (tR (wZ P w K) P w K mg base N qual (aC st) f cdv A outer s H E) B (fun c n _ H'=>E (yX c n) none H') (cM st) g
noncomputable def ZK(P:aE)(w:ay)(K:ai)(mg:Str->Option aa)(base:aw)(f:ae)(k n:Nat)(v:List D->Rs D):Prop:=∃fd ps,nD P w K mg base (wZ P w K) k f fd ps (spV K n v)/\Binds K fd ps []
theorem ZK.mono{f:ae}{k k' n:Nat}{v:List D->Rs D}(O:ZK P w K mg base f k n v)(h:k<=k'):ZK P w K mg base f k' n v:=by obtain⟨fd,ps,F,hb⟩:=O;exact⟨fd,ps,F.mono h,hb⟩
theorem ZK.mt{cn m:Str}{C f:ae}{k n:Nat}{v:List D->Rs D}(O:ZK P w K mg base f k n v)(hns:bz K bb cn=some (some (.ref C)))(hk:wF K C f m=true):vJ P w K mg base cn m k n v:=by simp only[wF,fN,beq_iff_eq]at hk;obtain⟨fd,ps,F,hb⟩:=O;exact⟨C,f,fd,ps,F,hns,hk.1,⟨hk.2.1,hk.2.2.1,hk.2.2.2⟩,hb⟩
theorem agp{m:Str}{k n:Nat}:∀c v,bX c ([]:PX)=some v->vJ P w K mg base c m k n v:=fun _ _ h=>nomatch h
theorem pO{m x:Str}{k n:Nat}{v₀:List D->Rs D}{l:PX}(p:vJ P w K mg base x m k n v₀)(h:∀c v,l.lookup c=some v->vJ P w K mg base c m k n v):∀c v,bX c ((x,v₀)::l)=some v->vJ P w K mg base c m k n v:=fun c v e=>by
 rw[fI]at e;split at e
 ·next q=>obtain rfl:=eq_of_beq q;cases e;exact p
 ·exact h c v e
noncomputable def rK(P:aE)(w:ay)(K:ai)(mg:Str->Option aa)(base:aw)(f:ae)(k n:Nat)(v:List D->Rs (List D)):Prop:=∃fd ps,nD P w K mg base (wZ P w K) k f fd ps (spF K n v)/\Binds K fd ps []
noncomputable def Hu(P:aE)(w:ay)(K:ai)(mg:Str->Option aa)(base:aw)(cn m:Str)(k n:Nat)(v:List D->Rs (List D)):Prop :=
 ∃C f fd ps,nD P w K mg base (wZ P w K) k f fd ps (spF K n v)/\bz K bb cn=some (some (.ref C))/\jl K C=true/\Meth K C m f/\Binds K fd ps []
theorem nP{m qual:Str}{st:aS}{f:ae}{N ps:List Str}{k:Nat}{g:aD->Ou}(D:kW K m qual st f)(S:aX N ps (aC st))
  (hbi:∀(kV doc pm:aa) (an:Option ae) (cdv ct:aa) (us:List aa),us.length=ps.length->bindArgs (gx m qual (iC st) (cM st) (aC st) .none kV doc pm an cdv ct) ⟨us,[]⟩=pure (ps.zip us))
  (hb:Hbm P w K mg base N qual st f k g):rK P w K mg base f (k + 1) ps.length (fun ds=>qg (g (aP N ds))):=by
 obtain⟨fd,F⟩:=D.fn;refine⟨fd,ps,?_,F.binds hbi⟩;obtain⟨oc,od,kV,doc,pm,an,cdv,ct,osl,rfl,lk,hcd⟩:=F.ex;refine Wn lk hcd S (fun vs H Q E h=>h.1) fun A outer s H vs Q E hr _ h=>?_;obtain⟨_,G,ds,e,r,h⟩:=h;dsimp only at h;refine⟨_,hb cdv A outer s H E ⟨G,H,0⟩ hr (Bf yM rfl),aP N ds,G,QF e r,?_⟩;cases e1:g (aP N ds) with
 |rl es=>rw[e1]at h;exact fun a ws H' G' x q g1 b1 h1 r1=>h a ws H' G' x g1 b1 h1 r1
 |_=>rw[e1]at h;exact h.elim
theorem rK.mf{cn m:Str}{C f:ae}{k n:Nat}{v:List D->Rs (List D)}(O:rK P w K mg base f k n v)(hns:bz K bb cn=some (some (.ref C)))(hk:wF K C f m=true):Hu P w K mg base cn m k n v:=by simp only[wF,fN,beq_iff_eq]at hk;obtain⟨fd,ps,F,hb⟩:=O;exact⟨C,f,fd,ps,F,hns,hk.1,⟨hk.2.1,hk.2.2.1,hk.2.2.2⟩,hb⟩
theorem rK.mono{f:ae}{k k' n:Nat}{v:List D->Rs (List D)}(O:rK P w K mg base f k n v)(h:k<=k'):rK P w K mg base f k' n v:=by obtain⟨fd,ps,F,hb⟩:=O;exact⟨fd,ps,F.mono h,hb⟩
theorem Nf{m:Str}{k n:Nat}:∀c v,bX c ([]:List (Str×(List D->Rs (List D))))=some v->Hu P w K mg base c m k n v:=fun _ _ h=>nomatch h
theorem gH{m x:Str}{k n:Nat}{v₀:List D->Rs (List D)}{l:List (Str×(List D->Rs (List D)))}(p:Hu P w K mg base x m k n v₀)(h:∀c v,l.lookup c=some v->Hu P w K mg base c m k n v):∀c v,bX c ((x,v₀)::l)=some v->Hu P w K mg base c m k n v:=fun c v e=>by
 rw[fI]at e;split at e
 ·next q=>obtain rfl:=eq_of_beq q;cases e;exact p
 ·exact h c v e
noncomputable def Kw(v:List D->Rs (List D))(ds:List D):Rs D:=match v ds with|.ok es=>.ok (.lst es)|_=>.no
theorem rK.data{f:ae}{k n:Nat}{v:List D->Rs (List D)}(O:rK P w K mg base f k n v):ZK P w K mg base f k n (Kw v):=by
 obtain⟨fd,ps,F,hb⟩:=O;refine⟨fd,ps,F.imp fun vs H Q E ⟨hl,G,ds,e0,r,h⟩=>⟨hl,G,ds,e0,r,?_⟩,hb⟩;unfold Kw at h;cases e:v ds with
 |ok es =>
  rw[e]at h;dsimp only;intro a ws H' G' x g1 h0 h1 r1;have gg:Same G' (upd G' a (.lst ws)):=fun b o z=>by rw[aQ (aR z g1)];exact z
  refine h (.ref a) H' (upd G' a (.lst ws)) ⟨x.gg.trans gg,x.hh,fun b o z=>?_,fun b xs z=>?_,fun b o z w=>?_⟩ (bO.mpr ⟨a,ws,rfl,?_,r1.mono gg⟩)
  ·by_cases q:b=a
   ·subst q;rw[aV]at z;cases z;exact h1
   ·rw[aQ q]at z;exact x.gh _ _ z
  ·by_cases q:b=a
   ·subst q;rw[h1]at z;cases z
   ·rw[aQ q];exact x.tp _ _ z
  ·rw[aQ (aR z h0)];exact x.nw _ _ z w
  ·exact .inl (.of aV)
 |ex c m=>rw[e]at h;exact h.elim
 |no=>rw[e]at h;exact h.elim
noncomputable def XJ(P:aE)(w:ay)(K:ai)(mg:Str->Option aa)(base:aw)(C:ae)(ns:List Str)(k:Nat):Prop:=∃f fd ps,RM K C f ns=true/\nD P w K mg base (wZ P w K) k f fd ps (spI C ns)/\Binds K fd ps []
theorem amd{qual a b:Str}{st:aS}{f C:ae}{p1 p2 p3 p4 q1 q2 q3 q4:Pos}(D:kW K "__init__" qual st f) (S:aX ["self",a,b] ["self",a,b] (aC st))
  (hb:cM st=[.Assign [.Attribute (.Name "self" p1) a p2] (.Name a p3) p4,.Assign [.Attribute (.Name "self" q1) b q2] (.Name b q3) q4]) (hk:RM K C f [a,b]=true) (hne:a≠b)
  (hc:∀(cdv:aa) (A:aT) (outer:List Env) (s:af) (H:Hp) (E:XK),let X:=tR (wZ P w K) P w K mg base ["self",a,b] qual (aC st) f cdv A outer s H E
   Ik X.env.scope "self"/\Ik X.env.scope a/\Ik X.env.scope b/\dC (.Name a p3) (some (.Attribute (.Name "self" p1) a p2)) p4.line X.env=pure false/\dC (.Name b q3) (some (.Attribute (.Name "self" q1) b q2)) q4.line X.env=pure false)
  (hbi:∀(kV doc pm:aa) (an:Option ae) (cdv ct:aa) (us:List aa),us.length=3->bindArgs (gx "__init__" qual (iC st) (cM st) (aC st) .none kV doc pm an cdv ct) ⟨us,[]⟩=pure ((["self",a,b]:List Str).zip us))
  (hd:wk a:=by decide) (hcd:Qc a:=by decide) (hd':wk b:=by decide) (hcd':Qc b:=by decide):XJ P w K mg base C [a,b] 1:=by
 obtain⟨fd,F⟩:=D.fn;exact⟨f,fd,_,hk,adF F S hb hk hne hc hd hcd hd' hcd',F.binds hbi⟩
end
section
variable{X:Cx}{B:Bs}{W:Wi}
theorem CV{x:Str}{C:ae}{ns:List Str}{p pos:Pos}{e:ag}{es:List ag}{fs:aD->Rs (List D)}{k kr:Nat}(O:XJ X.prog X.w X.K X.mg X.base C ns k)(hm:X.mg x=some (.ref C))(hns:bz X.K bb x=some (some (.ref C)))(hr:jP kr X.A)
  (ha:SA X B W (e::es) fs) (hg:Gl X x:=by rfl) (hdb:wk x:=by decide) (he:a8 (e::es) X.env=(false,a7 e X.env)::a8 es X.env:=by rfl) (hpl:(cE pos (a8 es X.env)).any (·.1)=false:=by rfl) (mW:k + 1<=kr:=by decide) :
  SE X B W (.Call (.Name x p) (e::es) [] pos) (fA fs (Nb x ns)):=by
 obtain⟨f,fd,ps,hk,F,hb⟩:=O;exact ajA hk F hb (hr.mono mW) hg hm hns ha hdb he hpl
theorem ajC{n k:Nat}{m:Str}{o:ag}{apos pos:Pos}{ta:TE}{pl:Sem Bool}(hr:jP k X.A)(he:PE X o ta)
  (ht:a7 (.Call (.Attribute o m apos) [] [] pos) X.env=(do
   let ov <- a7 o X.env
   jS apos.atName
   let (f,first) <- eL [ov] (ng ov m pl)
   callWith pos f first (cE pos (a8 [] X.env)) (gy pos (gz [] X.env))):=by rfl) :
  PE X (.Call (.Attribute o m apos) [] [] pos) (fun σ H Q=>∃C f fd ps v,nD X.prog X.w X.K X.mg X.base (wZ X.prog X.w X.K) k f fd ps (spF X.K n v)/\jl X.K C=true/\Meth X.K C m f/\Binds X.K fd ps [] /\
   ta σ H fun x H1=>∃a dx gs,x=.ref a/\H1 a=some (.ins C dx gs)/\gs.lookup m=none/\spF X.K n v [x] H1 Q fun _ _ _=>False):=by
 intro pins s σ H Q I ⟨C,f,fd,ps,v,F,hc,hM,hb,h⟩;refine PySem.W.methodCall_KW (pl:=pl) (nq (he pins s σ H _ I h) fun u s1 ⟨x,H1,I1,rx,a,dx,gs,ex,ea,l,q⟩=>?_) ht;subst ex;obtain rfl:u=aa.ref a:=rx;refine Fz I1 ea (xZ hc) hM l ?_;refine wc (first:=[.ref a]) I1.xu hM.kp ?_;have hl:([aa.ref a]++[]).length=ps.length:=by rw[<- F.len _ _ _ _ q];rfl
 have hbb:=hb s1 [.ref a] I1.xu hl;rw[fh]at hbb;refine kH (i4 (F.run X.A X.stack s1 H1 ⟨[.ref a],[]⟩ [.ref a] [.ref a] Q _ hr I1.env0 hbb (.cons rfl .nil) q) fun r s' hq=>?_);cases r with
 |error e=>obtain⟨ea,c,n,H',_,_,_,_,_,_,w⟩:=hq;exact w.elim
 |ok fl =>
  cases fl with
  |ret u=>exact I1.after hq
  |next=>exact dy hq
  |brk=>exact dy hq
  |cont=>exact dy hq
noncomputable abbrev Tbf:=List (Str×(List D->Rs (List D)))
noncomputable def DP(i n:Nat)(m:Str)(tb:Tbf)(fe:aD->Rs D):aD->Ou:=fun ρ=>match fe ρ with
 | .ok (.obj c ns xs)=>if ns.contains m=true∨n≠1 then .no else (match tb.lookup c with
  |some v=>(match v [.obj c ns xs] with|.ok es=>.nx (ρ.set i (.ow es))|_=>.no)
  |none=>.no)
 |_=>.no
theorem XM(i:Nat){n k kr:Nat}{m y:Str}{tb:Tbf}{o:ag}{apos pos pos' cp:Pos}{fe:aD->Rs D}{pl:Sem Bool}(hO:∀c v,tb.lookup c=some v->Hu X.prog X.w X.K X.mg X.base c m k n v)(hr:jP kr X.A)(hN:X.N.Nodup)(he:SE X B W o fe)(hi:X.N[i]?=some y:=by rfl)(hx:Loc X.env.scope y:=by first|exact Or.inl rfl|exact Or.inr rfl)
  (hs:dC (.Call (.Attribute o m apos) [] [] cp) (some (.Name y pos')) pos.line X.env=pure false:=by rfl) (hf:X.fn y=true∨X.env.scope.names.lookup y=some .local:=by first|exact .inl rfl|exact .inr rfl|assumption)
  (ht:a7 (.Call (.Attribute o m apos) [] [] cp) X.env=(do
   let ov <- a7 o X.env
   jS apos.atName
   let (f,first) <- eL [ov] (ng ov m pl)
   callWith cp f first (cE cp (a8 [] X.env)) (gy cp (gz [] X.env))):=by rfl) (mW:k<=kr:=by decide) :
  SS X B W (.Assign [.Name y pos'] (.Call (.Attribute o m apos) [] [] cp) pos) (DP i n m tb fe):=by
 refine PS.imp (KZ hN hi hx (ajC (n:=n) (hr.mono mW) he ht) hs hf) fun De σ H ⟨ρ,G,s,p⟩=>?_;unfold DP at p;cases e1:fe ρ with
 |ex c m=>rw[e1]at p;exact p.elim
 |no=>rw[e1]at p;exact p.elim
 |ok d =>
  rw[e1]at p;cases d with
  |obj c ns xs =>
   dsimp only at p;by_cases e2:ns.contains m=true∨n≠1
   ·rw[if_pos e2]at p;exact p.elim
   ·rw[if_neg e2]at p;have e4:ns.contains m=false:=Bool.eq_false_iff.mpr fun z=>e2 (.inl z);have e5:n=1:=Classical.byContradiction fun z=>e2 (.inr z);subst e5;cases e3:tb.lookup c with
    |none=>rw[e3]at p;exact p.elim
    |some v =>
     rw[e3]at p;dsimp only at p;obtain⟨C,f,fd,ps,F,hn,hc,hM,hb⟩:=hO c v e3;refine⟨C,f,fd,ps,v,F,hc,hM,hb,ρ,G,s,?_⟩;rw[e1];intro x H1 G1 x1 r;obtain⟨a,C',dx,us,q1,q2,q3,q4,q5,q6⟩:=sJ.mp r;rw[hn]at q2;cases q2;have s1:=s.ext x1;refine⟨a,dx,_,q1,s1.en.gh _ _ q3,qp e4,rfl,G1,[.obj c ns xs],s1.ex0,bH.one r,?_⟩;cases e6:v [.obj c ns xs] with
     |ok es' =>
      rw[e6]at p;dsimp only at p ⊢;intro b ws H' G' y g1 h1 h2 r2
      let H2:Hp:=msk H' b
      have y2:Ext G1 H1 G' H2:=⟨y.gg,fun c o w=>by
        show msk H' b c=some o;rw[rH (aR w h1)];exact y.hh c o w,fun c o w=>by
        show msk H' b c=some o;rw[rH (aR w g1)];exact y.gh c o w,fun c xs w=>y.tp c xs (Hh w).2,y.nw⟩
      have s2:=(s1.ext y2).ahb (i:=i) (p:=b) r2 Hg;have e2:upd H2 b (.lst ws)=H':=by
       funext c;by_cases w:c=b
       ·subst w;rw[aV];exact h2.symm
       ·rw[aQ w];exact rH w
      rw[e2]at s2;exact p _ H' G' s2 (x1.gg.trans y.gg)
     |ex c m=>rw[e6]at p;exact p.elim
     |no=>rw[e6]at p;exact p.elim
  |_=>exact p.elim
end
section
variable{X:Cx}{K:ai}{B:Bs}{W:Wi}{σ:St}{G H:Hp}{ρ:aD}{a b:ag}{pos:Pos}{fa fb:aD->Rs D}
end
section
variable{X:Cx}{B:Bs}{W:Wi}
noncomputable def RN(i:Nat)(fe fk:aD->Rs D):aD->Ou:=fun ρ=>oR (fe ρ) ρ fun v=>match ρ[i]? with
 |some z=>(match lent z with
  |some ds=>oR (fk ρ) ρ fun k=>(match k with
   | .int k=>(match Qm ds.length k with|some m=>.nx (ρ.set i (mC z (ds.set m v)))|none=>.no)
   |_=>.no)
  |none=>.no)
 |none=>.no
theorem agr(i:Nat){e b:ag}{x:Str}{p1 tp pos:Pos}{fe fk:aD->Rs D}(he:SE X B W e fe)(hb:SE X B W b fk)(hN:X.N[i]?=some x:=by rfl)(hv:Ik X.env.scope x:=by first|exact Or.inl rfl|exact Or.inr (Or.inl rfl)|exact Or.inr (Or.inr rfl))(hd:wk x:=by decide)
  (hcd:Qc x:=by decide)
  (hs:m8 [.Subscript (.Name x p1) b tp] e pos.line X.env=pure false:=by rfl) (hw:m9 [.Subscript (.Name x p1) b tp] e X.env=pure none:=by rfl)
  (h1:(fx [.Subscript (.Name x p1) b tp] X.env).map (·.2)=[assign (.Subscript (.Name x p1) b tp) X.env]:=by rfl)
  (ha:∀v,assign (.Subscript (.Name x p1) b tp) X.env v=(do
   let ov <- eL [v] (a7 (.Name x p1) X.env)
   let iv <- eL [v,ov] (a7 b X.env)
   jS tp
   eL [v,ov,iv] (setItem ov iv v)
   release [v,ov,iv] []):=by intro _;rfl) :
  SS X B W (.Assign [.Subscript (.Name x p1) b tp] e pos) (RN i fe fk):=by
 refine PS.imp (Ub he (aaZ (nC hN hv hd hcd) hb Qn ha) hs hw h1) fun De σ H ⟨ρ,G,s,p⟩=>?_;unfold RN at p;refine⟨ρ,G,s,lN s p fun d v H' G' _ y r p'=>?_⟩;cases e1:ρ[i]? with
 |none=>rw[e1]at p';exact p'.elim
 |some z =>
  rw[e1]at p';dsimp only at p';cases e2:lent z with
  |none=>rw[e2]at p';exact p'.elim
  |some ds =>
   rw[e2]at p';dsimp only at p';have s':=s.ext y;obtain⟨a,ws,k1,k2,k3,k4,k5⟩:=s'.lent e1 e2;refine⟨_,k1,ρ,G',s',lN s' p' fun k v2 H2 G2 _ y2 r3 p3=>?_⟩;cases k with
   |int k =>
    dsimp only at p3;cases e3:Qm ds.length k with
    |none=>rw[e3]at p3;exact p3.elim
    |some m =>
     rw[e3]at p3;rw[bN.mp r3];have s2:=s'.ext y2;exact⟨a,ws,k,m,rfl,rfl,y2.hh _ _ k2,by rw[<- k5.length];exact e3,p3 _ _ G2 (SR.QC s2 (z:=mC z (ds.set m d)) (o:=.lst (ws.set m v)) e1 (xX e2) k1 (Hi e2) (Ku e2 (bH.set m (k5.mono y2.gg) (r.mono y2.gg))) (fun _ h=>Kv e2 h)) (.refl _)⟩
   |_=>exact p3.elim
end
section
variable{X:Cx}{B:Bs}{W:Wi}
end
section
variable{X:Cx}{B:Bs}{W:Wi}
end
section
variable{X:Cx}{K:ai}{B:Bs}{W:Wi}
theorem ZL:qG X (.type "str") (fun xs H Q=>∃n,xs=[.int n]/\n.natAbs.log2 < 1900/\Q (.str (f6 (toString n))) H):=by intro pins s σ H xs us Q I r ⟨n,e,hn,q⟩;subst e;obtain⟨u,rfl,ru⟩:=r.one;obtain⟨t,rfl⟩:=ru;exact PySem.P.str_of_int (nK hn (by decide)) ⟨.str _,H,I.tok _,⟨_,rfl⟩,q⟩
noncomputable def Ng:List D->Rs D
 | [.int n]=>if n.natAbs.log2 < 1900 then .ok (.str (f6 (toString n))) else .no
 |_=>.no
theorem ajD:uh K (fun xs H Q=>∃n,xs=[.int n]/\n.natAbs.log2 < 1900/\Q (.str (f6 (toString n))) H) Ng:=by
 intro B W σ ρ G H ds vs Q s r p
 match ds,p with
 | [.int n],p =>
  obtain⟨v,vs',rfl,r1,r2⟩:=aW.mp r;cases bI.mp r2;simp only[Ng]at p;by_cases hn:n.natAbs.log2 < 1900
  ·rw[if_pos hn]at p;exact⟨n,by rw[bN.mp r1],hn,Post.ok s p (pq.mpr rfl)⟩
  ·rw[if_neg hn]at p;exact p.elim
theorem Nh{e:ag}{p pos:Pos}{fa:aD->Rs D}(hm:X.mg "str"=none) (ha:SE X B W e fa) (hg:Gl X "str":=by rfl) (he:a8 [e] X.env=[(false,a7 e X.env)]:=by rfl) :
  SE X B W (.Call (.Name "str" p) [e] [] pos) (fA (ao fa aL) Ng) :=
 CJ ZL ajD hg hm PyProof.Rows.Boot.«str» (aj ha au he) (by decide) (by decide) he rfl
noncomputable def ajE:D->D->Ou
 | .lst ds,.lst es=>if ds.length + es.length<=1000000 then .rl (ds++es) else .no
 |_,_=>.no
noncomputable def qR(fa fb:aD->Rs D):aD->Ou:=fun ρ=>oR (fa ρ) ρ fun x=>oR (fb ρ) ρ fun y=>ajE x y
theorem uD{a b:ag}{pos pos':Pos}{fa fb:aD->Rs D}(ha:SE X B W a fa)(hb:SE X B W b fb):SS X B W (.Return (some (.BinOp a .Add b pos)) pos') (qR fa fb):=by
  refine PS.imp (KY (abg Wz ha hb)) fun De σ H ⟨ρ,G,s,p⟩=>⟨ρ,G,s,?_⟩
  unfold qR at p;cases e:fa ρ with
  |ex c n=>rw[e]at p;exact fun H' G' x=>p σ H' G' (s.ext x) x.gg
  |no=>rw[e]at p;exact p
  |ok x =>
    rw[e]at p;intro v H1 G1 x1 r1;refine⟨ρ,G1,s.ext x1,?_⟩;have p1:fP X.K B W G (oR (fb ρ) ρ fun y=>ajE x y) De:=p;cases e2:fb ρ with
    |ex c n=>rw[e2]at p1;exact fun H' G' x2=>p1 σ H' G' ((s.ext x1).ext x2) (x1.gg.trans x2.gg)
    |no=>rw[e2]at p1;exact p1
    |ok y =>
      rw[e2]at p1;intro u H2 G2 x2 r2;have p1:fP X.K B W G (ajE x y) De:=p1;cases x with
      |lst ds =>
       cases y with
       |lst es =>
        have p2:fP X.K B W G (if ds.length + es.length<=1000000 then .rl (ds++es) else .no) De:=p1;by_cases hl:ds.length + es.length<=1000000
        . rw[if_pos hl]at p2
          obtain⟨a,vs,rfl,q,r⟩:=bO.mp (r1.mono x2.gg);obtain⟨b,us,rfl,q',r'⟩:=bO.mp r2;have s2:=(s.ext x1).ext x2;refine⟨a,b,vs,us,rfl,rfl,s2.en.gh.seq q,s2.en.gh.seq q',by rw[<- r.length,<- r'.length];exact sz6 hl,fun c hc=>?_⟩;have y:=yL (xs:=vs++us) s2.en.gh s2.en.tp hc;exact p2 c (vs++us) _ G2 (s2.en.trans y) (x1.gg.trans x2.gg) (s2.en.gh.free hc) (s2.en.hh.free hc) aV (r.append r')
        . rw[if_neg hl]at p2;exact p2.elim
       |_=>exact p1.elim
      |_=>cases y <;> exact p1.elim
end
noncomputable def sH(l:Tbf):PX:=l.map fun p=>(p.1,Kw p.2)
theorem DQ{c:Str}{v:List D->Rs D}:∀{l:Tbf},bX c (sH l)=some v->∃u,bX c l=some u/\v=Kw u
 | [],h=>by cases h
 | (x,u)::l,h=>by
  show ∃u',bX c ((x,u)::l)=some u'/\_;have h:bX c ((x,Kw u)::sH l)=some v:=h;rw[fI]at h ⊢;cases e:c == x with
  |true=>rw[e]at h;cases h;exact⟨u,rfl,rfl⟩
  |false=>rw[e]at h;exact DQ h
theorem yS{P:aE}{w:ay}{K:ai}{mg:Str->Option aa}{base:aw}{m:Str}{k n:Nat}{l:Tbf}(h:∀c v,bX c l=some v->Hu P w K mg base c m k n v):∀c v,bX c (sH l)=some v->vJ P w K mg base c m k n v:=fun c v e=>by obtain⟨u,e1,rfl⟩:=DQ e;obtain⟨C,f,fd,ps,F,hn,hc,hM,hb⟩:=h c u e1;obtain⟨fd',ps',F',hb'⟩:=rK.data (f:=f) ⟨fd,ps,F,hb⟩;exact⟨C,f,fd',ps',F',hn,hc,hM,hb'⟩
section
variable{X:Cx}{B:Bs}{W:Wi}
noncomputable def fMT(n:Nat)(g:List D->List D->Rs (D×List D))(fs0 fs:aD->Rs (List D)):aD->Rs D:=fun ρ=>(fs0 ρ).bind fun es=>if es.length<=1000 then (fs ρ).bind fun ds=>if ds.length=n then (match g es ds with|.ok (d,_)=>.ok d|_=>.no) else .no else .no
theorem ZM{x:Str}{p lp pos:Pos}{es0 es:List ag}{fs0 fs:aD->Rs (List D)}{k n kr:Nat}{g:List D->List D->Rs (D×List D)}(O:Br X.prog X.w X.K X.mg X.base x k n g)(hr:jP kr X.A)(h0:SA X B W es0 fs0)(ha:SA X B W es fs)(hg:Gl X x:=by rfl)(hdb:wk x:=by decide)
  (he:a8 (.List es0 lp::es) X.env=(false,a7 (.List es0 lp) X.env)::a8 es X.env:=by rfl) (hpl:(cE pos (a8 es X.env)).any (·.1)=false:=by rfl) (mW:k<=kr:=by decide):SE X B W (.Call (.Name x p) (.List es0 lp::es) [] pos) (fMT n g fs0 fs):=by
 obtain⟨f,fd,ps,F,hm,hk,hb⟩:=O;refine PE.imp (RJ F (hr.mono mW) hg hm hk hb (eZ (Cq h0) ha he) hdb he hpl) fun σ H Q ⟨ρ,G,s,q⟩=>⟨ρ,G,s,?_⟩
 unfold fMT at q;cases e1:fs0 ρ with
 |ex c n=>rw[e1]at q;exact q
 |no=>rw[e1]at q;exact q
 |ok es =>
  rw[e1]at q;intro vs H1 G1 x1 r1;have q1:=Post.ext x1 q;dsimp only[Rs.bind]at q1;have s1:=s.ext x1;by_cases hle:es.length<=1000
  case neg=>rw[if_neg hle]at q1;exact q1.elim
  rw[if_pos hle]at q1;refine⟨by rw[<- r1.length];exact xK hle,fun c hc=>?_⟩;have y:=yL (xs:=vs) s1.en.gh s1.en.tp hc;have s2:=s1.ext y;refine⟨ρ,G1,s2,?_⟩;have q2:=Post.ext y q1;cases e2:fs ρ with
  |ex c m=>rw[e2]at q2;exact q2
  |no=>rw[e2]at q2;exact q2
  |ok ds =>
   rw[e2]at q1;dsimp only at q1;intro us H2 G2 x2 r2;by_cases hl:ds.length=n
   ·rw[if_pos hl]at q1;have s3:=s2.ext x2;have hc2:H2 c=some (.lst vs):=x2.hh _ _ aV;have gc:G2 c=none:=x2.nw _ _ aV (s1.en.gh.free hc);refine⟨by rw[bu,<- r2.length,hl],c,us,G2,vs,es,ds,rfl,s3.ex0,gc,hc2,r1.mono x2.gg,r2,?_⟩;cases e3:g es ds with
    |no=>rw[e3]at q1;exact q1.elim
    |ex c m=>rw[e3]at q1;exact q1.elim
    |ok z =>
     obtain⟨d,es'⟩:=z;rw[e3]at q1;dsimp only at q1;intro v H' G' ws z1 z2 z3 z4 z5;have xx:Ext G1 H1 G2 (msk H2 c):=⟨x2.gg,fun b o w=>by
       rw[rH (aR w hc)];exact x2.hh _ _ (by rw[aQ (aR w hc)];exact w),fun b o w=>by
       rw[rH (aR w gc)];exact x2.gh b o w,fun b xs w=>x2.tp b xs (Hh w).2,fun b o w u=>x2.nw b o (by rw[aQ (aR w hc)];exact w) u⟩
     exact q1 v H' G' (xx.trans z1) z5
   ·rw[if_neg hl]at q1;exact q1.elim
end
section
variable{X:Cx}{B:Bs}
end
section
variable{X:Cx}{K:ai}{B:Bs}{W:Wi}{a b:ag}{pos:Pos}{fa fb:aD->Rs D}
end
end Vl
namespace Vl
open PySem PySem.Spec L2
section
variable{X:Cx}{B:Bs}{W:Wi}{K:ai}
variable{o e:ag}{apos cpos:Pos}{fo fe:aD->Rs D}
end
end Vl
namespace L2
open PySem PySem.Spec PyProof.Rows
section
variable{X:Cx}{tg:ag}
end
end L2
namespace Vl
open PySem PySem.Spec PySem.Calls PySem.W L2
section
variable{X:Cx}{B:Bs}{W:Wi}{K:ai}{σ:St}{G H:Hp}{ρ:aD}{De:Ends}
end
section
variable{P:aE}{w:ay}{K:c9}{mg:Str->Option aa}{base:aw}{x:Str}{st:aS}{N ps:List Str}{m:Nat}
theorem nQ{g:(List D->Rs D)->aD->Ou}{v:Nat->List D->Rs D}(k0:Nat)(F:lM K mg x st)(S:aX N ps (aC st))(hb:∀k vr,k0<=k->qd P w K mg base x k ps.length vr->Hb P w K mg base N x st k (g vr))
  (hbi:Bi x st ps:=by intro _ _ _ _ _ _ us hl;rcases us with _|⟨_,_|⟨_,_|⟨_,_|⟨_,_|⟨_,us⟩⟩⟩⟩⟩ <;> first|rfl|(simp only[bu,c7]at hl;lia)) (h0:v 0=fun _=>.no:=by rfl) (hs:∀n,v (n + 1)=fun ds=>jk (g (v n) (aP N ds)):=by intro _;rfl) :
  ∀n,qd P w K mg base x (k0 + 1 + n) ps.length (v n)
 | 0=>by rw[h0];exact wC (k:=k0) (g:=fun _=>.no) F S (fun _ _ _ _ _ _ _ _ _ _=>JN) hbi
 |n + 1=>by rw[hs];exact wC (k:=k0 + 1 + n) F S (hb _ _ (by lia) (nQ k0 F S hb hbi h0 hs n)) hbi
theorem Hv{g:(List D->List D->Rs (D×List D))->aD->Ou}{v:Nat->List D->List D->Rs (D×List D)}(k0:Nat)(F:lM K mg x st)(S:aX N ps (aC st))(hb:∀k vr,k0<=k->Br P w K mg base x k m vr->Hb P w K mg base N x st k (g vr))
  (hbi:Bi x st ps:=by intro _ _ _ _ _ _ us hl;rcases us with _|⟨_,_|⟨_,_|⟨_,_|⟨_,_|⟨_,us⟩⟩⟩⟩⟩ <;> first|rfl|(simp only[bu,c7]at hl;lia)) (hn:ps.length=m + 1:=by rfl) (h0:v 0=fun _ _=>.no:=by rfl) (hs:∀n,v (n + 1)=fun es ds=>Ab (g (v n) (fJ N es ds)):=by intro _;rfl) :
  ∀n,Br P w K mg base x (k0 + 1 + n) m (v n)
 | 0=>by rw[h0];exact Ht (k:=k0) (g:=fun _=>.no) F S (fun _ _ _ _ _ _ _ _ _ _=>JN) hbi hn
 |n + 1=>by rw[hs];exact Ht (k:=k0 + 1 + n) F S (hb _ _ (by lia) (Hv k0 F S hb hbi hn h0 hs n)) hbi hn
end
section
variable{X:Cx}{B:Bs}{W:Wi}{K:ai}
end
end Vl
namespace Vl
open PySem PySem.Spec PySem.Calls PySem.W L2 So Tb
section
variable{X:Cx}{B:Bs}{W:Wi}{K:ai}
end
end Vl
namespace Vl
open PySem PySem.Spec PySem.Calls PySem.W L2
section
variable{P:aE}{w:ay}{K:c9}{mg:Str->Option aa}{base:aw}{x:Str}{st:aS}{N ps:List Str}{k:Nat}
end
section
variable{X:Cx}{B:Bs}{W:Wi}
end
theorem iI{N P:List Str}{sc:Scope}(h:scB N P sc=true:=by decide+kernel):aX N P sc:=scp h
section
variable{X:Cx}{B:Bs}
theorem gC{e:ag}{f:aD->Rs D}(h:SE X B WF e f):SX X B e (xP f):=aoi h
theorem dU{es:List ag}{f:aD->Rs (List D)}(h:SA X B WF es f):SAX X B es (uy f):=alU h
end
section
variable{P:aE}{w:ay}{K:c9}{mg:Str->Option aa}{base:aw}
theorem RQ{qual a b:Str}{st:aS}{f C:ae}{p1 p2 p3 p4 q1 q2 q3 q4:Pos}(D:kW K "__init__" qual st f) (S:aX ["self",a,b] ["self",a,b] (aC st))
  (hb:cM st=[.Assign [.Attribute (.Name "self" p1) a p2] (.Name a p3) p4,.Assign [.Attribute (.Name "self" q1) b q2] (.Name b q3) q4]) (hk:RM K C f [a,b]=true) (hne:a≠b:=by decide)
  (hc:∀(cdv:aa) (A:aT) (outer:List Env) (s:af) (H:Hp) (E:XK),let X:=tR (wZ P w K) P w K mg base ["self",a,b] qual (aC st) f cdv A outer s H E
   Ik X.env.scope "self"/\Ik X.env.scope a/\Ik X.env.scope b/\dC (.Name a p3) (some (.Attribute (.Name "self" p1) a p2)) p4.line X.env=pure false/\dC (.Name b q3) (some (.Attribute (.Name "self" q1) b q2)) q4.line X.env=pure false:=by intros;exact And.intro (Or.inl rfl) (And.intro (Or.inl rfl) (And.intro (Or.inl rfl) (And.intro rfl rfl))))
  (hbi:∀(kV doc pm:aa) (an:Option ae) (cdv ct:aa) (us:List aa),us.length=3->bindArgs (kv "__init__" qual (iC st) (cM st) (aC st) .none kV doc pm an cdv ct) ⟨us,[]⟩=pure ((["self",a,b]:List Str).zip us):=by intro _ _ _ _ _ _ us hl;exact match us,hl with|[_,_,_],_=>rfl)
  (hd:wk a:=by decide) (hcd:Qc a:=by decide) (hd':wk b:=by decide) (hcd':Qc b:=by decide):XJ P w K mg base C [a,b] 1 :=
 amd D S hb hk hne hc hbi hd hcd hd' hcd'
end
end Vl
namespace L2
open PySem PySem.Spec PyProof.Rows Vl
structure apo (P:aE)(w:ay)(K:ai)(mg:Str->Option aa)(base:aw)(k:Nat)(f:ae)(fd:cz)(ps:List Str)(sp:List V->Hp->VK->Prop):Prop where
 len:∀vs H Q,sp vs H Q->vs.length=ps.length
 run:∀(A:aT) (ea:ae) (outer:List Env) (s:af) (H:Hp) (args:Args) (us:List aa) (vs:List V) (Q:VK),jP k A->Qk P w K mg base A outer s H->i0 s fd args (ps.zip us)->Vals vs us->sp vs H Q ->
  fg (ar P w) (A.mark (some (.ref ea))) (.call (.ref f) args) (CR (fun _ _ _ _ _ _=>False) outer P w H s Q fun _ _ _=>False) s
end L2
namespace Vl
open PySem PySem.Spec PySem.Calls PySem.W L2
section
variable{P:aE}{w:ay}{K:c9}{mg:Str->Option aa}{base:aw}{x:Str}{st:aS}{N ps:List Str}{k:Nat}{g:aD->Ou}
end
section
variable{X:Cx}{B:Bs}{ea:ae}
end
section
variable{X:Cx}{B:Bs}{W:Wi}{G H:Hp}
theorem pinned{P:aE}{w:ay}{H':Hp}{h:aw}{d:ae}{U:ae->List Int->Prop}{ug:List (List Int×V)}(z:mV P w H' h d (.ext (aeV U d ug))):∃o,mV P w H' h d (.ext fun h=>h.get? d=some o/\aeV U d ug h):=by obtain⟨hd,⟨o,ho⟩,hs⟩:=z;exact⟨o,⟨ho,hd⟩,⟨o,ho⟩,fun h1 h2 z k=>⟨k _ z.1,hs _ _ z.2 k⟩⟩
end
end Vl
namespace Vl
open PySem PySem.Spec PySem.Calls PySem.W L2 Dk
section
variable{prog:aE}{w:ay}{A:aT}{E:aa->af->Prop}{s:af}
end
section
variable{X:Cx}{B:Bs}{W:Wi}
variable{a b:ag}{pos:Pos}{fa fb:aD->Rs D}
end
end Vl
namespace Vl
open PySem PySem.Spec PySem.W L2
section
variable{X:Cx}{B:Bs}{W:Wi}{σ:L2.St}{H:Hp}{K:ai}
end
end Vl
namespace Vl
open PySem PySem.Spec PySem.Calls PySem.W L2
section
variable{prog:aE}{w:ay}{A:aT}{R:Result->af->Prop}{I:ae}{fp wr:List ae}{n:Nat}{P:Nat->aa->Prop}{St:Nat->aw->Prop}{dv:aa}
theorem ags(W:kD prog w A.in1 I fp wr n P St){bt:Nat->Nat->Bool}(hcmp:CmpOf prog w A.in1 .Gt P bt){S:ae}(hSf:S∉fp) :
  ∀(r j:Nat) (s:af) (vb:aa) (c:Nat),n - (j + 1)=r->j + 1<=n->St (j + 1) s.heap->P (g_ bt j) vb->s.heap.get? S=some (alX #[vb,vb] c) ->
  (∀v h' tk,P (g_ bt (n - 1)) v->(∀b o,b∉wr->b≠S->s.heap.get? b=some o->h'.get? b=some o)->R (.ok (.ret v)) { s with heap:=h',toks:=tk }) ->
  fg (ar prog w) A (.builtin "max.loop" ⟨[.ref I,.none,.ref S],[("default",dv)]⟩) R s:=by
 have hSw:S∉wr:=fun h=>hSf (W.sub _ h);have hname:(toString "max"++toString ".loop":String)="max.loop":=by decide
 intro r
 induction r with
 |zero =>
  intro j s vb c hk hj hst hPb hS hR;have hin:j + 1=n:=by lia
  refine ja we ?_;rw[km k_ _];show az _ A.in1 (oj (.ref S) >>= _) _ _ s;refine ah (gS hS rfl ?_);show az _ A.in1 (tryCatch (fy (.ref I)) _ >>= _) _ _ s;refine ah (oz (W.done s _ _ (hin▸hst) fun h' tk hk'=>?_));have hS':=hk' S _ hSw hS;show az _ A.in1 (qV S (fun _=>#[]) >>= _) _ _ _;refine ah (mB hS' rfl (ah (mP (a9 ?_))));exact hR vb _ tk (by rw[<- hin];exact hPb) fun b o hbw hbS e=>(f_ _ _ (br hbS)).trans (hk' b o hbw e)
 |succ r ih =>
  intro j s vb c hk hj hst hPb hS hR;have hlt:j + 1 < n:=by lia
  refine ja we ?_;rw[km k_ _];show az _ A.in1 (oj (.ref S) >>= _) _ _ s;refine ah (gS hS rfl ?_);show az _ A.in1 (tryCatch (fy (.ref I)) _ >>= _) _ _ s;refine ah (oz (W.item (j + 1) s _ _ hlt hst fun v h' tk hP hst' hk'=>?_));have hS':=hk' S _ hSw hS;show az _ A.in1 (tryCatch (eL [v,v] (richCompare .Gt v vb >>= _)) _ >>= _) _ _ _;refine ah (oz (gm (ah (hcmp (j + 1) (g_ bt j) v vb _ _ _ hP hPb ?_))));refine ah (gm (ll (ah (mP (a9 ?_)))));have pass:∀{h2:aw},(∀b o,b≠S->h'.get? b=some o->h2.get? b=some o)->∀v' h'' tk'',P (g_ bt (n - 1)) v'->(∀b o,b∉wr->b≠S->h2.get? b=some o->h''.get? b=some o)->R (.ok (.ret v')) { s with heap:=h'',toks:=tk'' }:=fun k2 v' h'' tk'' hP' hk'' =>
   hR v' h'' tk'' hP' fun b o hbw hbS e=>hk'' b o hbw hbS (k2 b o hbS (hk' b o hbw e))
  cases hb:bt (j + 1) (g_ bt j) with
  |true =>
   simp only[if_true];refine ah (mB hS' rfl (ah (mP ?_)));rw[hname];refine a9 ⟨ko k_ _,ih (j + 1) _ v _ (by lia) hlt (W.frame _ _ _ hst' fun b hbf o e=>?_) (by simp only[g_,hb,if_true];exact hP) (hZ _ hS' rfl) (pass fun b o hbS e=>(f_ _ _ (br hbS)).trans e)⟩;exact(f_ _ _ (fun h:S=b=>hSf (by rw[h];exact hbf))).trans e
  |false =>
   simp only[b8,if_false];refine ah (mP ?_);rw[hname];exact a9 ⟨ko k_ _,ih (j + 1) _ vb c (by lia) hlt hst' (by simp only[g_,hb,b8,if_false];exact hPb) hS' (pass fun b o _ e=>e)⟩
end
section
variable{X:Cx}{B:Bs}{W:Wi}{pins:List (ae×Obj)}{σ:St}
theorem ZP(a d:aa):mx "max" ⟨[a],[("default",d)]⟩:=by unfold mx;kernel_rfl
theorem ZQ{l:ae}{ns:List Int}{dv:aa}{Q:aa->af->Prop}{H:Hp}{s:af}(hc:X.calm=true)(I:Inv X pins σ H s)(hl:nu X.K H l (ns.map V.int))
  (hQ0:ns=[]->∀s,Inv X pins σ H s->Q dv s) (hQ:ns≠[]->∀s t,Inv X pins σ H s->Q (.int (qP ns) t) s) :
  az (ar X.prog X.w) X.A (call (.builtin "max") [.ref l] [("default",dv)]) Q X.xe s:=by
 have hname:(toString "max"++toString ".loop":String)="max.loop":=by decide
 refine PyProof.Rows.kmk_tree PySem.F.kind_max PySem.F.plain_max PySem.F.entry_max (ZP _ _) ?_;show az _ X.A.in1 (cS.Builtins.bindParams "max" ["key","default"] 0 ⟨[],[("default",dv)]⟩ >>= _) _ _ s;refine ah (qA (show cS.Builtins.bindParams "max" ["key","default"] 0 ⟨[],[("default",dv)]⟩=pure [none,some dv] from by first|rfl|kernel_rfl) ?_);refine ah (a9 ?_);obtain⟨its,rv,p,_⟩:=I.list hl;have hi:=zQ rv;obtain⟨ys,e⟩:=hi.allInts.items;have hns:ns=ys.toList.map (·.1):=by rw[<- hi.numsOf,<- wa,<- e]
 have hlen:ns.length=ys.size:=by rw[hns,b_,fw]
 have hl':=p.isList;rw[e]at hl';refine ah (o3 hl' ?_);refine ah (i8 ?_);rw[hname];have sz:∀(h:aw) (o:Obj),(h.push o).objs.size=h.objs.size + 1:=fun h o=>gr ..;generalize hO:({ cls:=.type "list_iterator",data:=.fields #[.ref l,.int 0 0] }:Obj)=O at *;have aon:l < s.heap.objs.size:=by obtain⟨_,e,_⟩:=hl';exact bE e
 have kp:∀b o,s.heap.get? b=some o->((s.heap.push O).push { cls:=.type "list",data:=.seq ([]:List aa).toArray }).get? b=some o:=fun b o e=>cm _ (cm _ e);have hSI:(s.heap.push O).objs.size≠s.heap.objs.size:=by rw[sz];lia
 have hSl:(s.heap.push O).objs.size≠l:=by rw[sz];lia
 have hSf:(s.heap.push O).objs.size∉[s.heap.objs.size,l]:=fun z=>by
  rcases bq.mp z with z|z
  ·exact hSI z
  ·exact hSl (dE.mp z)
 have hit:((s.heap.push O).push { cls:=.type "list",data:=.seq ([]:List aa).toArray }).IsListIter s.heap.objs.size l 0:=by subst hO;exact⟨_,cm _ (cK _ rfl),rfl,rfl⟩
 have hS:((s.heap.push O).push { cls:=.type "list",data:=.seq ([]:List aa).toArray }).get? (s.heap.push O).objs.size=some (alX #[] 0):=cK _ rfl;refine a9 ⟨ko k_ _,?_⟩;show fg (ar X.prog X.w) X.A (.builtin "max.loop" ⟨[.ref s.heap.objs.size,.none,.ref (s.heap.push O).objs.size],[("default",dv)]⟩) _ _;have Wk:=kD.list (prog:=X.prog) (w:=X.w) (A:=X.A.in1) (I.ok.hd hc) s.heap.objs.size l (cq aon) (oq ys);have hsz:(oq ys).size=ys.size:=by simp[oq]
 have hpl:=(hl'.push O).push { cls:=.type "list",data:=.seq ([]:List aa).toArray };refine ja we ?_;rw[km k_ _];show az _ X.A.in1 (oj (.ref (s.heap.push O).objs.size) >>= _) _ _ _;refine ah (gS hS rfl ?_);show az _ X.A.in1 (tryCatch (fy (.ref s.heap.objs.size)) _ >>= _) _ _ _;have old:∀{h':aw},(∀b o,b∉[s.heap.objs.size]->b≠(s.heap.push O).objs.size->((s.heap.push O).push { cls:=.type "list",data:=.seq ([]:List aa).toArray }).get? b=some o->h'.get? b=some o)->∀b o,s.heap.get? b=some o->h'.get? b=some o:=fun k b o e=>by have:=bE e;exact k b o (by simpa using cq this) (by rw[sz];lia) (kp b o e)
 by_cases hn:ns=[]
 ·have h0:(oq ys).size=0:=by rw[hsz,<- hlen,hn];rfl
  refine ah (oz (Wk.done _ _ _ ⟨by rw[h0];exact hit,hpl⟩ fun h' tk' hk'=>?_));refine ah (ij (a9 ?_));exact hQ0 hn _ (I.kept (t':=tk') (old fun b o h1 _ e=>hk' b o h1 e))
 ·have h0:0 < ys.size:=by rw[<- hlen];exact wm.mpr hn
  refine ah (oz (Wk.item 0 _ _ _ (by rw[hsz];exact h0) ⟨hit,hpl⟩ fun u h' tk' hP hst' hk'=>?_));have hS1:=hk' _ _ (by simpa using hSI) hS;show az _ X.A.in1 (qV (s.heap.push O).objs.size (fun _=>#[u,u]) >>= _) _ _ _;refine ah (mB hS1 rfl ?_);rw[hname];refine a9 ⟨ko k_ _,ags Wk (CmpOf.ints_gt (eC ys) fun _ _=>wb) hSf _ 0 _ u _ rfl (by rw[hsz];exact h0) (Wk.frame _ _ _ hst' fun b hbf o e=>?_) hP (hZ _ hS1 rfl) fun v h'' tk'' hP' hk''=>?_⟩
  ·refine(f_ _ _ fun z=>?_).trans e;rw[<- z]at hbf;exact hSf hbf
  ·rw[hsz]at hP';obtain⟨t,rfl⟩:=wb hP';obtain⟨b1,b2⟩:=argBest_gt (eC ys) (ys.size - 1);have m1:eC ys (g_ (fun i j=>decide (eC ys i > eC ys j)) (ys.size - 1))∈ns:=by rw[hns,se];exact PySem.getD_mem (by rw[b_,fw];lia)
   have m2:∀a∈ns,a<=eC ys (g_ (fun i j=>decide (eC ys i > eC ys j)) (ys.size - 1)):=fun a ha=>by rw[hns]at ha;obtain⟨j,hj,rfl⟩:=PySem.mem_getD ha;rw[b_,fw]at hj;rw[<- se];exact b2 j (by lia)
   obtain⟨k1,k2⟩:=yR (wm.mpr hn);rw[Int.le_antisymm (k2 _ m1) (m2 _ k1)];exact hQ hn _ t (I.kept (t':=tk'') (old fun b o h1 h2 e=>hk'' b o h1 h2 ((f_ _ _ (br h2)).trans (hk' b o h1 e))))
noncomputable def RT(fa fd:aD->Rs D):aD->Rs D:=fun ρ=>match fa ρ with
 | .ok (.lst ds)=>(match fd ρ with
  | .ok dd=>(match jC ds with|some ns=>.ok (if ns=[] then dd else .int (qP ns))|none=>.no)
  |_=>.no)
 |_=>.no
theorem agt{a ed:ag}{p pos k2:Pos}{fa fd:aD->Rs D}(hc:X.calm=true) (hm:X.mg "max"=none) (ha:SE X B W a fa) (hd:SE X B W ed fd) (hg:Gl X "max":=by rfl)
  (hst:a8 [a] X.env=[(false,a7 a X.env)]:=by rfl)
  (he:cE pos (a8 [a] X.env)=(false,a7 a X.env)::cE pos (a8 [] X.env):=by rfl)
  (hplain:(cE pos (a8 [a] X.env)).any (·.1)=false:=by rfl)
  (hall:(gy pos (gz [⟨some "default",ed,k2⟩] X.env)).all (·.1.isSome)=true:=by rfl)
  (hkw:(gy pos (gz [⟨some "default",ed,k2⟩] X.env)).any (·.1.isNone)=false:=by rfl)
  (hnm:(gy pos (gz [⟨some "default",ed,k2⟩] X.env)).filterMap (·.1)=[("default":Str)]:=by rfl) :
  SE X B W (.Call (.Name "max" p) [a] [⟨some "default",ed,k2⟩] pos) (RT fa fd):=by
 intro pins s σ H Q I ⟨ρ,G,sr,h⟩;unfold RT at h;cases ea:fa ρ with
 |no=>rw[ea]at h;exact h.elim
 |ex _ _=>rw[ea]at h;exact h.elim
 |ok da =>
  rw[ea]at h;cases da with
  |lst ds =>
   dsimp only at h;cases ed':fd ρ with
   |no=>rw[ed']at h;exact h.elim
   |ex _ _=>rw[ed']at h;exact h.elim
   |ok dd =>
    rw[ed']at h;dsimp only at h;cases ek:jC ds with
    |none=>rw[ek]at h;exact h.elim
    |some ns =>
     rw[ek]at h;dsimp only at h;have pst:∀v H' G',Ext G H G' H'->Rep X.K G' (if ns=[] then dd else .int (qP ns)) v->Q v H':=h;refine kK (zO I hg hm rfl ?_ (by decide) (by decide));refine PyProof.Rows.callWith_kw ?_ he hplain hall hkw;rw[hnm];refine nq (eZ ha kZ hst pos pins s σ H (fun vs H1=>∃v G1,vs=[v]/\Ext G H G1 H1/\Rep X.K G1 (.lst ds) v) I ⟨ρ,G,sr,?_⟩) fun us s1 ⟨vs,H1,I1,r1,v1,G1,e1,x1,rp1⟩=>?_
     ·rw[ea];exact fun v H1 G1 x r=>⟨v,G1,rfl,x,r⟩
     subst e1;obtain⟨l,xs,rfl,hl,rxs⟩:=bO.mp rp1;cases r1 with|cons rl r1 =>
     cases r1;cases rl;have sr1:=sr.ext x1;refine PyProof.Rows.kws_cons (nq (hd _ s1 σ H1 (fun v H3=>∃G3,Ext G1 H1 G3 H3/\Rep X.K G3 dd v) I1 ⟨ρ,G1,sr1,?_⟩) fun u3 s3 ⟨v3,H3,I3,r3,G3,x3,rp3⟩=>?_)
     ·rw[ed'];exact fun v H3 G3 x r=>⟨G3,x,r⟩
     refine PyProof.Rows.kws_nil ?_;have x03:Ext G H G3 H3:=x1.trans x3;have sr3:=sr1.ext x3;rw[Bp ek]at rxs;have eu:=qO rxs;subst eu;have hl3:nu X.K H3 l (ns.map V.int):=sr3.en.gh.seq (Same.seq x3.gg hl);refine ZQ hc I3 hl3 (fun hn s' I'=>⟨v3,H3,I',r3,pst v3 H3 G3 x03 (by rw[if_pos hn];exact rp3)⟩) fun hn s' t I'=>⟨.int (qP ns),H3,I',⟨t,rfl⟩,pst _ H3 G3 x03 (by rw[if_neg hn];exact bN.mpr rfl)⟩
  |_=>exact h.elim
end
noncomputable abbrev Mp:=List (List Int×List D)
inductive LR (K:c9) (B:Bs) (G H:Hp):Mp->List (List Int×V)->Prop
 |nil:LR K B G H [] []
 |cons {k:List Int}{ds:List D}{l:ae}{vs:List V}{m:Mp}{ug:List (List Int×V)}:H l=some (.lst vs)->G l=none->B.2 l=none->bH K G ds vs->(∀p∈ug,p.2≠.ref l)->LR K B G H m ug->LR K B G H ((k,ds)::m) ((k,.ref l)::ug)
section
variable{K:c9}{B:Bs}{G H G' H':Hp}{m:Mp}{ug:List (List Int×V)}{σ:St}{ρ:aD}
end
section
variable{X:Cx}{B:Bs}{W:Wi}
end
end Vl
namespace xq
open PySem PySem.Spec PySem.Calls PySem.W L2 Vl
def top(i:Nat):aS:=PySem.Challenge.pw_edgemoss_k41_words_and_counts.main.body.getD i (.Pass ⟨0,0,0,0⟩)
noncomputable def amf:aS->List aS
 | .ClassDef _ _ _ b _ _ _ _ _ _ _=>b
 |_=>[]
noncomputable abbrev cb(i j:Nat):aS:=(amf (top i)).getD j (.Pass ⟨0,0,0,0⟩)
noncomputable abbrev yc:aS:=top 20
noncomputable abbrev yd:aS:=top 21
noncomputable abbrev vK:aS:=top 22
noncomputable abbrev yg:aS:=top 23
noncomputable abbrev yh:aS:=top 24
noncomputable abbrev vL:aS:=top 35
noncomputable abbrev yj:aS:=top 34
noncomputable abbrev yp:aS:=top 36
noncomputable abbrev vM:aS:=top 27
noncomputable abbrev vN:aS:=top 26
noncomputable abbrev sV:aS:=top 25
noncomputable abbrev vO:aS:=top 28
noncomputable abbrev Ad:aS:=top 29
noncomputable abbrev jQ:aS:=cb 5 1
noncomputable abbrev jR:aS:=cb 9 4
noncomputable abbrev lE:aS:=cb 10 4
noncomputable abbrev jT:aS:=cb 11 4
noncomputable abbrev jU:aS:=cb 12 4
noncomputable abbrev iV:aS:=cb 13 4
noncomputable abbrev pB:aS:=top 30
noncomputable abbrev CW:aS:=top 31
noncomputable abbrev yU:aS:=top 14
noncomputable abbrev sW:aS:=top 32
noncomputable abbrev Ni:aS:=top 15
noncomputable abbrev sZ:aS:=top 33
noncomputable abbrev nR:aS:=cb 6 2
noncomputable abbrev jV:aS:=cb 7 2
noncomputable abbrev iB:aS:=cb 8 2
noncomputable abbrev nU:aS:=top 2
noncomputable abbrev nW:aS:=cb 9 5
noncomputable abbrev vP:aS:=top 3
noncomputable abbrev tZ:aS:=top 4
noncomputable abbrev pP:aS:=cb 10 5
noncomputable abbrev nY:aS:=cb 11 5
noncomputable abbrev nZ:aS:=cb 12 5
noncomputable abbrev lF:aS:=cb 13 5
noncomputable abbrev yq:aS:=top 17
noncomputable abbrev yr:aS:=top 37
noncomputable abbrev yt:aS:=top 19
noncomputable abbrev wG:aS:=top 38
noncomputable abbrev Bv:aS:=cb 9 0
noncomputable abbrev Fi:aS:=cb 10 0
noncomputable abbrev Bw:aS:=cb 11 0
noncomputable abbrev Bx:aS:=cb 12 0
noncomputable abbrev vQ:aS:=cb 13 0
noncomputable def CZ(c:Str):Bool:=bX c [("Move",true)] == some true
noncomputable def pC(c:Str):Bool:=bX c [("Eat",true),("Grow",true)] == some true
noncomputable def lG(c:Str):Bool:=bX c [("Move",true),("Eat",true),("Grow",true)] == some true
noncomputable def lQ(c:Str):Bool:=bX c [("Both",true),("Either",true)] == some true
noncomputable def uE(c:Str):Bool:=bX c [("Both",true),("Either",true)] == some true
noncomputable def ajF(c:Str):Option Bool:=bX c [("Keep",true),("Nothing",false),("Everything",false),("Move",false),("Eat",false),("Grow",false),("Both",false),("Either",false)]
noncomputable def ajG(c:Str):Option Bool:=bX c [("Keep",false),("Nothing",true),("Everything",false),("Move",false),("Eat",false),("Grow",false),("Both",false),("Either",false)]
noncomputable def ajH(c:Str):Option Bool:=bX c [("Keep",false),("Nothing",false),("Everything",true),("Move",false),("Eat",false),("Grow",false),("Both",false),("Either",false)]
noncomputable def ajI(c:Str):Option Bool:=bX c [("Keep",false),("Nothing",false),("Everything",false),("Move",true),("Eat",false),("Grow",false),("Both",false),("Either",false)]
noncomputable def ajJ(c:Str):Option Bool:=bX c [("Keep",false),("Nothing",false),("Everything",false),("Move",false),("Eat",true),("Grow",false),("Both",false),("Either",false)]
noncomputable def ajK(c:Str):Option Bool:=bX c [("Keep",false),("Nothing",false),("Everything",false),("Move",false),("Eat",false),("Grow",true),("Both",false),("Either",false)]
noncomputable def ajL(c:Str):Option Bool:=bX c [("Keep",false),("Nothing",false),("Everything",false),("Move",false),("Eat",false),("Grow",false),("Both",true),("Either",false)]
noncomputable def ajM(c:Str):Option Bool:=bX c [("Keep",false),("Nothing",false),("Everything",false),("Move",false),("Eat",false),("Grow",false),("Both",false),("Either",true)]
noncomputable def ajN(c:Str):Option Bool:=bX c [("Keep",true),("Nothing",true),("Everything",true),("Move",true),("Eat",true),("Grow",true),("Both",true),("Either",true)]
structure Txt (P:aE)(w:ay)(base:aw)(K:c9)(mg:Str->Option aa)(lH dg bC aU cF eE cG cB bD:ae):Prop where
 ahA:mg "all"=none
 Nj:mg "bool"=none
 RV:mg "enumerate"=none
 adG:mg "int"=none
 bL:mg "isinstance"=none
 BJ:mg "len"=none
 Vt:mg "list"=none
 ahB:mg "max"=none
 Fj:mg "range"=none
 amg:mg "set"=none
 adH:mg "sorted"=none
 Ky:mg "str"=none
 ahC:mg "sum"=none
 BK:mg "tuple"=none
 ahD:mg "zip"=none
 ajO:mg "Plan"=some (.ref lH)
 Vu:bz K bb "Plan"=some (some (.ref lH))
 adI:mg "Keep"=some (.ref dg)
 mD:bz K bb "Keep"=some (some (.ref dg))
 Kz:mg "Nothing"=some (.ref bC)
 eO:bz K bb "Nothing"=some (some (.ref bC))
 BL:mg "Everything"=some (.ref aU)
 cg:bz K bb "Everything"=some (some (.ref aU))
 adJ:mg "Move"=some (.ref cF)
 kj:bz K bb "Move"=some (some (.ref cF))
 ahE:mg "Eat"=some (.ref eE)
 oU:bz K bb "Eat"=some (some (.ref eE))
 adK:mg "Grow"=some (.ref cG)
 kE:bz K bb "Grow"=some (some (.ref cG))
 Vv:mg "Both"=some (.ref cB)
 jG:bz K bb "Both"=some (some (.ref cB))
 RW:mg "Either"=some (.ref bD)
 fu:bz K bb "Either"=some (some (.ref bD))
 Vw:IK K dg=true
 Dc:IK K bC=true
 vR:IK K aU=true
 adL:∀c C,CZ c=true->bz K bb c=some (some (.ref C))->jl K C=true/\b6 K (.ref C) "step"=some none
 Nk:∀c C,pC c=true->bz K bb c=some (some (.ref C))->jl K C=true/\b6 K (.ref C) "piece"=some none
 Ae:∀c C,lG c=true->bz K bb c=some (some (.ref C))->jl K C=true/\b6 K (.ref C) "plan"=some none
 BP:∀c C,lQ c=true->bz K bb c=some (some (.ref C))->jl K C=true/\b6 K (.ref C) "other"=some none
 RZ:∀c C,uE c=true->bz K bb c=some (some (.ref C))->jl K C=true/\b6 K (.ref C) "one"=some none
 aoo:∀c b C,ajF c=some b->bz K bb c=some (some (.ref C))->jl K C=true/\bg K (.ref C) (.ref dg)=some b
 aop:∀c b C,ajG c=some b->bz K bb c=some (some (.ref C))->jl K C=true/\bg K (.ref C) (.ref bC)=some b
 aoq:∀c b C,ajH c=some b->bz K bb c=some (some (.ref C))->jl K C=true/\bg K (.ref C) (.ref aU)=some b
 aor:∀c b C,ajI c=some b->bz K bb c=some (some (.ref C))->jl K C=true/\bg K (.ref C) (.ref cF)=some b
 aos:∀c b C,ajJ c=some b->bz K bb c=some (some (.ref C))->jl K C=true/\bg K (.ref C) (.ref eE)=some b
 aot:∀c b C,ajK c=some b->bz K bb c=some (some (.ref C))->jl K C=true/\bg K (.ref C) (.ref cG)=some b
 aou:∀c b C,ajL c=some b->bz K bb c=some (some (.ref C))->jl K C=true/\bg K (.ref C) (.ref cB)=some b
 aov:∀c b C,ajM c=some b->bz K bb c=some (some (.ref C))->jl K C=true/\bg K (.ref C) (.ref bD)=some b
 aow:∀c b C,ajN c=some b->bz K bb c=some (some (.ref C))->jl K C=true/\bg K (.ref C) (.ref lH)=some b
theorem ZR:aX ["self","step","plan"] ["self","step","plan"] (aC Bv):=iI
theorem adM:aX ["self","piece","plan"] ["self","piece","plan"] (aC Fi):=iI
theorem ZS:aX ["self","piece","plan"] ["self","piece","plan"] (aC Bw):=iI
theorem ZV:aX ["self","one","other"] ["self","one","other"] (aC Bx):=iI
theorem Sd:aX ["self","one","other"] ["self","one","other"] (aC vQ):=iI
theorem BR:aX ["pot","many","digit"] ["pot","many"] (aC yc):=iI
theorem vU:aX ["pot","far","row"] ["pot"] (aC yd):=iI
theorem uc:aX ["pot","most","steps","k"] ["pot","most"] (aC vK):=iI
theorem oh:aX ["pot","depth","most","way","step","piece","one"] ["pot","depth","most"] (aC yg):=iI
theorem Nm:aX ["form"] ["form"] (aC yh):=iI
theorem gO:aX ["pot","many","form","k","way","leaf"] ["pot","many"] (aC vL):=iI
theorem BW:aX ["pot","many","word"] ["pot","many"] (aC yj):=iI
theorem jH:aX ["pot","k","way","depth","form","plan"] ["pot","k"] (aC yp):=iI
theorem IV:aX ["form"] ["form"] (aC vM):=iI
theorem gP:aX ["form","words","steps","row","column","part"] ["form"] (aC vN):=iI
theorem Np:aX ["found","due"] ["found","due"] (aC sV):=iI
theorem zx:aX ["plan","found"] ["plan"] (aC vO):=iI
theorem Sg:aX ["plan","form"] ["plan","form"] (aC Ad):=iI
theorem Dd:aX ["self"] ["self"] (aC jQ):=iI
theorem Df:aX ["self"] ["self"] (aC jR):=iI
theorem Eb:aX ["self"] ["self"] (aC lE):=iI
theorem Dg:aX ["self"] ["self"] (aC jT):=iI
theorem Dh:aX ["self"] ["self"] (aC jU):=iI
theorem Af:aX ["self"] ["self"] (aC iV):=iI
theorem lJ:aX ["plan","form","way","forms","inner"] ["plan","form","way"] (aC pB):=iI
theorem Vx:aX ["plan","form"] ["plan","form"] (aC CW):=iI
theorem Vy:aX ["plan"] ["plan"] (aC yU):=iI
theorem Nq:aX ["form"] ["form"] (aC sW):=iI
theorem agu:aX ["plan"] ["plan"] (aC Ni):=iI
theorem Nr:aX ["form"] ["form"] (aC sZ):=iI
theorem IW:aX ["self"] ["self"] (aC nR):=iI
theorem Di:aX ["self"] ["self"] (aC jV):=iI
theorem yZ:aX ["self"] ["self"] (aC iB):=iI
theorem Ec:aX ["numbers"] ["numbers"] (aC nU):=iI
theorem Ja:aX ["self"] ["self"] (aC nW):=iI
theorem ud:aX ["steps","told","step"] ["steps"] (aC vP):=iI
theorem Hw:aX ["piece"] ["piece"] (aC tZ):=iI
theorem Nt:aX ["self"] ["self"] (aC pP):=iI
theorem Jb:aX ["self"] ["self"] (aC nY):=iI
theorem Jc:aX ["self"] ["self"] (aC nZ):=iI
theorem Ed:aX ["self"] ["self"] (aC lF):=iI
theorem Nu:aX ["plan"] ["plan"] (aC yq):=iI
theorem ou:aX ["plan","form","words","turn","found","inner"] ["plan","form"] (aC yr):=iI
theorem jJ:aX ["cell","many","number","one","k","two"] ["cell","many"] (aC yt):=iI
theorem Hx:aX ["script","k","cell","plan","form"] ["script"] (aC wG):=iI
section
variable{P:aE}{w:ay}{K:c9}{mg:Str->Option aa}{base:aw}{lH dg bC aU cF eE cG cB:ae}{bD:ae}
theorem agv{f:ae}(D:kW K "__init__" "Move.__init__" Bv f) (hk:RM K cF f ["step","plan"]=true):XJ P w K mg base cF ["step","plan"] 1 :=
 RQ (st:=Bv) D ZR rfl hk
theorem ajP{f:ae}(D:kW K "__init__" "Eat.__init__" Fi f) (hk:RM K eE f ["piece","plan"]=true):XJ P w K mg base eE ["piece","plan"] 1 :=
 RQ (st:=Fi) D adM rfl hk
theorem agw{f:ae}(D:kW K "__init__" "Grow.__init__" Bw f) (hk:RM K cG f ["piece","plan"]=true):XJ P w K mg base cG ["piece","plan"] 1 :=
 RQ (st:=Bw) D ZS rfl hk
theorem agx{f:ae}(D:kW K "__init__" "Both.__init__" Bx f) (hk:RM K cB f ["one","other"]=true):XJ P w K mg base cB ["one","other"] 1 :=
 RQ (st:=Bx) D ZV rfl hk
theorem ZW{f:ae}(D:kW K "__init__" "Either.__init__" vQ f) (hk:RM K bD f ["one","other"]=true):XJ P w K mg base bD ["one","other"] 1 :=
 RQ (st:=vQ) D Sd rfl hk
noncomputable def tu:aD->Ou :=
  bR (rD 2 (bW Io (ZD 0 (fC (.int 0))) (aF 1)))
  (bR (RN 0 (bW Qy (ZD 0 (fC (.int 0))) (aF 1)) (fC (.int 0)))
  (xg (xP (aF 2))))
noncomputable def bf:List D->List D->Rs (D×List D):=fun es ds=>Ab (tu (fJ ["pot","many","digit"] es ds))
variable(T:Txt P w base K mg lH dg bC aU cF eE cG cB bD)
include T
theorem Nv(F:lM K mg "_law_take" yc) :Br P w K mg base "_law_take" 1 1 bf :=
 Ht (k:=0) (g:=tu) F BR fun _ _ _ _ _ _ _ _ hr hx =>
  aN (mO 2 BR.nd (zT (ady 0 aH) (sv 1)))
  (aN (agr 0 (Lh (ady 0 aH) (sv 1)) aH)
  (aO (nO (gC (sv 2)))))
noncomputable def tD:aD->Ou :=
  bR (qj 1 (Hj jB (xP (fA (ao (fC (.int 1)) (ao (fC (.int 2)) (ao (fC (.int 3)) (ao (bW Qz (fC (.int 10)) (fC (.int 6))) aL)))) jY)) (xM 0 1 bf (uy (ao (fC (.int 4)) aL)))))
  (bR (qj 2 (Hj rZ (xM 0 1 bf (uy (ao (bW iT (bW wY (fC (.int 2)) (aF 1)) (fC (.int 1))) aL))) (xP (aF 1))))
  (xg (xA (iz (xP (aF 2)) (iz (Hj rZ (xM 0 1 bf (uy (ao (bW iT (bW wY (fC (.int 2)) (aF 1)) (fC (.int 1))) aL))) (xP (aF 1))) Bt)) iR)))
noncomputable def gk:List D->List D->Rs (D×List D):=fun es ds=>Ab (tD (fJ ["pot","far","row"] es ds))
theorem Nx(F:lM K mg "_law_step" yd) (bh:Br P w K mg base "_law_take" 1 1 bf):Br P w K mg base "_law_step" 2 0 gk :=
 Ht (k:=1) (g:=tD) F vU fun _ _ _ _ _ _ _ _ hr hx =>
  aN (kh 1 vU.nd (DN (gC (fH (aj aH (aj aH (aj aH (aj (Ut aH aH) au)))))) (bQ 0 bh hr (dU (aj aH au)))))
  (aN (kh 2 vU.nd (adx (bQ 0 bh hr (dU (aj (jZ (zR aH (sv 1)) aH) au))) (gC (sv 1))))
  (aO (nO (vG (bZ (gC (sv 2)) (bZ (adx (bQ 0 bh hr (dU (aj (jZ (zR aH (sv 1)) aH) au))) (gC (sv 1))) mL))))))
noncomputable def pF:aD->Ou :=
  RK 2 (xM 0 0 gk (uy aL))
noncomputable def qT:aD->Ou :=
  bR (Zk 2 aL)
  (bR (Gh (XC (cj 3) pF (Hj iT (xP (fC (.int 1))) (xM 0 1 bf (uy (ao (aF 1) aL))))))
  (ada 2 (xg (xP (fA (ao (GQ (fK (aF 2))) aL) FZ)))))
noncomputable def jK:List D->List D->Rs (D×List D):=fun es ds=>Ab (qT (fJ ["pot","most","steps","k"] es ds))
theorem Jd(F:lM K mg "_law_piece" vK) (eU:Br P w K mg base "_law_step" 2 0 gk) (bh:Br P w K mg base "_law_take" 1 1 bf):Br P w K mg base "_law_piece" 3 1 jK :=
 Ht (k:=2) (g:=qT) F uc fun _ _ _ _ _ _ _ _ hr hx =>
  aN (Mu 2 uc.nd au)
  (aN (xT (agg ky rfl T.Fj (MK (gC aH) (bQ 0 bh hr (dU (aj (sv 1) au)))) (rg 3 uc.nd) (aO (agh 2 (bQ 0 eU hr (dU au))))))
  (Mv 2 (aO (nO (gC (adb T.BK (Vo rfl T.adH (ajh rfl (gM hr) T.amg (sv 2)))))))))
noncomputable def gq(vr:List D->List D->Rs (D×List D)):aD->Ou :=
  bR (qj 3 (xM 0 1 bf (uy (ao (fC (.int 10)) aL))))
  (bR (pZ (Lg (fT (bW su (aF 1) (fC (.int 0)))) (fT (bW gGt (aF 3) (fC (.int 7))))) (xg (Hj jB (xP (fA (ao (fA (ao (fC (.str "keep")) aL) iR) (ao (fA (ao (fC (.str "keep")) aL) iR) (ao (fA (ao (fC (.str "keep")) aL) iR) (ao (fA (ao (fC (.str "none")) aL) iR) (ao (fA (ao (fC (.str "all")) aL) iR) aL))))) jY)) (xM 0 1 bf (uy (ao (fC (.int 5)) aL))))) sG)
  (bR (pZ (fT (bW gLt (aF 3) (fC (.int 2)))) (bR (qj 4 (xM 0 0 gk (uy aL)))
  (xg (xA (iz (xP (fC (.str "move"))) (iz (xP (aF 4)) (iz (xM 0 2 vr (uy (ao (bW rZ (aF 1) (fC (.int 1))) (ao (aF 2) aL)))) Bt))) iR))) sG)
  (bR (pZ (fT (bW gLt (aF 3) (fC (.int 6)))) (bR (qj 5 (xM 0 1 jK (uy (ao (aF 2) aL))))
  (xg (xA (iz (xP (bW jB (fA (ao (fC (.str "eat")) (ao (fC (.str "grow")) aL)) jY) (bW Io (aF 3) (fC (.int 2))))) (iz (xP (aF 5)) (iz (xM 0 2 vr (uy (ao (bW rZ (aF 1) (fC (.int 1))) (ao (aF 2) aL)))) Bt))) iR))) sG)
  (bR (qj 6 (xM 0 2 vr (uy (ao (bW rZ (aF 1) (fC (.int 1))) (ao (aF 2) aL)))))
  (xg (xA (iz (xP (bW jB (fA (ao (fC (.str "both")) (ao (fC (.str "either")) aL)) jY) (bW Io (aF 3) (fC (.int 2))))) (iz (xP (aF 6)) (iz (xM 0 2 vr (uy (ao (bW rZ (aF 1) (fC (.int 1))) (ao (aF 2) aL)))) Bt))) iR))))))
noncomputable def dW:Nat->List D->List D->Rs (D×List D)
 | 0=>fun _ _=>.no
 |n + 1=>fun es ds=>Ab (gq (dW n) (fJ ["pot","depth","most","way","step","piece","one"] es ds))
theorem Ny(F:lM K mg "_law_form" yg) (bh:Br P w K mg base "_law_take" 1 1 bf) (eU:Br P w K mg base "_law_step" 2 0 gk) (lR:Br P w K mg base "_law_piece" 3 1 jK):∀n,Br P w K mg base "_law_form" (3 + 1 + n) 2 (dW n) :=
 Hv (g:=gq) 3 F oh fun _ _ hk dX _ _ _ _ _ _ _ _ hr hx =>
  by
   refine @aN _ _ _ _ _ _ _ ?_ ?_
   ·exact kh 3 oh.nd (bQ 0 bh hr (dU (aj aH au)) (mW:=ck (by decide) hk))
   refine @aN _ _ _ _ _ _ _ ?_ ?_
   ·refine @dR _ _ _ _ _ _ _ _ _ _ (DX (zf (lg (gM hr) (sv 1) aH) (tU (abZ (sv 3) aH)))) ?_ ?_
    ·refine @aO _ _ _ _ _ ?_
     ·exact nO (DN (gC (@fH _ _ _ _ _ _ (@fj _ _ _ _ _ _ _ (iy (aj bB au)) (@fj _ _ _ _ _ _ _ (iy (aj bB au)) (@fj _ _ _ _ _ _ _ (iy (aj bB au)) (@fj _ _ _ _ _ _ _ (iy (aj bB au)) (@fj _ _ _ _ _ _ _ (iy (aj bB au)) au rfl) rfl) rfl) rfl) rfl))) (bQ 0 bh hr (dU (aj aH au)) (mW:=ck (by decide) hk)))
    ·exact cC
   refine @aN _ _ _ _ _ _ _ ?_ ?_
   ·exact dR (abY (sv 3) aH) (aN (kh 4 oh.nd (bQ 0 eU hr (dU au) (mW:=ck (by decide) hk)))
  (aO (nO (vG (bZ (gC bB) (bZ (gC (sv 4)) (bZ (bQ 0 dX hr (dU (aj (rB (sv 1) aH) (aj (sv 2) au))) (mW:=bj _)) mL))))))) cC
   refine @aN _ _ _ _ _ _ _ ?_ ?_
   ·exact dR (abY (sv 3) aH) (aN (kh 5 oh.nd (bQ 0 lR hr (dU (aj (sv 2) au)) (mW:=ck (by decide) hk)))
  (aO (nO (vG (bZ (gC (dY (fH (aj bB (aj bB au))) (zT (sv 3) aH))) (bZ (gC (sv 5)) (bZ (bQ 0 dX hr (dU (aj (rB (sv 1) aH) (aj (sv 2) au))) (mW:=bj _)) mL))))))) cC
   refine @aN _ _ _ _ _ _ _ ?_ ?_
   ·exact kh 6 oh.nd (bQ 0 dX hr (dU (aj (rB (sv 1) aH) (aj (sv 2) au))) (mW:=bj _))
   refine @aO _ _ _ _ _ ?_
   ·exact nO (vG (bZ (gC (dY (fH (aj bB (aj bB au))) (zT (sv 3) aH))) (bZ (gC (sv 6)) (bZ (bQ 0 dX hr (dU (aj (rB (sv 1) aH) (aj (sv 2) au))) (mW:=bj _)) mL))))
noncomputable def dB(vr:List D->Rs D):aD->Ou :=
  bR (pZ (fT (bW su (bW jB (aF 0) (fC (.int 0))) (fC (.str "keep")))) (iG (fC (.obj "Keep" [] []))) sG)
  (bR (pZ (fT (bW su (bW jB (aF 0) (fC (.int 0))) (fC (.str "none")))) (iG (fC (.obj "Nothing" [] []))) sG)
  (bR (pZ (fT (bW su (bW jB (aF 0) (fC (.int 0))) (fC (.str "all")))) (iG (fC (.obj "Everything" [] []))) sG)
  (bR (pZ (fT (bW su (bW jB (aF 0) (fC (.int 0))) (fC (.str "move")))) (iG (fA (ao (bW jB (aF 0) (fC (.int 1))) (ao (fA (ao (bW jB (aF 0) (fC (.int 2))) aL) (bA 1 vr)) aL)) (Nb "Move" ["step","plan"]))) sG)
  (bR (pZ (fT (bW su (bW jB (aF 0) (fC (.int 0))) (fC (.str "eat")))) (iG (fA (ao (bW jB (aF 0) (fC (.int 1))) (ao (fA (ao (bW jB (aF 0) (fC (.int 2))) aL) (bA 1 vr)) aL)) (Nb "Eat" ["piece","plan"]))) sG)
  (bR (pZ (fT (bW su (bW jB (aF 0) (fC (.int 0))) (fC (.str "grow")))) (iG (fA (ao (bW jB (aF 0) (fC (.int 1))) (ao (fA (ao (bW jB (aF 0) (fC (.int 2))) aL) (bA 1 vr)) aL)) (Nb "Grow" ["piece","plan"]))) sG)
  (bR (pZ (fT (bW su (bW jB (aF 0) (fC (.int 0))) (fC (.str "both")))) (iG (fA (ao (fA (ao (bW jB (aF 0) (fC (.int 1))) aL) (bA 1 vr)) (ao (fA (ao (bW jB (aF 0) (fC (.int 2))) aL) (bA 1 vr)) aL)) (Nb "Both" ["one","other"]))) sG)
  (iG (fA (ao (fA (ao (bW jB (aF 0) (fC (.int 1))) aL) (bA 1 vr)) (ao (fA (ao (bW jB (aF 0) (fC (.int 2))) aL) (bA 1 vr)) aL)) (Nb "Either" ["one","other"])))))))))
noncomputable def cJ:Nat->List D->Rs D
 | 0=>fun _=>.no
 |n + 1=>fun ds=>jk (dB (cJ n) (aP ["form"] ds))
theorem Nz(F:lM K mg "_law_plan" yh) (Hy:XJ P w K mg base cF ["step","plan"] 1) (NK:XJ P w K mg base eE ["piece","plan"] 1) (Hz:XJ P w K mg base cG ["piece","plan"] 1) (uF:XJ P w K mg base cB ["one","other"] 1) (Ag:XJ P w K mg base bD ["one","other"] 1):∀n,qd P w K mg base "_law_plan" (2 + 1 + n) 1 (cJ n) :=
 nQ (g:=dB) 2 F Nm fun _ _ hk dX _ _ _ _ _ _ _ _ hr hx =>
  aN (dR (lg (gM hr) (dY (sv 0) aH) bB) (aO (cA (MP T.Vw rfl T.adI T.mD))) cC)
  (aN (dR (lg (gM hr) (dY (sv 0) aH) bB) (aO (cA (MP T.Dc rfl T.Kz T.eO))) cC)
  (aN (dR (lg (gM hr) (dY (sv 0) aH) bB) (aO (cA (MP T.vR rfl T.BL T.cg))) cC)
  (aN (dR (lg (gM hr) (dY (sv 0) aH) bB) (aO (cA (CV Hy T.adJ T.kj hr (aj (dY (sv 0) aH) (aj (bG dX hr hx (aj (dY (sv 0) aH) au) (mW:=bj _)) au)) (mW:=ck (by decide) hk)))) cC)
  (aN (dR (lg (gM hr) (dY (sv 0) aH) bB) (aO (cA (CV NK T.ahE T.oU hr (aj (dY (sv 0) aH) (aj (bG dX hr hx (aj (dY (sv 0) aH) au) (mW:=bj _)) au)) (mW:=ck (by decide) hk)))) cC)
  (aN (dR (lg (gM hr) (dY (sv 0) aH) bB) (aO (cA (CV Hz T.adK T.kE hr (aj (dY (sv 0) aH) (aj (bG dX hr hx (aj (dY (sv 0) aH) au) (mW:=bj _)) au)) (mW:=ck (by decide) hk)))) cC)
  (aN (dR (lg (gM hr) (dY (sv 0) aH) bB) (aO (cA (CV uF T.Vv T.jG hr (aj (bG dX hr hx (aj (dY (sv 0) aH) au) (mW:=bj _)) (aj (bG dX hr hx (aj (dY (sv 0) aH) au) (mW:=bj _)) au)) (mW:=ck (by decide) hk)))) cC)
  (aO (cA (CV Ag T.RW T.fu hr (aj (bG dX hr hx (aj (dY (sv 0) aH) au) (mW:=bj _)) (aj (bG dX hr hx (aj (dY (sv 0) aH) au) (mW:=bj _)) au)) (mW:=ck (by decide) hk))))))))))
noncomputable def jX:aD->Ou :=
  bR (qj 4 (xM 0 1 bf (uy (ao (fC (.int 5)) aL))))
  (pZ (fT (bW su (aF 4) (fC (.int 0)))) (qj 2 (xA (iz (xP (fC (.str "move"))) (iz (xM 0 0 gk (uy aL)) (iz (xP (aF 2)) Bt))) iR)) (pZ (fT (bW gLt (aF 4) (fC (.int 3)))) (qj 2 (xA (iz (xP (bW jB (fA (ao (fC (.str "eat")) (ao (fC (.str "grow")) aL)) jY) (bW rZ (aF 4) (fC (.int 1))))) (iz (xM 0 1 jK (uy (ao (fC (.int 12)) aL))) (iz (xP (aF 2)) Bt))) iR)) (bR (qj 5 (Hj jB (xP (fA (ao (fA (ao (fC (.str "keep")) aL) iR) (ao (fA (ao (fC (.str "none")) aL) iR) (ao (fA (ao (fC (.str "all")) aL) iR) aL))) jY)) (xM 0 1 bf (uy (ao (fC (.int 3)) aL)))))
  (qj 2 (Hj Xq (xA (iz (Hj jB (xP (fA (ao (fC (.str "both")) (ao (fC (.str "either")) aL)) jY)) (xM 0 1 bf (uy (ao (fC (.int 2)) aL)))) Bt) iR) (xP (bW jB (fA (ao (fA (ao (aF 5) (ao (aF 2) aL)) iR) (ao (fA (ao (aF 2) (ao (aF 5) aL)) iR) aL)) jY) (bW rZ (aF 4) (fC (.int 3))))))))))
noncomputable def qU:aD->Ou :=
  bR (qj 2 (Hj jB (xP (fA (ao (fA (ao (fC (.str "keep")) aL) iR) (ao (fA (ao (fC (.str "none")) aL) iR) (ao (fA (ao (fC (.str "all")) aL) iR) aL))) jY)) (xM 0 1 bf (uy (ao (fC (.int 3)) aL)))))
  (bR (Gh (JQ (cj 3) jX (aF 1)))
  (xg (xP (aF 2))))
noncomputable def oA:List D->List D->Rs (D×List D):=fun es ds=>Ab (qU (fJ ["pot","many","form","k","way","leaf"] es ds))
theorem Je(F:lM K mg "_law_chain" vL) (bh:Br P w K mg base "_law_take" 1 1 bf) (eU:Br P w K mg base "_law_step" 2 0 gk) (lR:Br P w K mg base "_law_piece" 3 1 jK):Br P w K mg base "_law_chain" 4 1 oA :=
 Ht (k:=3) (g:=qU) F gO fun _ _ _ _ _ _ _ _ hr hx =>
  aN (kh 2 gO.nd (DN (gC (fH (fj (iy (aj bB au)) (fj (iy (aj bB au)) (fj (iy (aj bB au)) au))))) (bQ 0 bh hr (dU (aj aH au)))))
  (aN (xT (Li ky rfl T.Fj (sv 1) (rg 3 gO.nd) (aN (kh 4 gO.nd (bQ 0 bh hr (dU (aj aH au))))
  (aO (dR (lg (gM hr) (sv 4) aH) (aO (kh 2 gO.nd (vG (bZ (gC bB) (bZ (bQ 0 eU hr (dU au)) (bZ (gC (sv 2)) mL)))))) (aO (dR (abY (sv 4) aH) (aO (kh 2 gO.nd (vG (bZ (gC (dY (fH (aj bB (aj bB au))) (rB (sv 4) aH))) (bZ (bQ 0 lR hr (dU (aj aH au))) (bZ (gC (sv 2)) mL)))))) (aN (kh 5 gO.nd (DN (gC (fH (fj (iy (aj bB au)) (fj (iy (aj bB au)) (fj (iy (aj bB au)) au))))) (bQ 0 bh hr (dU (aj aH au)))))
  (aO (kh 2 gO.nd (agl (vG (bZ (DN (gC (fH (aj bB (aj bB au)))) (bQ 0 bh hr (dU (aj aH au)))) mL)) (gC (dY (fH (fj (iy (aj (sv 5) (aj (sv 2) au))) (fj (iy (aj (sv 2) (aj (sv 5) au))) au))) (rB (sv 4) aH))))))))))))))
  (aO (nO (gC (sv 2)))))
noncomputable def gQ(vr:List D->List D->Rs (D×List D)):aD->Ou :=
  bR (pZ (fT (bW su (aF 1) (fC (.int 1)))) (xg (Hj jB (xP (fA (ao (fA (ao (fC (.str "keep")) aL) iR) (ao (fA (ao (fC (.str "none")) aL) iR) (ao (fA (ao (fC (.str "all")) aL) iR) aL))) jY)) (xM 0 1 bf (uy (ao (fC (.int 3)) aL))))) sG)
  (bR (pZ (fT (bW su (aF 1) (fC (.int 2)))) (xg (xA (iz (xP (fC (.str "move"))) (iz (xM 0 0 gk (uy aL)) (iz (xM 0 1 vr (uy (ao (fC (.int 1)) aL))) Bt))) iR)) sG)
  (bR (qj 2 (Hj jB (xP (fA (ao (fC (.str "both")) (ao (fC (.str "either")) aL)) jY)) (xM 0 1 bf (uy (ao (fC (.int 2)) aL)))))
  (xg (xA (iz (xP (aF 2)) (iz (xM 0 1 vr (uy (ao (bW Qy (bW rZ (aF 1) (fC (.int 1))) (fC (.int 2))) aL))) (iz (xM 0 1 vr (uy (ao (bW rZ (bW rZ (aF 1) (fC (.int 1))) (bW Qy (bW rZ (aF 1) (fC (.int 1))) (fC (.int 2)))) aL))) Bt))) iR))))
noncomputable def gR:Nat->List D->List D->Rs (D×List D)
 | 0=>fun _ _=>.no
 |n + 1=>fun es ds=>Ab (gQ (gR n) (fJ ["pot","many","word"] es ds))
theorem NP(F:lM K mg "_law_tree" yj) (bh:Br P w K mg base "_law_take" 1 1 bf) (eU:Br P w K mg base "_law_step" 2 0 gk):∀n,Br P w K mg base "_law_tree" (2 + 1 + n) 1 (gR n) :=
 Hv (g:=gQ) 2 F BW fun _ _ hk dX _ _ _ _ _ _ _ _ hr hx =>
  aN (dR (lg (gM hr) (sv 1) aH) (aO (nO (DN (gC (fH (fj (iy (aj bB au)) (fj (iy (aj bB au)) (fj (iy (aj bB au)) au))))) (bQ 0 bh hr (dU (aj aH au)) (mW:=ck (by decide) hk))))) cC)
  (aN (dR (lg (gM hr) (sv 1) aH) (aO (nO (vG (bZ (gC bB) (bZ (bQ 0 eU hr (dU au) (mW:=ck (by decide) hk)) (bZ (bQ 0 dX hr (dU (aj aH au)) (mW:=bj _)) mL)))))) cC)
  (aN (kh 2 BW.nd (DN (gC (fH (aj bB (aj bB au)))) (bQ 0 bh hr (dU (aj aH au)) (mW:=ck (by decide) hk))))
  (aO (nO (vG (bZ (gC (sv 2)) (bZ (bQ 0 dX hr (dU (aj (Lh (rB (sv 1) aH) aH) au)) (mW:=bj _)) (bZ (bQ 0 dX hr (dU (aj (rB (rB (sv 1) aH) (Lh (rB (sv 1) aH) aH)) au)) (mW:=bj _)) mL))))))))
noncomputable def mX:aD->Ou :=
  bR (qj 2 (xM 0 1 bf (uy (ao (fC (.int 6)) aL))))
  (bR (pZ (Lg (fT (bW gGt (aF 2) (fC (.int 2)))) (fT (bW gGt (aF 1) (fC (.int 8))))) (bR (qj 3 (Hj iT (xP (fC (.int 1))) (xM 0 1 bf (uy (ao (fC (.int 4)) aL)))))
  (bR (qj 4 (xM 0 2 (dW 6) (uy (ao (bW jB (fA (ao (aF 3) (ao (fC (.int 2)) aL)) jY) (fA (ao (bW gGt (aF 1) (fC (.int 8))) aL) Zm)) (ao (bW jB (fA (ao (fC (.int 12)) (ao (fC (.int 3)) aL)) jY) (fA (ao (bW gGt (aF 1) (fC (.int 8))) aL) Zm)) aL)))))
  (xg (xP (fA (ao (fA (ao (aF 4) aL) (bA 1 (cJ 13))) (ao (aF 4) aL)) iR))))) sG)
  (bR (pZ (fT (bW su (aF 2) (fC (.int 2)))) (bR (qj 4 (xM 0 2 (dW 6) (uy (ao (fC (.int 3)) (ao (fC (.int 3)) aL)))))
  (bR (rD 5 (fA (ao (aF 4) aL) (bA 1 (cJ 13))))
  (xg (xP (fA (ao (fA (ao (aF 5) (ao (aF 5) aL)) (Nb "Both" ["one","other"])) (ao (fA (ao (fC (.str "both")) (ao (aF 4) (ao (aF 4) aL))) iR) aL)) iR))))) sG)
  (bR (qj 4 (Hj jB (xA (iz (xM 0 1 oA (iz (Hj iT (xP (fC (.int 1))) (xM 0 1 bf (uy (ao (fC (.int 11)) aL)))) Bt)) (iz (xM 0 1 (gR 8) (iz (Hj iT (xP (fC (.int 1))) (xM 0 1 bf (uy (ao (fC (.int 40)) aL)))) Bt)) Bt)) jY) (xP (aF 2))))
  (xg (xP (fA (ao (fA (ao (aF 4) aL) (bA 1 (cJ 13))) (ao (aF 4) aL)) iR))))))
noncomputable def jD:List D->List D->Rs (D×List D):=fun es ds=>Ab (mX (fJ ["pot","k","way","depth","form","plan"] es ds))
theorem NQ(F:lM K mg "_law_made" yp) (bh:Br P w K mg base "_law_take" 1 1 bf) (tE:Br P w K mg base "_law_form" 10 2 (dW 6)) (pQ:qd P w K mg base "_law_plan" 16 1 (cJ 13)) (uF:XJ P w K mg base cB ["one","other"] 1) (yu:Br P w K mg base "_law_tree" 11 1 (gR 8)) (vV:Br P w K mg base "_law_chain" 4 1 oA):Br P w K mg base "_law_made" 17 1 jD :=
 Ht (k:=16) (g:=mX) F jH fun _ _ _ _ _ _ _ _ hr hx =>
  aN (kh 2 jH.nd (bQ 0 bh hr (dU (aj aH au))))
  (aN (dR (DX (zf (abZ (sv 2) aH) (tU (abZ (sv 1) aH)))) (aN (kh 3 jH.nd (MK (gC aH) (bQ 0 bh hr (dU (aj aH au)))))
  (aN (kh 4 jH.nd (bQ 0 tE hr (dU (aj (dY (fH (aj (sv 3) (aj aH au))) (ade T.adG (ahd (sv 1) aH))) (aj (dY (fH (aj aH (aj aH au))) (ade T.adG (ahd (sv 1) aH))) au)))))
  (aO (nO (gC (iy (aj (bG pQ hr jm (aj (sv 4) au)) (aj (sv 4) au)))))))) cC)
  (aN (dR (lg (gM hr) (sv 2) aH) (aN (kh 4 jH.nd (bQ 0 tE hr (dU (aj aH (aj aH au)))))
  (aN (mO 5 jH.nd (bG pQ hr hx (aj (sv 4) au)))
  (aO (nO (gC (iy (fj (CV uF T.Vv T.jG hr (aj (sv 5) (aj (sv 5) au))) (fj (iy (aj bB (aj (sv 4) (aj (sv 4) au)))) au)))))))) cC)
  (aN (kh 4 jH.nd (DN (ajt (bZ (bQ 0 vV hr (bZ (MK (gC aH) (bQ 0 bh hr (dU (aj aH au)))) mL)) (bZ (bQ 0 yu hr (bZ (MK (gC aH) (bQ 0 bh hr (dU (aj aH au)))) mL)) mL))) (gC (sv 2))))
  (aO (nO (gC (iy (aj (bG pQ hr jm (aj (sv 4) au)) (aj (sv 4) au)))))))))
noncomputable def BX:aD->Ou :=
  bR (pZ (fT (bW su (fA (ao (aF 0) aL) vh) (fC (.int 1)))) (iG (fA aL jY)) sG)
  (bR (pZ (Lg (fT (bW su (bW jB (aF 0) (fC (.int 0))) (fC (.str "both")))) (fT (bW su (bW jB (aF 0) (fC (.int 0))) (fC (.str "either"))))) (iG (fA (ao (bW jB (aF 0) (fC (.int 1))) (ao (bW jB (aF 0) (fC (.int 2))) aL)) jY)) sG)
  (iG (fA (ao (bW jB (aF 0) (fC (.int 2))) aL) jY)))
noncomputable def fU:List D->Rs D:=fun ds=>jk (BX (aP ["form"] ds))
theorem Jf(F:lM K mg "_law_parts" vM) :qd P w K mg base "_law_parts" 1 1 fU :=
 wC (k:=0) (g:=BX) F IV fun _ _ _ _ _ _ _ _ hr hx =>
  aN (dR (lg (gM hr) (vm T.BJ (sv 0)) aH) (aO (cA (fH au))) cC)
  (aN (dR (DX (zf (lg (gM hr) (dY (sv 0) aH) bB) (tU (lg (gM hr) (dY (sv 0) aH) bB)))) (aO (cA (fH (aj (dY (sv 0) aH) (aj (dY (sv 0) aH) au))))) cC)
  (aO (cA (fH (aj (dY (sv 0) aH) au)))))
noncomputable def pG(vr:List D->Rs D):aD->Ou :=
  Zo 1 (ao (fA (ao (aF 3) aL) Ng) (ao (fA (ao (aF 4) aL) Ng) aL))
noncomputable def pH(vr:List D->Rs D):aD->Ou :=
  Hf 1 (fA (ao (aF 5) aL) (bA 1 vr))
noncomputable def iW(vr:List D->Rs D):aD->Ou :=
  bR (Zk 1 (ao (bW jB (aF 0) (fC (.int 0))) aL))
  (bR (rD 2 (fA aL iR))
  (bR (pZ (fT (bW su (bW jB (aF 0) (fC (.int 0))) (fC (.str "move")))) (rD 2 (fA (ao (bW jB (aF 0) (fC (.int 1))) aL) iR)) sG)
  (bR (pZ (Lg (fT (bW su (bW jB (aF 0) (fC (.int 0))) (fC (.str "eat")))) (fT (bW su (bW jB (aF 0) (fC (.int 0))) (fC (.str "grow"))))) (bR (Aa 1 (fA (ao (fA (ao (bW jB (aF 0) (fC (.int 1))) aL) vh) aL) Ng))
  (rD 2 (bW jB (aF 0) (fC (.int 1))))) sG)
  (bR (Gh (QD (xO 2 (iD (cj 3) (iD (cj 4) zU))) (pG vr) (aF 2)))
  (bR (Gh (WK (cj 5) (pH vr) (fA (ao (aF 0) aL) (bA 1 fU))))
  (ada 1 (iG (aF 1))))))))
noncomputable def dN:Nat->List D->Rs D
 | 0=>fun _=>.no
 |n + 1=>fun ds=>jk (iW (dN n) (aP ["form","words","steps","row","column","part"] ds))
theorem Jg(F:lM K mg "_law_words" vN) (dO:qd P w K mg base "_law_parts" 1 1 fU):∀n,qd P w K mg base "_law_words" (1 + 1 + n) 1 (dN n) :=
 nQ (g:=iW) 1 F gP fun _ _ hk dX _ _ _ _ _ _ _ _ hr hx =>
  aN (Mu 1 gP.nd (aj (dY (sv 0) aH) au))
  (aN (mO 2 gP.nd (iy au))
  (aN (dR (lg (gM hr) (dY (sv 0) aH) bB) (aO (mO 2 gP.nd (iy (aj (dY (sv 0) aH) au)))) cC)
  (aN (dR (DX (zf (lg (gM hr) (dY (sv 0) aH) bB) (tU (lg (gM hr) (dY (sv 0) aH) bB)))) (aN (rG 1 (Nh T.Ky (vm T.BJ (dY (sv 0) aH))))
  (aO (mO 2 gP.nd (dY (sv 0) aH)))) cC)
  (aN (xT (WL ky rfl (sv 2) (Ga rfl (mG (rg 3 gP.nd) (mG (rg 4 gP.nd) Bc))) (aO (ajl 1 (aj (Nh T.Ky (sv 3)) (aj (Nh T.Ky (sv 4)) au))))))
  (aN (xT (afg ky rfl (bG dO hr jm (aj (sv 0) au) (mW:=ck (by decide) hk)) (rg 5 gP.nd) (aO (Xy 1 (bG dX hr jm (aj (sv 5) au) (mW:=bj _))))))
  (Mv 1 (aO (cA (sv 1)))))))))
noncomputable def vW(vr:List D->Rs D):aD->Rs D :=
  fA (ao (aF 0) (ao (aF 1) aL)) (bA 2 vr)
noncomputable def dD(vr:List D->Rs D):aD->Ou :=
  bR (pZ (fT (fB (aF 1) (ach [.tuple,.list]))) (bR (pZ (Lg (fT (bW gNe (fB (aF 0) (WY .tuple)) (fB (aF 1) (WY .tuple)))) (Cy (fT (fB (aF 0) (ach [.tuple,.list]))))) (iG (fC (.bl false))) sG)
  (iG (Ay (bW su (fA (ao (aF 0) aL) vh) (fA (ao (aF 1) aL) vh)) (fA (ao (qI (xO 2 (iD (cj 0) (iD (cj 1) zU))) (fun _=>.ok true) (vW vr) 2 [] (fL2 (ao (aF 0) (ao (aF 1) aL)) RG)) aL) QJ)))) sG)
  (bR (pZ (Lg (fT (fB (aF 1) (WY .bool))) (fT (fB (aF 0) (WY .bool)))) (iG (Ay (fB (aF 1) (WY .bool)) (Ay (fB (aF 0) (WY .bool)) (bW su (aF 0) (aF 1))))) sG)
  (bR (pZ (fT (fB (aF 1) (WY .str))) (iG (Ay (fB (aF 0) (WY .str)) (bW su (aF 0) (aF 1)))) sG)
  (iG (Ay (fB (aF 0) (WY .int)) (bW su (aF 0) (aF 1))))))
noncomputable def aZ:Nat->List D->Rs D
 | 0=>fun _=>.no
 |n + 1=>fun ds=>jk (dD (aZ n) (aP ["found","due"] ds))
theorem NT(F:lM K mg "_law_same" sV) :∀n,qd P w K mg base "_law_same" (0 + 1 + n) 2 (aZ n) :=
 nQ (g:=dD) 0 F Np fun _ _ hk dX _ _ _ _ _ _ _ _ hr hx =>
  aN (dR (ji (Xb (ts:=[.tuple,.list]) T.bL (sv 1) (EY (t:=.tuple) T.BK PyProof.Rows.Boot.«tuple» (EY (t:=.list) T.Vt PyProof.Rows.Boot.«list» acg)))) (aN (dR (DX (zf (abW (gM hr) (zj (t:=.tuple) T.bL T.BK (sv 0) PyProof.Rows.Boot.«tuple») (zj (t:=.tuple) T.bL T.BK (sv 1) PyProof.Rows.Boot.«tuple»)) (tU (vg (ji (Xb (ts:=[.tuple,.list]) T.bL (sv 0) (EY (t:=.tuple) T.BK PyProof.Rows.Boot.«tuple» (EY (t:=.list) T.Vt PyProof.Rows.Boot.«list» acg)))))))) (aO (cA Dv)) cC)
  (aO (cA (CG (WX (gM hr) (vm T.BJ (sv 0)) (vm T.BJ (sv 1))) (Cz (ace rfl T.ahA (vq (vp (aC sV) ["found","due"] (N:=["one","other"]) (nt:=2) (caps:=[]) (by decide+kernel)) rfl (by decide+kernel) (Xw T.ahD (sv 0) (sv 1)) (QL (yN lO (yN lO QK))) (fun _ _ _ _ _ _=>Ga rfl (mG (rg 0 (show jv (["one","other"]:List Str) by decide)) (mG (rg 1 (show jv (["one","other"]:List Str) by decide)) Bc))) (fun _ _ _ _ _ _=>bG dX hr jm (aj (sv 0) (aj (sv 1) au)) (mW:=bj _))))))))) cC)
  (aN (dR (DX (zf (ji (zj (t:=.bool) T.bL T.Nj (sv 1) PyProof.Rows.Boot.«bool»)) (tU (ji (zj (t:=.bool) T.bL T.Nj (sv 0) PyProof.Rows.Boot.«bool»))))) (aO (cA (CG (zj (t:=.bool) T.bL T.Nj (sv 1) PyProof.Rows.Boot.«bool») (CG (zj (t:=.bool) T.bL T.Nj (sv 0) PyProof.Rows.Boot.«bool») (Cz (WX (gM hr) (sv 0) (sv 1))))))) cC)
  (aN (dR (ji (zj (t:=.str) T.bL T.Ky (sv 1) PyProof.Rows.Boot.«str»)) (aO (cA (CG (zj (t:=.str) T.bL T.Ky (sv 0) PyProof.Rows.Boot.«str») (Cz (WX (gM hr) (sv 0) (sv 1)))))) cC)
  (aO (cA (CG (zj (t:=.int) T.bL T.adG (sv 0) PyProof.Rows.Boot.«int») (Cz (WX (gM hr) (sv 0) (sv 1))))))))
noncomputable def BZ:aD->Ou :=
  bR (Zk 1 aL)
  (bR (pZ (fT (fB (aF 0) (CT ajF))) (Aa 1 (fC (.str "keep"))) sG)
  (bR (pZ (fT (fB (aF 0) (CT ajG))) (Aa 1 (fC (.str "none"))) sG)
  (bR (pZ (fT (fB (aF 0) (CT ajH))) (Aa 1 (fC (.str "all"))) sG)
  (bR (pZ (fT (fB (aF 0) (CT ajI))) (Aa 1 (fC (.str "move"))) sG)
  (bR (pZ (fT (fB (aF 0) (CT ajJ))) (Aa 1 (fC (.str "eat"))) sG)
  (bR (pZ (fT (fB (aF 0) (CT ajK))) (Aa 1 (fC (.str "grow"))) sG)
  (bR (pZ (fT (fB (aF 0) (CT ajL))) (Aa 1 (fC (.str "both"))) sG)
  (bR (pZ (fT (fB (aF 0) (CT ajM))) (Aa 1 (fC (.str "either"))) sG)
  (ada 1 (iG (aF 1)))))))))))
noncomputable def qW:List D->Rs D:=fun ds=>jk (BZ (aP ["plan","found"] ds))
theorem Jh(F:lM K mg "_law_kinds" vO) :qd P w K mg base "_law_kinds" 1 1 qW :=
 wC (k:=0) (g:=BZ) F zx fun _ _ _ _ _ _ _ _ hr hx =>
  aN (Mu 1 zx.nd au)
  (aN (dR (ji (vI (m:=ajF) T.aoo T.bL T.adI (sv 0))) (aO (rG 1 bB)) cC)
  (aN (dR (ji (vI (m:=ajG) T.aop T.bL T.Kz (sv 0))) (aO (rG 1 bB)) cC)
  (aN (dR (ji (vI (m:=ajH) T.aoq T.bL T.BL (sv 0))) (aO (rG 1 bB)) cC)
  (aN (dR (ji (vI (m:=ajI) T.aor T.bL T.adJ (sv 0))) (aO (rG 1 bB)) cC)
  (aN (dR (ji (vI (m:=ajJ) T.aos T.bL T.ahE (sv 0))) (aO (rG 1 bB)) cC)
  (aN (dR (ji (vI (m:=ajK) T.aot T.bL T.adK (sv 0))) (aO (rG 1 bB)) cC)
  (aN (dR (ji (vI (m:=ajL) T.aou T.bL T.Vv (sv 0))) (aO (rG 1 bB)) cC)
  (aN (dR (ji (vI (m:=ajM) T.aov T.bL T.RW (sv 0))) (aO (rG 1 bB)) cC)
  (Mv 1 (aO (cA (sv 1))))))))))))
noncomputable def vX:aD->Ou :=
  bR (pZ (Lg (Cy (fT (fB (aF 0) (CT ajN)))) (fT (bW gNe (fA (ao (aF 0) aL) (bA 1 qW)) (fA (ao (bW jB (aF 1) (fC (.int 0))) aL) jY)))) (iG (fC (.bl false))) sG)
  (bR (pZ (fT (bW su (bW jB (aF 1) (fC (.int 0))) (fC (.str "move")))) (iG (fA (ao (fB (aF 0) (ni CZ "step")) (ao (bW jB (aF 1) (fC (.int 1))) aL)) (bA 2 (aZ 5)))) sG)
  (iG (afb (bW adf (bW jB (aF 1) (fC (.int 0))) (fA (ao (fC (.str "eat")) (ao (fC (.str "grow")) aL)) iR)) (fA (ao (fB (aF 0) (ni pC "piece")) (ao (bW jB (aF 1) (fC (.int 1))) aL)) (bA 2 (aZ 5))))))
noncomputable def rM:List D->Rs D:=fun ds=>jk (vX (aP ["plan","form"] ds))
theorem Sh(F:lM K mg "_law_top" Ad) (vY:qd P w K mg base "_law_kinds" 1 1 qW) (gU:qd P w K mg base "_law_same" 6 2 (aZ 5)):qd P w K mg base "_law_top" 7 2 rM :=
 wC (k:=6) (g:=vX) F Sg fun _ _ _ _ _ _ _ _ hr hx =>
  aN (dR (DX (zf (vg (ji (vI (m:=ajN) T.aow T.bL T.ajO (sv 0)))) (tU (abW (gM hr) (bG vY hr hx (aj (sv 0) au)) (fH (aj (dY (sv 1) aH) au)))))) (aO (cA Dv)) cC)
  (aN (dR (lg (gM hr) (dY (sv 1) aH) bB) (aO (cA (bG gU hr hx (aj (iH (m:=CZ) T.adL (sv 0)) (aj (dY (sv 1) aH) au))))) cC)
  (aO (cA (alh (adg (gM hr) (dY (sv 1) aH) (iy (aj bB (aj bB au)))) (Cz (bG gU hr hx (aj (iH (m:=pC) T.Nk (sv 0)) (aj (dY (sv 1) aH) au))))))))
noncomputable def wH:aD->Ou :=
  xY aL
noncomputable def gG:List D->Rs (List D):=fun ds=>qg (wH (aP ["self"] ds))
theorem gZ{f:ae}(D:kW K "parts_in" "Plan.parts_in" jQ f) :rK P w K mg base f 1 1 gG :=
 nP (k:=0) (g:=wH) D Dd (fun _ _ _ _ _ _ us hl=>match us,hl with|[_],_=>rfl) fun _ _ _ _ _ _ _ hr hx =>
  aO (qQ au)
noncomputable def wI:aD->Ou :=
  xY (ao (fB (aF 0) (ni lG "plan")) aL)
noncomputable def qt:List D->Rs (List D):=fun ds=>qg (wI (aP ["self"] ds))
theorem uG{f:ae}(D:kW K "parts_in" "Move.parts_in" jR f) :rK P w K mg base f 1 1 qt :=
 nP (k:=0) (g:=wI) D Df (fun _ _ _ _ _ _ us hl=>match us,hl with|[_],_=>rfl) fun _ _ _ _ _ _ _ hr hx =>
  aO (qQ (aj (iH (m:=lG) T.Ae (sv 0)) au))
noncomputable def yw:aD->Ou :=
  xY (ao (fB (aF 0) (ni lG "plan")) aL)
noncomputable def rN:List D->Rs (List D):=fun ds=>qg (yw (aP ["self"] ds))
theorem wJ{f:ae}(D:kW K "parts_in" "Eat.parts_in" lE f) :rK P w K mg base f 1 1 rN :=
 nP (k:=0) (g:=yw) D Eb (fun _ _ _ _ _ _ us hl=>match us,hl with|[_],_=>rfl) fun _ _ _ _ _ _ _ hr hx =>
  aO (qQ (aj (iH (m:=lG) T.Ae (sv 0)) au))
noncomputable def wK:aD->Ou :=
  xY (ao (fB (aF 0) (ni lG "plan")) aL)
noncomputable def qu:List D->Rs (List D):=fun ds=>qg (wK (aP ["self"] ds))
theorem uH{f:ae}(D:kW K "parts_in" "Grow.parts_in" jT f) :rK P w K mg base f 1 1 qu :=
 nP (k:=0) (g:=wK) D Dg (fun _ _ _ _ _ _ us hl=>match us,hl with|[_],_=>rfl) fun _ _ _ _ _ _ _ hr hx =>
  aO (qQ (aj (iH (m:=lG) T.Ae (sv 0)) au))
noncomputable def wL:aD->Ou :=
  xY (ao (fB (aF 0) (ni uE "one")) (ao (fB (aF 0) (ni lQ "other")) aL))
noncomputable def qw:List D->Rs (List D):=fun ds=>qg (wL (aP ["self"] ds))
theorem uI{f:ae}(D:kW K "parts_in" "Both.parts_in" jU f) :rK P w K mg base f 1 1 qw :=
 nP (k:=0) (g:=wL) D Dh (fun _ _ _ _ _ _ us hl=>match us,hl with|[_],_=>rfl) fun _ _ _ _ _ _ _ hr hx =>
  aO (qQ (aj (iH (m:=uE) T.RZ (sv 0)) (aj (iH (m:=lQ) T.BP (sv 0)) au)))
noncomputable def tH:aD->Ou :=
  xY (ao (fB (aF 0) (ni uE "one")) (ao (fB (aF 0) (ni lQ "other")) aL))
noncomputable def oE:List D->Rs (List D):=fun ds=>qg (tH (aP ["self"] ds))
theorem rO{f:ae}(D:kW K "parts_in" "Either.parts_in" iV f) :rK P w K mg base f 1 1 oE :=
 nP (k:=0) (g:=tH) D Af (fun _ _ _ _ _ _ us hl=>match us,hl with|[_],_=>rfl) fun _ _ _ _ _ _ _ hr hx =>
  aO (qQ (aj (iH (m:=uE) T.RZ (sv 0)) (aj (iH (m:=lQ) T.BP (sv 0)) au)))
noncomputable def pR:Tbf:=[("Keep",gG),("Nothing",gG),("Everything",gG),("Move",qt),("Eat",rN),("Grow",qu),("Both",qw),("Either",oE)]
noncomputable def jL:PX:=[("Keep",Kw gG),("Nothing",Kw gG),("Everything",Kw gG),("Move",Kw qt),("Eat",Kw rN),("Grow",Kw qu),("Both",Kw qw),("Either",Kw oE)]
theorem HB{bJ:ae}(cT:kW K "parts_in" "Plan.parts_in" jQ bJ) {cU:ae}(iJ:kW K "parts_in" "Move.parts_in" jR cU) {dH:ae}(jy:kW K "parts_in" "Eat.parts_in" lE dH) {cV:ae}(iK:kW K "parts_in" "Grow.parts_in" jT cV) {cW:ae}(iM:kW K "parts_in" "Both.parts_in" jU cW) {cu:ae}(gD:kW K "parts_in" "Either.parts_in" iV cu) (qx:wF K dg bJ "parts_in"=true) (mR:wF K bC bJ "parts_in"=true) (kI:wF K aU bJ "parts_in"=true) (qy:wF K cF cU "parts_in"=true) (rP:wF K eE dH "parts_in"=true) (qC:wF K cG cV "parts_in"=true) (qD:wF K cB cW "parts_in"=true) (oF:wF K bD cu "parts_in"=true) :∀c v,bX c pR=some v->Hu P w K mg base c "parts_in" 1 1 v :=
 gH (((gZ T cT ).mono (by decide)).mf T.mD qx) (gH (((gZ T cT ).mono (by decide)).mf T.eO mR) (gH (((gZ T cT ).mono (by decide)).mf T.cg kI) (gH (((uG T iJ ).mono (by decide)).mf T.kj qy) (gH (((wJ T jy ).mono (by decide)).mf T.oU rP) (gH (((uH T iK ).mono (by decide)).mf T.kE qC) (gH (((uI T iM ).mono (by decide)).mf T.jG qD) (gH (((rO T gD ).mono (by decide)).mf T.fu oF) (Nf))))))))
theorem Ji{bJ:ae}(cT:kW K "parts_in" "Plan.parts_in" jQ bJ) {cU:ae}(iJ:kW K "parts_in" "Move.parts_in" jR cU) {dH:ae}(jy:kW K "parts_in" "Eat.parts_in" lE dH) {cV:ae}(iK:kW K "parts_in" "Grow.parts_in" jT cV) {cW:ae}(iM:kW K "parts_in" "Both.parts_in" jU cW) {cu:ae}(gD:kW K "parts_in" "Either.parts_in" iV cu) (qx:wF K dg bJ "parts_in"=true) (mR:wF K bC bJ "parts_in"=true) (kI:wF K aU bJ "parts_in"=true) (qy:wF K cF cU "parts_in"=true) (rP:wF K eE dH "parts_in"=true) (qC:wF K cG cV "parts_in"=true) (qD:wF K cB cW "parts_in"=true) (oF:wF K bD cu "parts_in"=true) :∀c v,bX c jL=some v->vJ P w K mg base c "parts_in" 1 1 v :=
 pO (((gZ T cT ).data.mono (by decide)).mt T.mD qx) (pO (((gZ T cT ).data.mono (by decide)).mt T.eO mR) (pO (((gZ T cT ).data.mono (by decide)).mt T.cg kI) (pO (((uG T iJ ).data.mono (by decide)).mt T.kj qy) (pO (((wJ T jy ).data.mono (by decide)).mt T.oU rP) (pO (((uH T iK ).data.mono (by decide)).mt T.kE qC) (pO (((uI T iM ).data.mono (by decide)).mt T.jG qD) (pO (((rO T gD ).data.mono (by decide)).mt T.fu oF) (agp))))))))
noncomputable def yx(vr:List D->Rs D):aD->Rs D :=
  fA (ao (aF 0) (ao (aF 1) (ao (aF 2) aL))) (bA 3 vr)
noncomputable def mJ(vr:List D->Rs D):aD->Ou :=
  bR (rD 3 (fA (ao (aF 1) aL) (bA 1 fU)))
  (bR (pZ (Cy (fT (fA (ao (aF 0) (ao (aF 1) aL)) (bA 2 rM)))) (iG (fC (.bl false))) sG)
  (bR (rD 4 (Qa 1 "parts_in" jL (aF 0) aL))
  (bR (pZ (Lg (Cy (fT (fB (aF 4) (WY .list)))) (fT (bW gNe (fA (ao (aF 4) aL) vh) (fA (ao (aF 3) aL) vh)))) (iG (fC (.bl false))) sG)
  (bR (pZ (Im (fT (bW su (aF 2) (fC (.int 0)))) (fT (bW su (fA (ao (aF 3) aL) vh) (fC (.int 2))))) (rD 4 (fA (ao (fB (aF 0) (ni uE "one")) (ao (fB (aF 0) (ni lQ "other")) aL)) jY)) (pZ (Im (fT (bW su (aF 2) (fC (.int 0)))) (fT (bW su (fA (ao (aF 3) aL) vh) (fC (.int 1))))) (rD 4 (fA (ao (fB (aF 0) (ni lG "plan")) aL) jY)) sG))
  (iG (fA (ao (qI (xO 2 (iD (cj 0) (iD (cj 1) zU))) (fun _=>.ok true) (yx vr) 2 [2] (fL2 (ao (aF 4) (ao (aF 3) aL)) RG)) aL) QJ))))))
noncomputable def dI:Nat->List D->Rs D
 | 0=>fun _=>.no
 |n + 1=>fun ds=>jk (mJ (dI n) (aP ["plan","form","way","forms","inner"] ds))
theorem HD(F:lM K mg "_law_walked" pB) (dO:qd P w K mg base "_law_parts" 1 1 fU) (Ah:qd P w K mg base "_law_top" 7 2 rM) (gK:∀c v,bX c jL=some v->vJ P w K mg base c "parts_in" 1 1 v):∀n,qd P w K mg base "_law_walked" (7 + 1 + n) 3 (dI n) :=
 nQ (g:=mJ) 7 F lJ fun _ _ hk dX _ _ _ _ _ _ _ _ hr hx =>
  aN (mO 3 lJ.nd (bG dO hr hx (aj (sv 1) au) (mW:=ck (by decide) hk)))
  (aN (dR (vg (ji (bG Ah hr hx (aj (sv 0) (aj (sv 1) au)) (mW:=ck (by decide) hk)))) (aO (cA Dv)) cC)
  (aN (mO 4 lJ.nd (rJ gK hr hx (sv 0) (mW:=ck (by decide) hk)))
  (aN (dR (DX (zf (vg (ji (zj (t:=.list) T.bL T.Vt (sv 4) PyProof.Rows.Boot.«list»))) (tU (abW (gM hr) (vm T.BJ (sv 4)) (vm T.BJ (sv 3)))))) (aO (cA Dv)) cC)
  (aN (dR (DX (abD (lg (gM hr) (sv 2) aH) (Wx (lg (gM hr) (vm T.BJ (sv 3)) aH)))) (aO (mO 4 lJ.nd (fH (aj (iH (m:=uE) T.RZ (sv 0)) (aj (iH (m:=lQ) T.BP (sv 0)) au))))) (aO (dR (DX (abD (lg (gM hr) (sv 2) aH) (Wx (lg (gM hr) (vm T.BJ (sv 3)) aH)))) (aO (mO 4 lJ.nd (fH (aj (iH (m:=lG) T.Ae (sv 0)) au)))) cC)))
  (aO (cA (ace rfl T.ahA (vq (vp (aC pB) ["plan","form","way","forms","inner"] (N:=["one","other","way"]) (nt:=2) (caps:=[2]) (by decide+kernel)) rfl (by decide+kernel) (Xw T.ahD (sv 4) (sv 3)) (QL (yN lO (yN lO QK))) (fun _ _ _ _ _ _=>Ga rfl (mG (rg 0 (show jv (["one","other","way"]:List Str) by decide)) (mG (rg 1 (show jv (["one","other","way"]:List Str) by decide)) Bc))) (fun _ _ _ _ _ _=>bG dX hr jm (aj (sv 0) (aj (sv 1) (aj (sv 2) au))) (mW:=bj _))))))))))
noncomputable def yV:aD->Ou :=
  iG (Ay (fA (ao (aF 0) (ao (aF 1) (ao (fC (.int 0)) aL))) (bA 3 (dI 13))) (fA (ao (aF 0) (ao (aF 1) (ao (fC (.int 1)) aL))) (bA 3 (dI 13))))
noncomputable def uJ:List D->Rs D:=fun ds=>jk (yV (aP ["plan","form"] ds))
theorem Vz(F:lM K mg "_law_is" CW) (pI:qd P w K mg base "_law_walked" 21 3 (dI 13)):qd P w K mg base "_law_is" 22 2 uJ :=
 wC (k:=21) (g:=yV) F Vx fun _ _ _ _ _ _ _ _ hr hx =>
  aO (cA (CG (bG pI hr hx (aj (sv 0) (aj (sv 1) (aj aH au)))) (Cz (bG pI hr hx (aj (sv 0) (aj (sv 1) (aj aH au)))))))
noncomputable def Sq(vr:List D->Rs D):aD->Rs D :=
  fA (ao (aF 0) aL) (bA 1 vr)
noncomputable def uK(vr:List D->Rs D):aD->Ou :=
  iG (bW iT (fC (.int 1)) (fA (ao (qI (cj 0) (fun _=>.ok true) (Sq vr) 1 [] (fL (Qa 1 "parts_in" jL (aF 0) aL) asL)) aL) Vr))
noncomputable def lU:Nat->List D->Rs D
 | 0=>fun _=>.no
 |n + 1=>fun ds=>jk (uK (lU n) (aP ["plan"] ds))
theorem VB(F:lM K mg "many_in" yU) (gK:∀c v,bX c jL=some v->vJ P w K mg base c "parts_in" 1 1 v):∀n,qd P w K mg base "many_in" (1 + 1 + n) 1 (lU n) :=
 nQ (g:=uK) 1 F Vy fun _ _ hk dX _ _ _ _ _ _ _ _ hr hx =>
  aO (cA (jZ aH (adq rfl T.ahC (vq (vp (aC yU) ["plan"] (N:=["part"]) (nt:=1) (caps:=[]) (by decide+kernel)) rfl (by decide+kernel) (Bg (rJ gK hr hx (sv 0) (mW:=ck (by decide) hk))) lO (fun _ _ _ _ _ _=>rg 0 (show jv (["part"]:List Str) by decide)) (fun _ _ _ _ _ _=>bG dX hr jm (aj (sv 0) au) (mW:=bj _))))))
noncomputable def NZ(vr:List D->Rs D):aD->Rs D :=
  fA (ao (aF 0) aL) (bA 1 vr)
noncomputable def pU(vr:List D->Rs D):aD->Ou :=
  iG (bW iT (fC (.int 1)) (fA (ao (qI (cj 0) (fun _=>.ok true) (NZ vr) 1 [] (fL (fA (ao (aF 0) aL) (bA 1 fU)) asL)) aL) Vr))
noncomputable def iY:Nat->List D->Rs D
 | 0=>fun _=>.no
 |n + 1=>fun ds=>jk (pU (iY n) (aP ["form"] ds))
theorem Oa(F:lM K mg "_law_many" sW) (dO:qd P w K mg base "_law_parts" 1 1 fU):∀n,qd P w K mg base "_law_many" (1 + 1 + n) 1 (iY n) :=
 nQ (g:=pU) 1 F Nq fun _ _ hk dX _ _ _ _ _ _ _ _ hr hx =>
  aO (cA (jZ aH (adq rfl T.ahC (vq (vp (aC sW) ["form"] (N:=["part"]) (nt:=1) (caps:=[]) (by decide+kernel)) rfl (by decide+kernel) (Bg (bG dO hr hx (aj (sv 0) au) (mW:=ck (by decide) hk))) lO (fun _ _ _ _ _ _=>rg 0 (show jv (["part"]:List Str) by decide)) (fun _ _ _ _ _ _=>bG dX hr jm (aj (sv 0) au) (mW:=bj _))))))
noncomputable def adN(vr:List D->Rs D):aD->Rs D :=
  fA (ao (aF 0) aL) (bA 1 vr)
noncomputable def HF(vr:List D->Rs D):aD->Ou :=
  iG (bW iT (fC (.int 1)) (RT (qI (cj 0) (fun _=>.ok true) (adN vr) 1 [] (fL (Qa 1 "parts_in" jL (aF 0) aL) asL)) (fC (.int 0))))
noncomputable def vZ:Nat->List D->Rs D
 | 0=>fun _=>.no
 |n + 1=>fun ds=>jk (HF (vZ n) (aP ["plan"] ds))
theorem agy(F:lM K mg "deep" Ni) (gK:∀c v,bX c jL=some v->vJ P w K mg base c "parts_in" 1 1 v):∀n,qd P w K mg base "deep" (1 + 1 + n) 1 (vZ n) :=
 nQ (g:=HF) 1 F agu fun _ _ hk dX _ _ _ _ _ _ _ _ hr hx =>
  aO (cA (jZ aH (agt rfl T.ahB (vq (vp (aC Ni) ["plan"] (N:=["part"]) (nt:=1) (caps:=[]) (by decide+kernel)) rfl (by decide+kernel) (Bg (rJ gK hr hx (sv 0) (mW:=ck (by decide) hk))) lO (fun _ _ _ _ _ _=>rg 0 (show jv (["part"]:List Str) by decide)) (fun _ _ _ _ _ _=>bG dX hr jm (aj (sv 0) au) (mW:=bj _))) aH)))
noncomputable def Ob(vr:List D->Rs D):aD->Rs D :=
  fA (ao (aF 0) aL) (bA 1 vr)
noncomputable def pW(vr:List D->Rs D):aD->Ou :=
  iG (bW iT (fC (.int 1)) (fA (ao (bW iT (fA (ao (fC (.int 0)) aL) jY) (qI (cj 0) (fun _=>.ok true) (Ob vr) 1 [] (fL (fA (ao (aF 0) aL) (bA 1 fU)) asL))) aL) (RD qP)))
noncomputable def iZ:Nat->List D->Rs D
 | 0=>fun _=>.no
 |n + 1=>fun ds=>jk (pW (iZ n) (aP ["form"] ds))
theorem Oc(F:lM K mg "_law_deep" sZ) (dO:qd P w K mg base "_law_parts" 1 1 fU):∀n,qd P w K mg base "_law_deep" (1 + 1 + n) 1 (iZ n) :=
 nQ (g:=pW) 1 F Nr fun _ _ hk dX _ _ _ _ _ _ _ _ hr hx =>
  aO (cA (jZ aH (afW rfl T.ahB (jZ (fH (aj aH au)) (vq (vp (aC sZ) ["form"] (N:=["part"]) (nt:=1) (caps:=[]) (by decide+kernel)) rfl (by decide+kernel) (Bg (bG dO hr hx (aj (sv 0) au) (mW:=ck (by decide) hk))) lO (fun _ _ _ _ _ _=>rg 0 (show jv (["part"]:List Str) by decide)) (fun _ _ _ _ _ _=>bG dX hr jm (aj (sv 0) au) (mW:=bj _)))))))
noncomputable def Ca:aD->Ou :=
  xY (ao (fC (.str "keep")) aL)
noncomputable def Cd:List D->Rs (List D):=fun ds=>qg (Ca (aP ["self"] ds))
theorem Jj{f:ae}(D:kW K "words" "Keep.words" nR f) :rK P w K mg base f 1 1 Cd :=
 nP (k:=0) (g:=Ca) D IW (fun _ _ _ _ _ _ us hl=>match us,hl with|[_],_=>rfl) fun _ _ _ _ _ _ _ hr hx =>
  aO (qQ (aj bB au))
noncomputable def wM:aD->Ou :=
  xY (ao (fC (.str "none")) aL)
noncomputable def wN:List D->Rs (List D):=fun ds=>qg (wM (aP ["self"] ds))
theorem Dj{f:ae}(D:kW K "words" "Nothing.words" jV f) :rK P w K mg base f 1 1 wN :=
 nP (k:=0) (g:=wM) D Di (fun _ _ _ _ _ _ us hl=>match us,hl with|[_],_=>rfl) fun _ _ _ _ _ _ _ hr hx =>
  aO (qQ (aj bB au))
noncomputable def rQ:aD->Ou :=
  xY (ao (fC (.str "all")) aL)
noncomputable def rR:List D->Rs (List D):=fun ds=>qg (rQ (aP ["self"] ds))
theorem za{f:ae}(D:kW K "words" "Everything.words" iB f) :rK P w K mg base f 1 1 rR :=
 nP (k:=0) (g:=rQ) D yZ (fun _ _ _ _ _ _ us hl=>match us,hl with|[_],_=>rfl) fun _ _ _ _ _ _ _ hr hx =>
  aO (qQ (aj bB au))
noncomputable def uL:aD->Rs D :=
  fA (ao (aF 0) aL) Ng
noncomputable def oG:aD->Ou :=
  iG (qI (cj 0) (fun _=>.ok true) uL 1 [] (fL (aF 0) asS))
noncomputable def cP:List D->Rs D:=fun ds=>jk (oG (aP ["numbers"] ds))
theorem Ef(F:lM K mg "number_words" nU) :qd P w K mg base "number_words" 1 1 cP :=
 wC (k:=0) (g:=oG) F Ec fun _ _ _ _ _ _ _ _ hr hx =>
  aO (cA (vq (vp (aC nU) ["numbers"] (N:=["number"]) (nt:=1) (caps:=[]) (by decide+kernel)) rfl (by decide+kernel) (ajy (sv 0)) lO (fun _ _ _ _ _ _=>rg 0 (show jv (["number"]:List Str) by decide)) (fun _ _ _ _ _ _=>Nh T.Ky (sv 0))))
noncomputable def lV(tb:PX):aD->Ou :=
  qR (bW iT (fA (ao (fC (.str "move")) aL) jY) (fA (ao (fB (aF 0) (ni CZ "step")) aL) (bA 1 cP))) (Qa 1 "words" tb (fB (aF 0) (ni lG "plan")) aL)
theorem Jk{f:ae}(D:kW K "words" "Move.words" nW f) (bF:qd P w K mg base "number_words" 1 1 cP) {k:Nat}{tb:PX}(hk:1<=k) (HJ:∀c v,bX c tb=some v->vJ P w K mg base c "words" k 1 v):rK P w K mg base f (k + 1) 1 (fun ds=>qg (lV tb (aP ["self"] ds))) :=
 nP (k:=k) (g:=lV tb) D Ja (fun _ _ _ _ _ _ us hl=>match us,hl with|[_],_=>rfl) fun _ _ _ _ _ _ _ hr hx =>
  aO (uD (jZ (fH (aj bB au)) (bG bF hr hx (aj (iH (m:=CZ) T.adL (sv 0)) au) (mW:=ck (by decide) hk))) (rJ HJ hr hx (iH (m:=lG) T.Ae (sv 0)) (mW:=bj _)))
noncomputable def oH:aD->Ou :=
  Hf 1 (fA (ao (aF 2) aL) (bA 1 cP))
noncomputable def qX:aD->Ou :=
  bR (Zk 1 aL)
  (bR (Gh (QD (cj 2) oH (aF 0)))
  (ada 1 (iG (aF 1))))
noncomputable def oJ:List D->Rs D:=fun ds=>jk (qX (aP ["steps","told","step"] ds))
theorem Jl(F:lM K mg "step_words" vP) (bF:qd P w K mg base "number_words" 1 1 cP):qd P w K mg base "step_words" 2 1 oJ :=
 wC (k:=1) (g:=qX) F ud fun _ _ _ _ _ _ _ _ hr hx =>
  aN (Mu 1 ud.nd au)
  (aN (xT (WL ky rfl (sv 0) (rg 2 ud.nd) (aO (Xy 1 (bG bF hr jm (aj (sv 2) au))))))
  (Mv 1 (aO (cA (sv 1)))))
noncomputable def pJ:aD->Ou :=
  iG (bW iT (fA (ao (fA (ao (fA (ao (aF 0) aL) vh) aL) jY) aL) (bA 1 cP)) (fA (ao (aF 0) aL) (bA 1 oJ)))
noncomputable def fV:List D->Rs D:=fun ds=>jk (pJ (aP ["piece"] ds))
theorem HN(F:lM K mg "piece_words" tZ) (bF:qd P w K mg base "number_words" 1 1 cP) (wg:qd P w K mg base "step_words" 2 1 oJ):qd P w K mg base "piece_words" 3 1 fV :=
 wC (k:=2) (g:=pJ) F Hw fun _ _ _ _ _ _ _ _ hr hx =>
  aO (cA (jZ (bG bF hr hx (aj (fH (aj (vm T.BJ (sv 0)) au)) au)) (bG wg hr hx (aj (sv 0) au))))
noncomputable def mY(tb:PX):aD->Ou :=
  qR (bW iT (fA (ao (fC (.str "eat")) aL) jY) (fA (ao (fB (aF 0) (ni pC "piece")) aL) (bA 1 fV))) (Qa 1 "words" tb (fB (aF 0) (ni lG "plan")) aL)
theorem Od{f:ae}(D:kW K "words" "Eat.words" pP f) (bU:qd P w K mg base "piece_words" 3 1 fV) {k:Nat}{tb:PX}(hk:3<=k) (HJ:∀c v,bX c tb=some v->vJ P w K mg base c "words" k 1 v):rK P w K mg base f (k + 1) 1 (fun ds=>qg (mY tb (aP ["self"] ds))) :=
 nP (k:=k) (g:=mY tb) D Nt (fun _ _ _ _ _ _ us hl=>match us,hl with|[_],_=>rfl) fun _ _ _ _ _ _ _ hr hx =>
  aO (uD (jZ (fH (aj bB au)) (bG bU hr hx (aj (iH (m:=pC) T.Nk (sv 0)) au) (mW:=ck (by decide) hk))) (rJ HJ hr hx (iH (m:=lG) T.Ae (sv 0)) (mW:=bj _)))
noncomputable def lW(tb:PX):aD->Ou :=
  qR (bW iT (fA (ao (fC (.str "grow")) aL) jY) (fA (ao (fB (aF 0) (ni pC "piece")) aL) (bA 1 fV))) (Qa 1 "words" tb (fB (aF 0) (ni lG "plan")) aL)
theorem Jm{f:ae}(D:kW K "words" "Grow.words" nY f) (bU:qd P w K mg base "piece_words" 3 1 fV) {k:Nat}{tb:PX}(hk:3<=k) (HJ:∀c v,bX c tb=some v->vJ P w K mg base c "words" k 1 v):rK P w K mg base f (k + 1) 1 (fun ds=>qg (lW tb (aP ["self"] ds))) :=
 nP (k:=k) (g:=lW tb) D Jb (fun _ _ _ _ _ _ us hl=>match us,hl with|[_],_=>rfl) fun _ _ _ _ _ _ _ hr hx =>
  aO (uD (jZ (fH (aj bB au)) (bG bU hr hx (aj (iH (m:=pC) T.Nk (sv 0)) au) (mW:=ck (by decide) hk))) (rJ HJ hr hx (iH (m:=lG) T.Ae (sv 0)) (mW:=bj _)))
noncomputable def lZ(tb:PX):aD->Ou :=
  qR (bW iT (fA (ao (fC (.str "both")) aL) jY) (Qa 1 "words" tb (fB (aF 0) (ni uE "one")) aL)) (Qa 1 "words" tb (fB (aF 0) (ni lQ "other")) aL)
theorem Jo{f:ae}(D:kW K "words" "Both.words" nZ f)  {k:Nat}{tb:PX}(hk:0<=k) (HJ:∀c v,bX c tb=some v->vJ P w K mg base c "words" k 1 v):rK P w K mg base f (k + 1) 1 (fun ds=>qg (lZ tb (aP ["self"] ds))) :=
 nP (k:=k) (g:=lZ tb) D Jc (fun _ _ _ _ _ _ us hl=>match us,hl with|[_],_=>rfl) fun _ _ _ _ _ _ _ hr hx =>
  aO (uD (jZ (fH (aj bB au)) (rJ HJ hr hx (iH (m:=uE) T.RZ (sv 0)) (mW:=bj _))) (rJ HJ hr hx (iH (m:=lQ) T.BP (sv 0)) (mW:=bj _)))
noncomputable def jz(tb:PX):aD->Ou :=
  qR (bW iT (fA (ao (fC (.str "either")) aL) jY) (Qa 1 "words" tb (fB (aF 0) (ni uE "one")) aL)) (Qa 1 "words" tb (fB (aF 0) (ni lQ "other")) aL)
theorem Eh{f:ae}(D:kW K "words" "Either.words" lF f)  {k:Nat}{tb:PX}(hk:0<=k) (HJ:∀c v,bX c tb=some v->vJ P w K mg base c "words" k 1 v):rK P w K mg base f (k + 1) 1 (fun ds=>qg (jz tb (aP ["self"] ds))) :=
 nP (k:=k) (g:=jz tb) D Ed (fun _ _ _ _ _ _ us hl=>match us,hl with|[_],_=>rfl) fun _ _ _ _ _ _ _ hr hx =>
  aO (uD (jZ (fH (aj bB au)) (rJ HJ hr hx (iH (m:=uE) T.RZ (sv 0)) (mW:=bj _))) (rJ HJ hr hx (iH (m:=lQ) T.BP (sv 0)) (mW:=bj _)))
noncomputable def dh:Nat->Tbf
 | 0=>[]
 |n + 1=>[("Keep",Cd),("Nothing",wN),("Everything",rR),("Move",fun ds=>qg (lV (sH (dh n)) (aP ["self"] ds))),("Eat",fun ds=>qg (mY (sH (dh n)) (aP ["self"] ds))),("Grow",fun ds=>qg (lW (sH (dh n)) (aP ["self"] ds))),("Both",fun ds=>qg (lZ (sH (dh n)) (aP ["self"] ds))),("Either",fun ds=>qg (jz (sH (dh n)) (aP ["self"] ds)))]
noncomputable def Oe(n:Nat):PX:=sH (dh n)
theorem lK{fW:ae}(eF:kW K "words" "Keep.words" nR fW) {cX:ae}(cH:kW K "words" "Nothing.words" jV cX) {bY:ae}(bT:kW K "words" "Everything.words" iB bY) {fX:ae}(eG:kW K "words" "Move.words" nW fX) {gW:ae}(gw:kW K "words" "Eat.words" pP gW) {fY:ae}(eH:kW K "words" "Grow.words" nY fY) {fZ:ae}(eN:kW K "words" "Both.words" nZ fZ) {dJ:ae}(cQ:kW K "words" "Either.words" lF dJ) (jc:wF K dg fW "words"=true) (eV:wF K bC cX "words"=true) (cR:wF K aU bY "words"=true) (jd:wF K cF fX "words"=true) (jE:wF K eE gW "words"=true) (je:wF K cG fY "words"=true) (jf:wF K cB fZ "words"=true) (gA:wF K bD dJ "words"=true) (bF:qd P w K mg base "number_words" 1 1 cP) (bU:qd P w K mg base "piece_words" 3 1 fV):∀n c v,bX c (dh n)=some v->Hu P w K mg base c "words" (3 + n) 1 v
 | 0=>Nf
 |n + 1=>gH (((Jj T eF ).mono (by omega)).mf T.mD jc) (gH (((Dj T cH ).mono (by omega)).mf T.eO eV) (gH (((za T bT ).mono (by omega)).mf T.cg cR) (gH ((Jk (k:=3 + n) T eG bF (by omega) (yS (lK eF cH bT eG gw eH eN cQ jc eV cR jd jE je jf gA bF bU n))).mf T.kj jd) (gH ((Od (k:=3 + n) T gw bU (by omega) (yS (lK eF cH bT eG gw eH eN cQ jc eV cR jd jE je jf gA bF bU n))).mf T.oU jE) (gH ((Jm (k:=3 + n) T eH bU (by omega) (yS (lK eF cH bT eG gw eH eN cQ jc eV cR jd jE je jf gA bF bU n))).mf T.kE je) (gH ((Jo (k:=3 + n) T eN  (by omega) (yS (lK eF cH bT eG gw eH eN cQ jc eV cR jd jE je jf gA bF bU n))).mf T.jG jf) (gH ((Eh (k:=3 + n) T cQ  (by omega) (yS (lK eF cH bT eG gw eH eN cQ jc eV cR jd jE je jf gA bF bU n))).mf T.fu gA) (Nf))))))))
theorem VD{fW:ae}(eF:kW K "words" "Keep.words" nR fW) {cX:ae}(cH:kW K "words" "Nothing.words" jV cX) {bY:ae}(bT:kW K "words" "Everything.words" iB bY) {fX:ae}(eG:kW K "words" "Move.words" nW fX) {gW:ae}(gw:kW K "words" "Eat.words" pP gW) {fY:ae}(eH:kW K "words" "Grow.words" nY fY) {fZ:ae}(eN:kW K "words" "Both.words" nZ fZ) {dJ:ae}(cQ:kW K "words" "Either.words" lF dJ) (jc:wF K dg fW "words"=true) (eV:wF K bC cX "words"=true) (cR:wF K aU bY "words"=true) (jd:wF K cF fX "words"=true) (jE:wF K eE gW "words"=true) (je:wF K cG fY "words"=true) (jf:wF K cB fZ "words"=true) (gA:wF K bD dJ "words"=true) (bF:qd P w K mg base "number_words" 1 1 cP) (bU:qd P w K mg base "piece_words" 3 1 fV) (n:Nat):∀c v,bX c (Oe n)=some v->vJ P w K mg base c "words" (3 + n) 1 v:=yS (lK T eF cH bT eG gw eH eN cQ jc eV cR jd jE je jf gA bF bU n)
noncomputable def tL:aD->Ou :=
  iG (fB (Qa 1 "words" (Oe 13) (aF 0) aL) (DK " "))
noncomputable def pX:List D->Rs D:=fun ds=>jk (tL (aP ["plan"] ds))
theorem Og(F:lM K mg "plan_text" yq) (Dl:∀c v,bX c (Oe 13)=some v->vJ P w K mg base c "words" 16 1 v):qd P w K mg base "plan_text" 17 1 pX :=
 wC (k:=16) (g:=tL) F Nu fun _ _ _ _ _ _ _ _ hr hx =>
  aO (cA (Xu (rJ Dl hr hx (sv 0))))
noncomputable def qY:aD->Ou :=
  bR (DP 4 1 "words" (dh 13) (aF 0))
  (bR (DP 5 1 "parts_in" pR (aF 0))
  (bR (pZ (Lg (Cy (Hl 4 (fT (fA (ao (aF 4) (ao (aF 2) aL)) (bA 2 (aZ 5)))))) (Cy (fT (fA (ao (fA (ao (aF 0) aL) (bA 1 pX)) (ao (fB (aF 2) (DK " ")) aL)) (bA 2 (aZ 5)))))) (iG (fC (.bl false))) sG)
  (bR (Aa 4 (fC (.str "keep")))
  (bR (Xv 4 (fC (.str "none")) (fC (.int 0)))
  (Aa 5 (aF 0))))))
noncomputable def tM:aD->Ou :=
  bR (rD 2 (fA (ao (aF 1) aL) (bA 1 (dN 13))))
  (bR (Gh (JQ (cj 3) qY (fC (.int 2))))
  (bR (pZ (Lg (Cy (fT (fA (ao (fA (ao (aF 0) aL) (bA 1 (lU 13))) (ao (fA (ao (aF 1) aL) (bA 1 (iY 13))) aL)) (bA 2 (aZ 5))))) (Cy (fT (fA (ao (fA (ao (aF 0) aL) (bA 1 (vZ 13))) (ao (fA (ao (aF 1) aL) (bA 1 (iZ 13))) aL)) (bA 2 (aZ 5)))))) (iG (fC (.bl false))) sG)
  (iG (fA (ao (aF 0) (ao (aF 1) aL)) (bA 2 uJ)))))
noncomputable def pY:List D->Rs D:=fun ds=>jk (tM (aP ["plan","form","words","turn","found","inner"] ds))
theorem Oh(F:lM K mg "_law_good" yr) (wj:qd P w K mg base "_law_words" 15 1 (dN 13)) (Ai:∀c v,bX c (dh 13)=some v->Hu P w K mg base c "words" 16 1 v) (uf:∀c v,bX c pR=some v->Hu P w K mg base c "parts_in" 1 1 v) (gU:qd P w K mg base "_law_same" 6 2 (aZ 5)) (yC:qd P w K mg base "plan_text" 17 1 pX) (yD:qd P w K mg base "_law_many" 15 1 (iY 13)) (Dm:qd P w K mg base "many_in" 15 1 (lU 13)) (yE:qd P w K mg base "_law_deep" 15 1 (iZ 13)) (VF:qd P w K mg base "deep" 15 1 (vZ 13)) (Dp:qd P w K mg base "_law_is" 22 2 uJ):qd P w K mg base "_law_good" 23 2 pY :=
 wC (k:=22) (g:=tM) F ou fun _ _ _ _ _ _ _ _ hr hx =>
  aN (mO 2 ou.nd (bG wj hr hx (aj (sv 1) au)))
  (aN (xT (Li ky rfl T.Fj aH (rg 3 ou.nd) (aN (XM 4 Ai hr ou.nd (sv 0))
  (aN (XM 5 uf hr ou.nd (sv 0))
  (aN (dR (DX (zf (vg (agk 4 (ji (bG gU hr jm (aj (sv 4) (aj (sv 2) au)))))) (tU (vg (ji (bG gU hr jm (aj (bG yC hr jm (aj (sv 0) au)) (aj (Xu (sv 2)) au)))))))) (aO (cA Dv)) cC)
  (aN (rG 4 bB)
  (aN (afU 4 bB aH)
  (aO (rG 5 (sv 0))))))))))
  (aN (dR (DX (zf (vg (ji (bG gU hr hx (aj (bG Dm hr hx (aj (sv 0) au)) (aj (bG yD hr hx (aj (sv 1) au)) au))))) (tU (vg (ji (bG gU hr hx (aj (bG VF hr hx (aj (sv 0) au)) (aj (bG yE hr hx (aj (sv 1) au)) au)))))))) (aO (cA Dv)) cC)
  (aO (cA (bG Dp hr hx (aj (sv 0) (aj (sv 1) au)))))))
noncomputable def qZ:aD->Ou :=
  bR (rD 3 (bW Io (bW iT (bW iT (bW wY (aF 3) (fC (.int 48271))) (bW wY (bW wY (fC (.int 7919)) (aF 4)) (aF 4))) (fC (.int 104729))) (fC (.int 2147483647))))
  (bR (rD 5 (bW Io (bW wY (aF 3) (aF 3)) (fC (.int 2147483629))))
  (rD 2 (bW iT (bW wY (aF 2) (fC (.int 65536))) (bW Io (bW Qy (aF 5) (fC (.int 512))) (fC (.int 65536))))))
noncomputable def mZ:aD->Ou :=
  bR (pZ (fT (bW gGe (aF 0) (bW Qz (fC (.int 10)) (fC (.int 18))))) (iG (bW rZ (aF 0) (bW Qz (fC (.int 10)) (fC (.int 18))))) sG)
  (bR (rD 2 (fC (.int 0)))
  (bR (rD 3 (bW iT (bW Io (aF 0) (fC (.int 2147483647))) (fC (.int 16807))))
  (bR (Gh (JQ (cj 4) qZ (aF 1)))
  (iG (aF 2)))))
noncomputable def jg:List D->Rs D:=fun ds=>jk (mZ (aP ["cell","many","number","one","k","two"] ds))
theorem Oi(F:lM K mg "_law_deal" yt) :qd P w K mg base "_law_deal" 1 2 jg :=
 wC (k:=0) (g:=mZ) F jJ fun _ _ _ _ _ _ _ _ hr hx =>
  aN (dR (alx (sv 0) (Ut aH aH)) (aO (cA (rB (sv 0) (Ut aH aH)))) cC)
  (aN (mO 2 jJ.nd aH)
  (aN (mO 3 jJ.nd (jZ (zT (sv 0) aH) aH))
  (aN (xT (Li ky rfl T.Fj (sv 1) (rg 4 jJ.nd) (aN (mO 3 jJ.nd (zT (jZ (jZ (zR (sv 3) aH) (zR (zR aH (sv 4)) (sv 4))) aH) aH))
  (aN (mO 5 jJ.nd (zT (zR (sv 3) (sv 3)) aH))
  (aO (mO 2 jJ.nd (jZ (zR (sv 2) aH) (zT (Lh (sv 5) aH) aH))))))))
  (aO (cA (sv 2))))))
noncomputable def Fl:aD->Ou :=
  bR (afu (fMT 1 jD (ao (fA (ao (aF 2) (ao (fC (.int 80)) aL)) (bA 2 jg)) aL) (ao (aF 1) aL)) (xO 2 (iD (cj 3) (iD (cj 4) zU))))
  (pZ (Cy (fT (fA (ao (aF 3) (ao (aF 4) aL)) (bA 2 pY)))) (iG (fC (.bl false))) sG)
noncomputable def XQ:aD->Ou :=
  bR (Gh (Xr (xO 2 (iD (cj 1) (iD (cj 2) zU))) Fl (bW iT (fA (ao (fC (.int 4)) aL) jY) (aF 0))))
  (iG (fC (.bl true)))
noncomputable def XR:List D->Rs D:=fun ds=>jk (XQ (aP ["script","k","cell","plan","form"] ds))
theorem amh{f:ae}(yF:Br P w K mg base "_law_made" 17 1 jD) (yG:qd P w K mg base "_law_deal" 1 2 jg) (yH:qd P w K mg base "_law_good" 23 2 pY) {cdv:aa}{A:aT}{outer:List Env}{s:af}{H:Hp}{E:XK}{B:Bs}(hr:jP 23 (A.deeper (kP "law" (aC wG) s.heap.objs.size f cdv)))
  (hx:uo (tR (wZ P w K) P w K mg base ["script","k","cell","plan","form"] "law" (aC wG) f cdv A outer s H E) (fun c n _ H'=>E (yX c n) none H')) :
  Ba (tR (wZ P w K) P w K mg base ["script","k","cell","plan","form"] "law" (aC wG) f cdv A outer s H E) B (fun c n _ H'=>E (yX c n) none H') (cM wG) XQ :=
  aN (xT (afS ky rfl T.RV (jZ (fH (aj aH au)) (sv 0)) (Ga rfl (mG (rg 1 Hx.nd) (mG (rg 2 Hx.nd) Bc))) (aN (aiP (ZM yF hr (aj (bG yG hr jm (aj (sv 2) (aj aH au))) au) (aj (sv 1) au)) (Ga rfl (mG (rg 3 Hx.nd) (mG (rg 4 Hx.nd) Bc))))
  (aO (dR (vg (ji (bG yH hr jm (aj (sv 3) (aj (sv 4) au))))) (aO (cA Dv)) cC)))))
  (aO (cA Dv))
end
section
variable{l:lT}{w:ay}{K:c9}{h:aw}{mg:Str->Option aa}{fa:ae}{lH dg bC aU cF eE cG cB:ae}{bD:ae}
 {adO:ae}{ajQ adP:Option ae}{ajR:Array (Option aa)}{ajS adQ adR adS VG adT:aa}
 {Oj:ae}
 {VH:ae}
 {Ol:ae}
 {Om:ae}
 {Dq:ae}
 {bJ:ae}
 {cU:ae}
 {dH:ae}
 {cV:ae}
 {cW:ae}
 {cu:ae}
 {fW:ae}
 {cX:ae}
 {bY:ae}
 {fX:ae}
 {gW:ae}
 {fY:ae}
 {fZ:ae}
 {dJ:ae}
theorem all_mk(X:K.In h) (G:h.Ns bb mg) (hfa:mg "law"=some (.ref fa))
  (Vu:bz K bb "Plan"=some (some (.ref lH)))
  (mD:bz K bb "Keep"=some (some (.ref dg)))
  (eO:bz K bb "Nothing"=some (some (.ref bC)))
  (cg:bz K bb "Everything"=some (some (.ref aU)))
  (kj:bz K bb "Move"=some (some (.ref cF)))
  (oU:bz K bb "Eat"=some (some (.ref eE)))
  (kE:bz K bb "Grow"=some (some (.ref cG)))
  (jG:bz K bb "Both"=some (some (.ref cB)))
  (fu:bz K bb "Either"=some (some (.ref bD)))
  (amS:jl K lH=true)
  (mj:jl K dg=true)
  (fM:jl K bC=true)
  (cI:jl K aU=true)
  (jM:jl K cF=true)
  (mU:jl K eE=true)
  (jN:jl K cG=true)
  (jO:jl K cB=true)
  (fO:jl K bD=true)
  (Vw:IK K dg=true)
  (Dc:IK K bC=true)
  (vR:IK K aU=true)
  (amT:b6 K (.ref cF) "__init__"=some (some (.ref Oj)))
  (agz:kW K "__init__" "Move.__init__" Bv Oj)
  (agA:RM K cF Oj ["step","plan"]=true)
  (aox:b6 K (.ref eE) "__init__"=some (some (.ref VH)))
  (ajT:kW K "__init__" "Eat.__init__" Fi VH)
  (ajU:RM K eE VH ["piece","plan"]=true)
  (amU:b6 K (.ref cG) "__init__"=some (some (.ref Ol)))
  (agB:kW K "__init__" "Grow.__init__" Bw Ol)
  (agC:RM K cG Ol ["piece","plan"]=true)
  (amV:b6 K (.ref cB) "__init__"=some (some (.ref Om)))
  (agD:kW K "__init__" "Both.__init__" Bx Om)
  (agE:RM K cB Om ["one","other"]=true)
  (akB:b6 K (.ref bD) "__init__"=some (some (.ref Dq)))
  (ZX:kW K "__init__" "Either.__init__" vQ Dq)
  (aac:RM K bD Dq ["one","other"]=true)
  (Oo:b6 K (.ref cF) "step"=some none)
  (Oq:b6 K (.ref eE) "piece"=some none)
  (Jp:b6 K (.ref cG) "piece"=some none)
  (Ot:b6 K (.ref cF) "plan"=some none)
  (Ss:b6 K (.ref eE) "plan"=some none)
  (Ov:b6 K (.ref cG) "plan"=some none)
  (Jq:b6 K (.ref cB) "other"=some none)
  (Ei:b6 K (.ref bD) "other"=some none)
  (Sv:b6 K (.ref cB) "one"=some none)
  (Jr:b6 K (.ref bD) "one"=some none)
  (aad:bg K (.ref dg) (.ref dg)=some true)
  (Ow:bg K (.ref bC) (.ref dg)=some false)
  (Ej:bg K (.ref aU) (.ref dg)=some false)
  (aae:bg K (.ref cF) (.ref dg)=some false)
  (adU:bg K (.ref eE) (.ref dg)=some false)
  (aaf:bg K (.ref cG) (.ref dg)=some false)
  (aag:bg K (.ref cB) (.ref dg)=some false)
  (Sw:bg K (.ref bD) (.ref dg)=some false)
  (aah:bg K (.ref dg) (.ref bC)=some false)
  (Ox:bg K (.ref bC) (.ref bC)=some true)
  (Ek:bg K (.ref aU) (.ref bC)=some false)
  (aai:bg K (.ref cF) (.ref bC)=some false)
  (adV:bg K (.ref eE) (.ref bC)=some false)
  (aaj:bg K (.ref cG) (.ref bC)=some false)
  (aak:bg K (.ref cB) (.ref bC)=some false)
  (Sx:bg K (.ref bD) (.ref bC)=some false)
  (aal:bg K (.ref dg) (.ref aU)=some false)
  (Oz:bg K (.ref bC) (.ref aU)=some false)
  (El:bg K (.ref aU) (.ref aU)=some true)
  (aam:bg K (.ref cF) (.ref aU)=some false)
  (adW:bg K (.ref eE) (.ref aU)=some false)
  (aan:bg K (.ref cG) (.ref aU)=some false)
  (aao:bg K (.ref cB) (.ref aU)=some false)
  (Sy:bg K (.ref bD) (.ref aU)=some false)
  (aap:bg K (.ref dg) (.ref cF)=some false)
  (OD:bg K (.ref bC) (.ref cF)=some false)
  (Em:bg K (.ref aU) (.ref cF)=some false)
  (aaq:bg K (.ref cF) (.ref cF)=some true)
  (adX:bg K (.ref eE) (.ref cF)=some false)
  (aar:bg K (.ref cG) (.ref cF)=some false)
  (aas:bg K (.ref cB) (.ref cF)=some false)
  (SJ:bg K (.ref bD) (.ref cF)=some false)
  (aat:bg K (.ref dg) (.ref eE)=some false)
  (OJ:bg K (.ref bC) (.ref eE)=some false)
  (En:bg K (.ref aU) (.ref eE)=some false)
  (aau:bg K (.ref cF) (.ref eE)=some false)
  (adY:bg K (.ref eE) (.ref eE)=some true)
  (aav:bg K (.ref cG) (.ref eE)=some false)
  (aaw:bg K (.ref cB) (.ref eE)=some false)
  (SM:bg K (.ref bD) (.ref eE)=some false)
  (aax:bg K (.ref dg) (.ref cG)=some false)
  (Pa:bg K (.ref bC) (.ref cG)=some false)
  (Eo:bg K (.ref aU) (.ref cG)=some false)
  (aay:bg K (.ref cF) (.ref cG)=some false)
  (adZ:bg K (.ref eE) (.ref cG)=some false)
  (aaz:bg K (.ref cG) (.ref cG)=some true)
  (aaA:bg K (.ref cB) (.ref cG)=some false)
  (SN:bg K (.ref bD) (.ref cG)=some false)
  (aaB:bg K (.ref dg) (.ref cB)=some false)
  (Pb:bg K (.ref bC) (.ref cB)=some false)
  (Ep:bg K (.ref aU) (.ref cB)=some false)
  (aaC:bg K (.ref cF) (.ref cB)=some false)
  (aea:bg K (.ref eE) (.ref cB)=some false)
  (aaD:bg K (.ref cG) (.ref cB)=some false)
  (aaE:bg K (.ref cB) (.ref cB)=some true)
  (SQ:bg K (.ref bD) (.ref cB)=some false)
  (aaF:bg K (.ref dg) (.ref bD)=some false)
  (Pg:bg K (.ref bC) (.ref bD)=some false)
  (Er:bg K (.ref aU) (.ref bD)=some false)
  (aaG:bg K (.ref cF) (.ref bD)=some false)
  (aeb:bg K (.ref eE) (.ref bD)=some false)
  (aaH:bg K (.ref cG) (.ref bD)=some false)
  (aaI:bg K (.ref cB) (.ref bD)=some false)
  (Tc:bg K (.ref bD) (.ref bD)=some true)
  (aaJ:bg K (.ref dg) (.ref lH)=some true)
  (Ph:bg K (.ref bC) (.ref lH)=some true)
  (Es:bg K (.ref aU) (.ref lH)=some true)
  (aaK:bg K (.ref cF) (.ref lH)=some true)
  (aec:bg K (.ref eE) (.ref lH)=some true)
  (aaL:bg K (.ref cG) (.ref lH)=some true)
  (aaM:bg K (.ref cB) (.ref lH)=some true)
  (Td:bg K (.ref bD) (.ref lH)=some true)
  (uM:b6 K (.ref dg) "parts_in"=some (some (.ref bJ)))
  (qK:b6 K (.ref bC) "parts_in"=some (some (.ref bJ)))
  (oK:b6 K (.ref aU) "parts_in"=some (some (.ref bJ)))
  (uN:b6 K (.ref cF) "parts_in"=some (some (.ref cU)))
  (wO:b6 K (.ref eE) "parts_in"=some (some (.ref dH)))
  (uO:b6 K (.ref cG) "parts_in"=some (some (.ref cV)))
  (uP:b6 K (.ref cB) "parts_in"=some (some (.ref cW)))
  (rT:b6 K (.ref bD) "parts_in"=some (some (.ref cu)))
  (cT:kW K "parts_in" "Plan.parts_in" jQ bJ)
  (iu:eQ K (.ref bJ)=true)
  (iw:du K (.ref bJ)=true)
  (iJ:kW K "parts_in" "Move.parts_in" jR cU)
  (uQ:eQ K (.ref cU)=true)
  (uR:du K (.ref cU)=true)
  (jy:kW K "parts_in" "Eat.parts_in" lE dH)
  (wQ:eQ K (.ref dH)=true)
  (wR:du K (.ref dH)=true)
  (iK:kW K "parts_in" "Grow.parts_in" jT cV)
  (uT:eQ K (.ref cV)=true)
  (uU:du K (.ref cV)=true)
  (iM:kW K "parts_in" "Both.parts_in" jU cW)
  (uV:eQ K (.ref cW)=true)
  (uW:du K (.ref cW)=true)
  (gD:kW K "parts_in" "Either.parts_in" iV cu)
  (rU:eQ K (.ref cu)=true)
  (rW:du K (.ref cu)=true)
  (zy:b6 K (.ref dg) "words"=some (some (.ref fW)))
  (uX:b6 K (.ref bC) "words"=some (some (.ref cX)))
  (qL:b6 K (.ref aU) "words"=some (some (.ref bY)))
  (zA:b6 K (.ref cF) "words"=some (some (.ref fX)))
  (Ce:b6 K (.ref eE) "words"=some (some (.ref gW)))
  (zB:b6 K (.ref cG) "words"=some (some (.ref fY)))
  (zE:b6 K (.ref cB) "words"=some (some (.ref fZ)))
  (wU:b6 K (.ref bD) "words"=some (some (.ref dJ)))
  (eF:kW K "words" "Keep.words" nR fW)
  (zF:eQ K (.ref fW)=true)
  (zG:du K (.ref fW)=true)
  (cH:kW K "words" "Nothing.words" jV cX)
  (uY:eQ K (.ref cX)=true)
  (uZ:du K (.ref cX)=true)
  (bT:kW K "words" "Everything.words" iB bY)
  (qM:eQ K (.ref bY)=true)
  (qN:du K (.ref bY)=true)
  (eG:kW K "words" "Move.words" nW fX)
  (zH:eQ K (.ref fX)=true)
  (zJ:du K (.ref fX)=true)
  (gw:kW K "words" "Eat.words" pP gW)
  (Cg:eQ K (.ref gW)=true)
  (Ci:du K (.ref gW)=true)
  (eH:kW K "words" "Grow.words" nY fY)
  (zK:eQ K (.ref fY)=true)
  (zL:du K (.ref fY)=true)
  (eN:kW K "words" "Both.words" nZ fZ)
  (zM:eQ K (.ref fZ)=true)
  (zN:du K (.ref fZ)=true)
  (cQ:kW K "words" "Either.words" lF dJ)
  (wV:eQ K (.ref dJ)=true)
  (wW:du K (.ref dJ)=true)
  (Te:Dn K "_law_take" yc)
  (Tf:Dn K "_law_step" yd)
  (Pj:Dn K "_law_piece" vK)
  (Ti:Dn K "_law_form" yg)
  (Tj:Dn K "_law_plan" yh)
  (Pk:Dn K "_law_chain" vL)
  (Tn:Dn K "_law_tree" yj)
  (Tp:Dn K "_law_made" yp)
  (Pn:Dn K "_law_parts" vM)
  (Pq:Dn K "_law_words" vN)
  (Tq:Dn K "_law_same" sV)
  (Pu:Dn K "_law_kinds" vO)
  (VJ:Dn K "_law_top" Ad)
  (Js:Dn K "_law_walked" pB)
  (aaN:Dn K "_law_is" CW)
  (aaO:Dn K "many_in" yU)
  (Tt:Dn K "_law_many" sW)
  (ajV:Dn K "deep" Ni)
  (Tv:Dn K "_law_deep" sZ)
  (HS:Dn K "number_words" nU)
  (Py:Dn K "step_words" vP)
  (Jt:Dn K "piece_words" tZ)
  (Tw:Dn K "plan_text" yq)
  (Tz:Dn K "_law_good" yr)
  (TF:Dn K "_law_deal" yt)
  (ami:bz K bb "law"=some (some (.ref adO)))
  (amj:K.lookup adO=some ⟨ajS,ajQ,.func (kv "law" "law" (iC wG) (cM wG) (aC wG) .none adQ adR adS adP VG adT),ajR⟩)
  (amk:codeIn K VG "law"=true)
  (aml:du K (.ref adO)=true)
  (amm:bz K bb "all"=some none)
  (ajW:bz K bb "bool"=some none)
  (TJ:bz K bb "enumerate"=some none)
  (amn:bz K bb "int"=some none)
  (Pz:bz K bb "isinstance"=some none)
  (amo:bz K bb "len"=some none)
  (ajX:bz K bb "list"=some none)
  (amq:bz K bb "max"=some none)
  (agF:bz K bb "range"=some none)
  (amr:bz K bb "set"=some none)
  (aed:bz K bb "sorted"=some none)
  (ams:bz K bb "str"=some none)
  (amt:bz K bb "sum"=some none)
  (agG:bz K bb "tuple"=some none)
  (amu:bz K bb "zip"=some none) :
  ∃fd:cz,(∀(s:af) (v:aa),i0 s fd ⟨[v],[]⟩ [("script",v)])/\∀base:aw,K.In base->base.Ns bb mg->nD l.prog w K mg base (wZ l.prog w K) 24 fa fd ["script"] (spV K 1 XR):=by
 have e:=hfa.symm.trans (ip X G ami);cases e;have amv:=abu (st:=wG) amj amk aml;refine⟨kv "law" "law" (iC wG) (cM wG) (aC wG) .none adQ adR adS adP VG adT,fun s v=>.of_eq rfl,fun base _ _=>?_⟩;have T:Txt l.prog w base K mg lH dg bC aU cF eE cG cB bD:=⟨fv X G amm,
  fv X G ajW,
  fv X G TJ,
  fv X G amn,
  fv X G Pz,
  fv X G amo,
  fv X G ajX,
  fv X G amq,
  fv X G agF,
  fv X G amr,
  fv X G aed,
  fv X G ams,
  fv X G amt,
  fv X G agG,
  fv X G amu,
  ip X G Vu,
  Vu,
  ip X G mD,
  mD,
  ip X G eO,
  eO,
  ip X G cg,
  cg,
  ip X G kj,
  kj,
  ip X G oU,
  oU,
  ip X G kE,
  kE,
  ip X G jG,
  jG,
  ip X G fu,
  fu,
  Vw,
  Dc,
  vR,
  (fun c C h hn=>(aJ (Pr:=fun C _=>jl K C=true/\b6 K (.ref C) "step"=some none) kj ⟨jM,Oo⟩ kO) c true C (by unfold CZ at h;exact beq_iff_eq.mp h) hn),
  (fun c C h hn=>(aJ (Pr:=fun C _=>jl K C=true/\b6 K (.ref C) "piece"=some none) oU ⟨mU,Oq⟩ (aJ kE ⟨jN,Jp⟩ kO)) c true C (by unfold pC at h;exact beq_iff_eq.mp h) hn),
  (fun c C h hn=>(aJ (Pr:=fun C _=>jl K C=true/\b6 K (.ref C) "plan"=some none) kj ⟨jM,Ot⟩ (aJ oU ⟨mU,Ss⟩ (aJ kE ⟨jN,Ov⟩ kO))) c true C (by unfold lG at h;exact beq_iff_eq.mp h) hn),
  (fun c C h hn=>(aJ (Pr:=fun C _=>jl K C=true/\b6 K (.ref C) "other"=some none) jG ⟨jO,Jq⟩ (aJ fu ⟨fO,Ei⟩ kO)) c true C (by unfold lQ at h;exact beq_iff_eq.mp h) hn),
  (fun c C h hn=>(aJ (Pr:=fun C _=>jl K C=true/\b6 K (.ref C) "one"=some none) jG ⟨jO,Sv⟩ (aJ fu ⟨fO,Jr⟩ kO)) c true C (by unfold uE at h;exact beq_iff_eq.mp h) hn),
  (aJ mD ⟨mj,aad⟩ (aJ eO ⟨fM,Ow⟩ (aJ cg ⟨cI,Ej⟩ (aJ kj ⟨jM,aae⟩ (aJ oU ⟨mU,adU⟩ (aJ kE ⟨jN,aaf⟩ (aJ jG ⟨jO,aag⟩ (aJ fu ⟨fO,Sw⟩ kO)))))))),
  (aJ mD ⟨mj,aah⟩ (aJ eO ⟨fM,Ox⟩ (aJ cg ⟨cI,Ek⟩ (aJ kj ⟨jM,aai⟩ (aJ oU ⟨mU,adV⟩ (aJ kE ⟨jN,aaj⟩ (aJ jG ⟨jO,aak⟩ (aJ fu ⟨fO,Sx⟩ kO)))))))),
  (aJ mD ⟨mj,aal⟩ (aJ eO ⟨fM,Oz⟩ (aJ cg ⟨cI,El⟩ (aJ kj ⟨jM,aam⟩ (aJ oU ⟨mU,adW⟩ (aJ kE ⟨jN,aan⟩ (aJ jG ⟨jO,aao⟩ (aJ fu ⟨fO,Sy⟩ kO)))))))),
  (aJ mD ⟨mj,aap⟩ (aJ eO ⟨fM,OD⟩ (aJ cg ⟨cI,Em⟩ (aJ kj ⟨jM,aaq⟩ (aJ oU ⟨mU,adX⟩ (aJ kE ⟨jN,aar⟩ (aJ jG ⟨jO,aas⟩ (aJ fu ⟨fO,SJ⟩ kO)))))))),
  (aJ mD ⟨mj,aat⟩ (aJ eO ⟨fM,OJ⟩ (aJ cg ⟨cI,En⟩ (aJ kj ⟨jM,aau⟩ (aJ oU ⟨mU,adY⟩ (aJ kE ⟨jN,aav⟩ (aJ jG ⟨jO,aaw⟩ (aJ fu ⟨fO,SM⟩ kO)))))))),
  (aJ mD ⟨mj,aax⟩ (aJ eO ⟨fM,Pa⟩ (aJ cg ⟨cI,Eo⟩ (aJ kj ⟨jM,aay⟩ (aJ oU ⟨mU,adZ⟩ (aJ kE ⟨jN,aaz⟩ (aJ jG ⟨jO,aaA⟩ (aJ fu ⟨fO,SN⟩ kO)))))))),
  (aJ mD ⟨mj,aaB⟩ (aJ eO ⟨fM,Pb⟩ (aJ cg ⟨cI,Ep⟩ (aJ kj ⟨jM,aaC⟩ (aJ oU ⟨mU,aea⟩ (aJ kE ⟨jN,aaD⟩ (aJ jG ⟨jO,aaE⟩ (aJ fu ⟨fO,SQ⟩ kO)))))))),
  (aJ mD ⟨mj,aaF⟩ (aJ eO ⟨fM,Pg⟩ (aJ cg ⟨cI,Er⟩ (aJ kj ⟨jM,aaG⟩ (aJ oU ⟨mU,aeb⟩ (aJ kE ⟨jN,aaH⟩ (aJ jG ⟨jO,aaI⟩ (aJ fu ⟨fO,Tc⟩ kO)))))))),
  (aJ mD ⟨mj,aaJ⟩ (aJ eO ⟨fM,Ph⟩ (aJ cg ⟨cI,Es⟩ (aJ kj ⟨jM,aaK⟩ (aJ oU ⟨mU,aec⟩ (aJ kE ⟨jN,aaL⟩ (aJ jG ⟨jO,aaM⟩ (aJ fu ⟨fO,Td⟩ kO))))))))⟩
 have Hy:=agv (P:=l.prog) (w:=w) (mg:=mg) (base:=base) agz agA;have NK:=ajP (P:=l.prog) (w:=w) (mg:=mg) (base:=base) ajT ajU;have Hz:=agw (P:=l.prog) (w:=w) (mg:=mg) (base:=base) agB agC;have uF:=agx (P:=l.prog) (w:=w) (mg:=mg) (base:=base) agD agE;have Ag:=ZW (P:=l.prog) (w:=w) (mg:=mg) (base:=base) ZX aac;have bh:=Nv T (Te.ent X G);have eU:=Nx T (Tf.ent X G) bh;have lR:=Jd T (Pj.ent X G) eU bh;have tE:=Ny T (Ti.ent X G) bh eU lR 6;have pQ:=Nz T (Tj.ent X G) Hy NK Hz uF Ag 13;have vV:=Je T (Pk.ent X G) bh eU lR;have yu:=NP T (Tn.ent X G) bh eU 8;have yF:=NQ T (Tp.ent X G) bh tE pQ uF yu vV;have dO:=Jf T (Pn.ent X G);have wj:=Jg T (Pq.ent X G) dO 13;have gU:=NT T (Tq.ent X G)  5;have vY:=Jh T (Pu.ent X G);have Ah:=Sh T (VJ.ent X G) vY gU;have gK:=Ji T cT iJ jy iK iM gD (dG mj uM iu iw) (dG fM qK iu iw) (dG cI oK iu iw) (dG jM uN uQ uR) (dG mU wO wQ wR) (dG jN uO uT uU) (dG jO uP uV uW) (dG fO rT rU rW);have uf:=HB T cT iJ jy iK iM gD (dG mj uM iu iw) (dG fM qK iu iw) (dG cI oK iu iw) (dG jM uN uQ uR) (dG mU wO wQ wR) (dG jN uO uT uU) (dG jO uP uV uW) (dG fO rT rU rW);have pI:=HD T (Js.ent X G) dO Ah gK 13;have Dp:=Vz T (aaN.ent X G) pI;have Dm:=VB T (aaO.ent X G) gK 13;have yD:=Oa T (Tt.ent X G) dO 13;have VF:=agy T (ajV.ent X G) gK 13;have yE:=Oc T (Tv.ent X G) dO 13;have bF:=Ef T (HS.ent X G);have wg:=Jl T (Py.ent X G) bF;have bU:=HN T (Jt.ent X G) bF wg;have Dl:=VD T eF cH bT eG gw eH eN cQ (dG mj zy zF zG) (dG fM uX uY uZ) (dG cI qL qM qN) (dG jM zA zH zJ) (dG mU Ce Cg Ci) (dG jN zB zK zL) (dG jO zE zM zN) (dG fO wU wV wW) bF bU 13;have Ai:=lK T eF cH bT eG gw eH eN cQ (dG mj zy zF zG) (dG fM uX uY uZ) (dG cI qL qM qN) (dG jM zA zH zJ) (dG mU Ce Cg Ci) (dG jN zB zK zL) (dG jO zE zM zN) (dG fO wU wV wW) bF bU 13;have yC:=Og T (Tw.ent X G) Dl;have yH:=Oh T (Tz.ent X G) wj Ai uf gU yC yD Dm yE VF Dp;have yG:=Oi T (TF.ent X G);exact alp amv Hx fun cdv A outer s H E B hr=>amh T yF yG yH hr (Bf yM rfl)
end
theorem yI{fa fb:aD->Rs D}{ρ:aD}{r:Rs D}(h1:fa ρ=.ok (.bl true))(h2:fb ρ=r):Ay fa fb ρ=r:=by unfold Ay;rw[h1];exact h2
theorem ajY{ρ ρ2:aD}{i m:Nat}{fe fk:aD->Rs D}{v:D}{z:Sl}{ds:List D}{n:Int}(he:fe ρ=.ok v)(h0:ρ[i]?=some z)(l0:lent z=some ds)(hk:fk ρ=.ok (.int n))(hm:Qm ds.length n=some m)(e:ρ.set i (mC z (ds.set m v))=ρ2):RN i fe fk ρ=.nx ρ2:=by rw[<- e];unfold RN;rw[he];show(match ρ[i]? with|some z=>(match lent z with|some ds=>oR (fk ρ) ρ fun k=>(match k with|.int k=>(match Qm ds.length k with|some m=>Ou.nx (ρ.set i (mC z (ds.set m v)))|none=>.no)|_=>.no)|none=>.no)|none=>.no)=_;rw[h0];dsimp only;rw[l0];dsimp only;rw[hk];show(match Qm ds.length n with|some m=>Ou.nx (ρ.set i (mC z (ds.set m v)))|none=>.no)=_;rw[hm]
theorem ajZ(m n:Int)(h:0 < n)(h2:n < 2 ^ 200):bf [.int m] [.int n]=.ok (.int (m % n),[.int (m / n)]):=by
 have run:tu (fJ ["pot","many","digit"] [.int m] [.int n])=.rx (.int (m % n)) [.op [.int (m / n)],.fz (.int n),.fz (.int (m % n))]:=by unfold tu;refine aK (ρ1:=[.op [.int m],.fz (.int n),.fz (.int (m % n))]) (rE (aM (ahz rfl rfl bw rfl) (aq rfl) (JW h))) ?_;exact aK (ajY (m:=0) (aM (ahz rfl rfl bw rfl) (aq rfl) (acj ⟨h,h2⟩)) rfl rfl bw rfl rfl) (jq (kY (aq rfl)))
 unfold bf;rw[run];rfl
theorem xn{ρ:aD}{i:Nat}{z:Sl}{m n:Int}{fs:aD->Rs (List D)}(h0:ρ[i]?=some z)(l0:lent z=some [.int m])(hf:fs ρ=.ok [.int n])(h:0 < n)(h2:n < 2 ^ 200):xM i 1 bf (uy fs) ρ=.ok (.int (m % n),ρ.set i (mC z [.int (m / n)])) :=
 Ac h0 l0 (uz hf) rfl h0 l0 (ajZ m n h h2)
theorem aaP{c m n o:Int}{b:Sl}{i:Nat}(hi:i < 1000)(h1:0<=o)(h2:o < 2147600000):∃n' o':Int,∃a' b',qZ [.fz (.int c),.fz (.int m),.fz (.int n),.fz (.int o),.fz (.int i),b]=.nx [.fz (.int c),.fz (.int m),.fz (.int n'),.fz (.int o'),a',b']/\0<=o'/\o' < 2147600000:=by unfold qZ;have e1:wY (.int o) (.int 48271)=.ok (.int (o * 48271)):=Ho (by decide);have f1:wY (.int 7919) (.int i)=.ok (.int (7919 * i)):=Ho (by omega);have f2:wY (.int (7919 * i)) (.int i)=.ok (.int (7919 * i * i)):=Ho (by omega);have e2:=JW (m:=o * 48271 + 7919 * i * i + 104729) (n:=2147483647) (by decide);have b1:0<=(o * 48271 + 7919 * i * i + 104729) % 2147483647:=gL _ (by decide);have b2:(o * 48271 + 7919 * i * i + 104729) % 2147483647 < 2147483647:=ic _ (by decide);generalize (o * 48271 + 7919 * i * i + 104729) % 2147483647=o' at e2 b1 b2;have e3:wY (.int o') (.int o')=.ok (.int (o' * o')):=Ho (by omega);have e4:=JW (m:=o' * o') (n:=2147483629) (by decide);generalize o' * o' % 2147483629=t at e4;have e5:wY (.int n) (.int 65536)=.ok (.int (n * 65536)):=Ho (by decide);have e6:=acj (m:=t) (n:=512) ⟨by decide,by decide⟩;have e7:=JW (m:=t / 512) (n:=65536) (by decide);refine⟨n * 65536 + t / 512 % 65536,o',.fz (.int i),.fz (.int t),?_,b1,by omega⟩;refine aK (ρ1:=[.fz (.int c),.fz (.int m),.fz (.int n),.fz (.int o'),.fz (.int i),b]) (rE (aM (aM (aM (aM (aq rfl) bw e1) (aM (aM bw (aq rfl) f1) (aq rfl) f2) nG) bw nG) bw e2)) ?_;refine aK (ρ1:=[.fz (.int c),.fz (.int m),.fz (.int n),.fz (.int o'),.fz (.int i),.fz (.int t)]) (rE (aM (aM (aq rfl) (aq rfl) e3) bw e4)) ?_;exact rE (aM (aM (aq rfl) bw e5) (aM (aM (aq rfl) bw e6) bw e7) nG)
theorem akb(c:Int):∃n:Int,jg [.int c,.int 80]=.ok (.int n):=by
 have p1:Qz (.int 10) (.int 18)=.ok (.int (10 ^ mT 18)):=ahh ⟨by decide,by decide,by decide⟩;generalize (10:Int) ^ mT 18=T at p1;have p2:=JW (m:=c) (n:=2147483647) (by decide);have b1:0<=c % 2147483647:=gL _ (by decide);have b2:c % 2147483647 < 2147483647:=ic _ (by decide);generalize c % 2147483647=r at p2 b1 b2;cases h:decide (T<=c) with
 |true =>
  refine⟨c - T,?_⟩;have run:mZ (aP ["cell","many","number","one","k","two"] [.int c,.int 80])=.rt (.int (c - T)):=by unfold mZ;exact vA (gF (fQ (aM (aq rfl) (aM bw bw p1) (by rw[alB,h]))) (ju (aM (aq rfl) (aM bw bw p1) zm)))
  unfold jg;rw[run];rfl
 |false =>
  obtain⟨ρ',e1,n,o',a,b,rfl,_⟩:=QM (h:=cj 4) (g:=qZ) (fun ρ=>∃(n o:Int) (a b:Sl),ρ=[.fz (.int c),.fz (.int 80),.fz (.int n),.fz (.int o),a,b]/\0<=o/\o < 2147600000)
   (ds:=(b7 80).map fun(i:Nat)=>.int i) (ρ:=[.fz (.int c),.fz (.int 80),.fz (.int 0),.fz (.int (r + 16807)),.no,.no]) ⟨_,_,_,_,rfl,by omega,by omega⟩ (by
    rintro d hd ρ ⟨n,o,a,b,rfl,h1,h2⟩;obtain⟨i,hi,rfl⟩:=dQ.mp hd;obtain⟨n',o',a',b',e,h3,h4⟩:=aaP (c:=c) (m:=80) (n:=n) (i:=i) (b:=b) (by have:=eW.mp hi;omega) h1 h2;exact⟨_,_,rfl,e,_,_,_,_,rfl,h3,h4⟩)
  refine⟨n,?_⟩;have run:mZ (aP ["cell","many","number","one","k","two"] [.int c,.int 80])=.rt (.int n):=by unfold mZ;refine aK (aY (fQ (aM (aq rfl) (aM bw bw p1) (by rw[alB,h]))) dM) ?_;refine aK (ρ1:=[.fz (.int c),.fz (.int 80),.fz (.int 0),.no,.no,.no]) (rE bw) ?_;refine aK (ρ1:=[.fz (.int c),.fz (.int 80),.fz (.int 0),.fz (.int (r + 16807)),.no,.no]) (rE (aM (aM (aq rfl) bw p2) bw nG)) ?_;exact aK (Dy (Uy (N:=80) (aq rfl) (by decide) rfl e1)) (ju (aq rfl))
  unfold jg;rw[run];rfl
theorem agH{ρ ρ1 ρ2:aD}{xa:aD->Rs (D×aD)}{i:Nat}{es0 es:List D}{d:D}(h0:ρ[i]?=some (.ow es0))(h:xa ρ=.ok (d,ρ1))(h1:ρ1[i]?=some (.ow es))(hl:es.length < 1000000)(e:ρ1.set i (.ow (es++[d]))=ρ2):RK i xa ρ=.nx ρ2:=by rw[<- e];unfold RK;rw[h0];show oX (xa ρ) _=_;rw[h];show(match ρ1[i]? with|some (.ow ds)=>if ds.length < 1000000 then Ou.nx (ρ1.set i (.ow (ds++[d]))) else .no|_=>.no)=_;rw[h1];show(if _ then Ou.nx _ else .no)=_;rw[if_pos hl]
noncomputable def Sm(x y:Int):Prop:=x.natAbs < 2 ^ 62/\y.natAbs < 2 ^ 62
theorem PB(m:Int):∃(m' x y:Int),gk [.int m] []=.ok (dF [x,y],[.int m'])/\Sm x y:=by
 have p6:Qz (.int 10) (.int 6)=.ok (.int (10 ^ mT 6)):=ahh ⟨by decide,by decide,by decide⟩;have T0:0 < (10:Int) ^ mT 6:=by decide
 have T1:(10:Int) ^ mT 6 < 2 ^ 60:=by decide
 generalize (10:Int) ^ mT 6=T at p6 T0 T1;obtain⟨f,hf,i⟩:∃f:Int,(0 < f/\f < 2 ^ 60)/\jB (.lst [.int 1,.int 2,.int 3,.int T]) (.int (m % 4))=.ok (.int f):=by
  rcases(show m % 4=0∨m % 4=1∨m % 4=2∨m % 4=3 by omega) with e|e|e|e <;> rw[e]
  ·exact⟨1,by decide,rfl⟩
  ·exact⟨2,by decide,rfl⟩
  ·exact⟨3,by decide,rfl⟩
  ·exact⟨T,⟨T0,T1⟩,rfl⟩
 have q2:wY (.int 2) (.int f)=.ok (.int (2 * f)):=ajw (by decide);refine⟨m / 4 / (2 * f + 1) / (2 * f + 1),m / 4 % (2 * f + 1) - f,m / 4 / (2 * f + 1) % (2 * f + 1) - f,?_,by
  have a0:=gL (m / 4) (show 2 * f + 1≠0 by omega);have a1:=ic (m / 4) (show 0 < 2 * f + 1 by omega);have b0:=gL (m / 4 / (2 * f + 1)) (show 2 * f + 1≠0 by omega);have b1:=ic (m / 4 / (2 * f + 1)) (show 0 < 2 * f + 1 by omega);generalize m / 4 % (2 * f + 1)=a at a0 a1;generalize m / 4 / (2 * f + 1) % (2 * f + 1)=b at b0 b1;unfold Sm;omega⟩
 have run:tD (fJ ["pot","far","row"] [.int m] [])=.rx (dF [m / 4 % (2 * f + 1) - f,m / 4 / (2 * f + 1) % (2 * f + 1) - f]) [.op [.int (m / 4 / (2 * f + 1) / (2 * f + 1))],.fz (.int f),.fz (.int (m / 4 % (2 * f + 1) - f))]:=by unfold tD;refine aK (ρ1:=[.op [.int (m / 4)],.fz (.int f),.no]) (gJ (pN (kY (cL (ak bw (ak bw (ak bw (ak (aM bw bw p6) aG)))) (gj (by simp)))) (xn rfl rfl (ak bw aG) (by decide) (by decide)) i) rfl) ?_;refine aK (ρ1:=[.op [.int (m / 4 / (2 * f + 1))],.fz (.int f),.fz (.int (m / 4 % (2 * f + 1) - f))]) (gJ (pN (xn rfl rfl (ak (aM (aM bw (aq rfl) q2) bw nG) aG) (by omega) (by omega)) (kY (aq rfl)) zm) rfl) ?_;exact jq (Iz (cN (kY (aq rfl)) (cN (pN (xn rfl rfl (ak (aM (aM bw (aq rfl) q2) bw nG) aG) (by omega) (by omega)) (kY (aq rfl)) zm) qm)) (t2 _ _))
 unfold gk;rw[run];rfl
end xq
namespace xq
open PySem PySem.Spec PySem.Calls PySem.W L2 Vl So
noncomputable def Pr(k:List Int):Prop:=∃x y,k=[x,y]/\Sm x y
theorem Pr.ne{k:List Int}(h:Pr k):k≠[]:=by obtain⟨x,y,rfl,_⟩:=h;exact fun z=>by cases z
theorem HW{z1:Sl}:∀(l:List Nat) (m:Int) (R:KL) (a3:Sl),R.length + l.length<=1000->(∀k∈R,Pr k) ->
  ∃(m':Int) (R':KL) (b3:Sl),jA (cj 3) pF (l.map fun(i:Nat)=>.int i) [.op [.int m],z1,.ow (R.map dF),a3]=.nx [.op [.int m'],z1,.ow (R'.map dF),b3]/\R'.length=R.length + l.length/\∀k∈R',Pr k
 | [],m,R,a3,_,hp=>⟨m,R,a3,rfl,rfl,hp⟩
 |i::l,m,R,a3,hl,hp=>by
  simp only[bu]at hl;obtain⟨m1,x,y,e,sm⟩:=PB m;have hb:pF [.op [.int m],z1,.ow (R.map dF),.fz (.int i)]=.nx [.op [.int m1],z1,.ow ((R++[[x,y]]).map dF),.fz (.int i)]:=by unfold pF;refine agH (es:=R.map dF) rfl (Ac rfl rfl (uz aG) rfl rfl rfl e) rfl (by rw[b_];omega) ?_;rw[qh];rfl
  obtain⟨m2,R2,b3,e2,l2,k2⟩:=HW (z1:=z1) l m1 (R++[[x,y]]) (.fz (.int i)) (by rw[cx,tP];omega) (fun k hk=>by
   rcases dA.mp hk with h|h
   ·exact hp k h
   ·rw[dE.mp h];exact⟨_,_,rfl,sm⟩)
  refine⟨m2,R2,b3,?_,by rw[l2,cx,tP,bu];omega,k2⟩;simp only[c6,jA,cj,mI,oB,hb];exact e2
structure Pi (O:KL):Prop where
 pr:∀k∈O,Pr k
 le:O.length<=12
theorem XS{q:Int}(hq:0 < q/\q<=12)(m:Int):∃(m':Int) (O:KL),jK [.int m] [.int q]=.ok (.tup (O.map dF),[.int m'])/\Pi O:=by
 have q0:0<=m % q:=gL _ (by omega);have q1:m % q < q:=ic _ hq.1;obtain⟨N,hN⟩:∃N:Nat,1 + m % q=N:=⟨(1 + m % q).toNat,by omega⟩
 obtain⟨m2,R,b3,e,l,hp⟩:=HW (z1:=.fz (.int q)) (b7 N) (m / q) [] .no (by rw[mM];simp only[c7];omega) (fun _ h=>by cases h);rw[mM,c7]at l;have hr:=adB R;refine⟨m2,rise R,?_,⟨fun k hk=>hp k (adA.mp hk),by omega⟩⟩;have run:qT (fJ ["pot","most","steps","k"] [.int m] [.int q])=.rx (.tup ((rise R).map dF)) [.op [.int m2],.fz (.int q),.fz (.lst (R.map dF)),b3]:=by unfold qT;refine aK (ρ1:=[.op [.int m],.fz (.int q),.ow [],.no]) rfl ?_;refine aK (Dy (adC (N:=N) (ρ1:=[.op [.int (m / q)],.fz (.int q),.ow [],.no]) (pN (kY bw) (xn (i:=0) (z:=.op [.int m]) (m:=m) (n:=q) rfl rfl (ak (aq rfl) aG) hq.1 (by omega)) nG) (by omega) hN e)) ?_;show xg _ [.op [.int m2],.fz (.int q),.fz (.lst (R.map dF)),b3]=_;exact jq (kY (cL (ak (agn (aq rfl) (by omega) fun ks hk=>(hp ks hk).ne) aG) ajx))
 unfold jK;rw[run];rfl
inductive Fm where
 |kp|no|al|mo (a b:Int) (f:Fm)|pc (g:Bool) (O:KL) (f:Fm)|tw (e:Bool) (f g:Fm)
noncomputable def fD:Fm->D
 | .kp=>.tup [.str "keep"]
 | .no=>.tup [.str "none"]
 | .al=>.tup [.str "all"]
 | .mo a b f=>.tup [.str "move",dF [a,b],fD f]
 | .pc false O f=>.tup [.str "eat",.tup (O.map dF),fD f]
 | .pc true O f=>.tup [.str "grow",.tup (O.map dF),fD f]
 | .tw false f g=>.tup [.str "both",fD f,fD g]
 | .tw true f g=>.tup [.str "either",fD f,fD g]
noncomputable def pD:Fm->D
 | .kp=>.obj "Keep" [] []
 | .no=>.obj "Nothing" [] []
 | .al=>.obj "Everything" [] []
 | .mo a b f=>.obj "Move" ["step","plan"] [dF [a,b],pD f]
 | .pc false O f=>.obj "Eat" ["piece","plan"] [.tup (O.map dF),pD f]
 | .pc true O f=>.obj "Grow" ["piece","plan"] [.tup (O.map dF),pD f]
 | .tw false f g=>.obj "Both" ["one","other"] [pD f,pD g]
 | .tw true f g=>.obj "Either" ["one","other"] [pD f,pD g]
noncomputable def Ok:Nat->Fm->Prop
 |_,.kp=>True
 |_,.no=>True
 |_,.al=>True
 | 0,_=>False
 |n + 1,.mo a b f=>Sm a b/\Ok n f
 |n + 1,.pc _ O f=>Pi O/\Ok n f
 |n + 1,.tw _ f g=>Ok n f/\Ok n g
noncomputable def mn:Fm->Int
 | .mo _ _ f=>1 + mn f
 | .pc _ _ f=>1 + mn f
 | .tw _ f g=>1 + (mn f + mn g)
 |_=>1
theorem KC:∀{n:Nat}{f:Fm},Ok n f->mn f + 1<=((2 ^ (n + 1):Nat):Int)
 |n,.kp,_=>by have:=iq n;simp only[mn,dS];omega
 |n,.no,_=>by have:=iq n;simp only[mn,dS];omega
 |n,.al,_=>by have:=iq n;simp only[mn,dS];omega
 | 0,.mo _ _ _,h=>h.elim
 | 0,.pc _ _ _,h=>h.elim
 | 0,.tw _ _ _,h=>h.elim
 |n + 1,.mo a b f,h=>by have:=KC (n:=n) (f:=f) h.2;have:=iq n;simp only[mn,dS]at *;omega
 |n + 1,.pc g O f,h=>by have:=KC (n:=n) (f:=f) h.2;have:=iq n;simp only[mn,dS]at *;omega
 |n + 1,.tw e f g,h=>by have:=KC (n:=n) (f:=f) h.1;have:=KC (n:=n) (f:=g) h.2;simp only[mn,dS]at *;omega
theorem Yb(m:Int):∃f:Fm,(∀n,Ok n f)/\jB (.lst [.tup [.str "keep"],.tup [.str "keep"],.tup [.str "keep"],.tup [.str "none"],.tup [.str "all"]]) (.int (m % 5))=.ok (fD f):=by
 rcases(show m % 5=0∨m % 5=1∨m % 5=2∨m % 5=3∨m % 5=4 by omega) with e|e|e|e|e <;> rw[e]
 ·exact⟨.kp,fun n=>by cases n <;> trivial,rfl⟩
 ·exact⟨.kp,fun n=>by cases n <;> trivial,rfl⟩
 ·exact⟨.kp,fun n=>by cases n <;> trivial,rfl⟩
 ·exact⟨.no,fun n=>by cases n <;> trivial,rfl⟩
 ·exact⟨.al,fun n=>by cases n <;> trivial,rfl⟩
theorem aee{zz:Nat}{q:Int}(hq:0 < q/\q<=12):∀(n:Nat) (m:Int),n < 1000->∃(m':Int) (f:Fm),dW (zz + n + 1) [.int m] [.int n,.int q]=.ok (fD f,[.int m'])/\Ok n f:=fun n=>by
 induction n with
 |zero =>
  intro m _;obtain⟨f,hf,ix⟩:=Yb (m / 10);refine⟨m / 10 / 5,f,?_,hf 0⟩;have run:gq (dW zz) (fJ ["pot","depth","most","way","step","piece","one"] [.int m] [.int 0,.int q])=.rx (fD f) [.op [.int (m / 10 / 5)],.fz (.int 0),.fz (.int q),.fz (.int (m % 10)),.no,.no,.no]:=by unfold gq;refine aK (ρ1:=[.op [.int (m / 10)],.fz (.int 0),.fz (.int q),.fz (.int (m % 10)),.no,.no,.no]) (gJ (xn rfl rfl (ak bw aG) (by decide) (by decide)) rfl) ?_;refine vH (gF (Ux (fQ (aM (aq rfl) bw (by rw[mH];rfl)))) ?_);exact jq (pN (kY (cL (ak (cL (ak bw aG) (dZ (by simp))) (ak (cL (ak bw aG) (dZ (by simp))) (ak (cL (ak bw aG) (dZ (by simp))) (ak (cL (ak bw aG) (dZ (by simp))) (ak (cL (ak bw aG) (dZ (by simp))) aG))))) (gj (by simp)))) (xn (i:=0) (z:=.op [.int (m / 10)]) (m:=m / 10) (n:=5) rfl rfl (ak bw aG) (by decide) (by decide)) ix)
  show Ab (gq (dW zz) (fJ ["pot","depth","most","way","step","piece","one"] [.int m] [.int 0,.int q]))=_;rw[run];rfl
 |succ n ih =>
  intro m hn;have w0:0<=m % 10:=gL _ (by decide);have w1:m % 10 < 10:=ic _ (by decide);generalize hw:m % 10=w at w0 w1;have st:qj 3 (xM 0 1 bf (uy (ao (fC (.int 10)) aL))) (fJ ["pot","depth","most","way","step","piece","one"] [.int m] [.int ((n + 1:Nat):Int),.int q])=.nx [.op [.int (m / 10)],.fz (.int ((n + 1:Nat):Int)),.fz (.int q),.fz (.int w),.no,.no,.no]:=by rw[<- hw];exact gJ (xn rfl rfl (ak bw aG) (by decide) (by decide)) rfl
  have aoy:Vl.rZ (.int ((n + 1:Nat):Int)) (.int 1)=.ok (.int n):=by rw[zm,show((n + 1:Nat):Int) - 1=n by omega]
  have d0:decide (((n + 1:Nat):Int)=0)=false:=decide_eq_false (by omega);have self:∀{m':Int}{z3 z4 z5 z6:Sl},∃(m'':Int) (f:Fm),xM 0 2 (dW (zz + n + 1)) (uy (ao (bW Vl.rZ (aF 1) (fC (.int 1))) (ao (aF 2) aL))) [.op [.int m'],.fz (.int ((n + 1:Nat):Int)),.fz (.int q),z3,z4,z5,z6]=.ok (fD f,[.op [.int m''],.fz (.int ((n + 1:Nat):Int)),.fz (.int q),z3,z4,z5,z6])/\Ok n f:=fun {m' z3 z4 z5 z6}=>by obtain⟨m'',f,e,hf⟩:=ih m' (by omega);have g:=Ac (i:=0) (n:=2) (w:=dW (zz + n + 1)) (ρ:=[.op [.int m'],.fz (.int ((n + 1:Nat):Int)),.fz (.int q),z3,z4,z5,z6]) (ρ1:=[.op [.int m'],.fz (.int ((n + 1:Nat):Int)),.fz (.int q),z3,z4,z5,z6]) (z0:=.op [.int m']) (z1:=.op [.int m']) (e0:=[.int m']) (es:=[.int m']) rfl rfl (uz (fs:=ao (bW Vl.rZ (aF 1) (fC (.int 1))) (ao (aF 2) aL)) (ak (aM (aq rfl) bw aoy) (ak (aq rfl) aG))) rfl rfl rfl e;exact⟨m'',f,g,hf⟩
  have Et:∀{f:Fm}{m':Int}{zs:List Sl},gq (dW (zz + n + 1)) (fJ ["pot","depth","most","way","step","piece","one"] [.int m] [.int ((n + 1:Nat):Int),.int q])=.rx (fD f) (.op [.int m']::zs)->dW (zz + n + 1 + 1) [.int m] [.int ((n + 1:Nat):Int),.int q]=.ok (fD f,[.int m']):=fun h=>by show Ab (gq (dW (zz + n + 1)) _)=_;rw[h];rfl
  cases h7:decide (7 < w) with
  |true =>
   obtain⟨f,hf,ix⟩:=Yb (m / 10);refine⟨m / 10 / 5,f,Et (zs:=[.fz (.int ((n + 1:Nat):Int)),.fz (.int q),.fz (.int w),.no,.no,.no]) ?_,hf _⟩;unfold gq;refine aK st ?_;refine vH (gF (jt (fQ (aM (aq rfl) bw (by rw[mH,d0]))) (fQ (aM (aq rfl) bw (by rw[Ln,h7])))) ?_);exact jq (pN (kY (cL (ak (cL (ak bw aG) (dZ (by simp))) (ak (cL (ak bw aG) (dZ (by simp))) (ak (cL (ak bw aG) (dZ (by simp))) (ak (cL (ak bw aG) (dZ (by simp))) (ak (cL (ak bw aG) (dZ (by simp))) aG))))) (gj (by simp)))) (xn (i:=0) (z:=.op [.int (m / 10)]) (m:=m / 10) (n:=5) rfl rfl (ak bw aG) (by decide) (by decide)) ix)
  |false =>
   have hw7:¬7 < w:=of_decide_eq_false h7;have s2:∀{k:aD->Ou}{ρ:aD}{r:Ou},ρ=[.op [.int (m / 10)],.fz (.int ((n + 1:Nat):Int)),.fz (.int q),.fz (.int w),.no,.no,.no]->k ρ=r->∀{a:aD->Ou},bR (pZ (Lg (fT (bW su (aF 1) (fC (.int 0)))) (fT (bW gGt (aF 3) (fC (.int 7))))) a sG) k ρ=r:=fun e h=>by subst e;exact aK (aY (jt (fQ (aM (aq rfl) bw (by rw[mH,d0]))) (fQ (aM (aq rfl) bw (by rw[Ln,h7])))) dM) h
   cases h2:decide (w < 2) with
   |true =>
    obtain⟨m1,x,y,es,sm⟩:=PB (m / 10);obtain⟨m2,f,ef,hf⟩:=self (m':=m1) (z3:=.fz (.int w)) (z4:=.fz (dF [x,y])) (z5:=.no) (z6:=.no);refine⟨m2,.mo x y f,Et (zs:=[.fz (.int ((n + 1:Nat):Int)),.fz (.int q),.fz (.int w),.fz (dF [x,y]),.no,.no]) ?_,sm,hf⟩;unfold gq;refine aK st (s2 rfl ?_);refine vH (gF (fQ (aM (aq rfl) bw (by rw[Uz,h2]))) ?_);refine aK (ρ1:=[.op [.int m1],.fz (.int ((n + 1:Nat):Int)),.fz (.int q),.fz (.int w),.fz (dF [x,y]),.no,.no]) (gJ (Ac rfl rfl (uz aG) rfl rfl rfl es) rfl) ?_;exact jq (Iz (cN (kY bw) (cN (kY (aq rfl)) (cN ef qm))) (dZ (by simp)))
   |false =>
    have hw2:¬w < 2:=of_decide_eq_false h2;have m2w:=JW (m:=w) (n:=2) (by decide);cases h6:decide (w < 6) with
    |true =>
     obtain⟨m1,O,es,hO⟩:=XS hq (m / 10);obtain⟨m2,f,ef,hf⟩:=self (m':=m1) (z3:=.fz (.int w)) (z4:=.no) (z5:=.fz (.tup (O.map dF))) (z6:=.no);obtain⟨g,ig⟩:∃g:Bool,jB (.lst [.str "eat",.str "grow"]) (.int (w % 2))=.ok (.str (if g then "grow" else "eat")):=by
      rcases(show w % 2=0∨w % 2=1 by omega) with e|e <;> rw[e]
      ·exact⟨false,rfl⟩
      ·exact⟨true,rfl⟩
     have ed:D.tup [.str (if g then "grow" else "eat"),.tup (O.map dF),fD f]=fD (.pc g O f):=by cases g <;> rfl
     refine⟨m2,.pc g O f,Et (zs:=[.fz (.int ((n + 1:Nat):Int)),.fz (.int q),.fz (.int w),.no,.fz (.tup (O.map dF)),.no]) ?_,hO,hf⟩;rw[<- ed];unfold gq;refine aK st (s2 rfl ?_);refine aK (aY (fQ (aM (aq rfl) bw (by rw[Uz,h2]))) dM) ?_;refine vH (gF (fQ (aM (aq rfl) bw (by rw[Uz,h6]))) ?_);refine aK (ρ1:=[.op [.int m1],.fz (.int ((n + 1:Nat):Int)),.fz (.int q),.fz (.int w),.no,.fz (.tup (O.map dF)),.no]) (gJ (Ac rfl rfl (uz (ak (aq rfl) aG)) rfl rfl rfl es) rfl) ?_;exact jq (Iz (cN (kY (aM (cL (ak bw (ak bw aG)) (gj (by simp))) (aM (aq rfl) bw m2w) ig)) (cN (kY (aq rfl)) (cN ef qm))) (dZ (by simp)))
    |false =>
     obtain⟨m1,f,ef,hf⟩:=self (m':=m / 10) (z3:=.fz (.int w)) (z4:=.no) (z5:=.no) (z6:=.no);obtain⟨m2,f2,ef2,hf2⟩:=self (m':=m1) (z3:=.fz (.int w)) (z4:=.no) (z5:=.no) (z6:=.fz (fD f));obtain⟨g,ig⟩:∃g:Bool,jB (.lst [.str "both",.str "either"]) (.int (w % 2))=.ok (.str (if g then "either" else "both")):=by
      rcases(show w % 2=0∨w % 2=1 by omega) with e|e <;> rw[e]
      ·exact⟨false,rfl⟩
      ·exact⟨true,rfl⟩
     have ed:D.tup [.str (if g then "either" else "both"),fD f,fD f2]=fD (.tw g f f2):=by cases g <;> rfl
     refine⟨m2,.tw g f f2,Et (zs:=[.fz (.int ((n + 1:Nat):Int)),.fz (.int q),.fz (.int w),.no,.no,.fz (fD f)]) ?_,hf,hf2⟩;rw[<- ed];unfold gq;refine aK st (s2 rfl ?_);refine aK (aY (fQ (aM (aq rfl) bw (by rw[Uz,h2]))) dM) ?_;refine aK (aY (fQ (aM (aq rfl) bw (by rw[Uz,h6]))) dM) ?_;refine aK (ρ1:=[.op [.int m1],.fz (.int ((n + 1:Nat):Int)),.fz (.int q),.fz (.int w),.no,.no,.fz (fD f)]) (gJ ef rfl) ?_;exact jq (Iz (cN (kY (aM (cL (ak bw (ak bw aG)) (gj (by simp))) (aM (aq rfl) bw m2w) ig)) (cN (kY (aq rfl)) (cN ef2 qm))) (dZ (by simp)))
theorem akc:∀(n:Nat) (f:Fm),Ok n f->cJ (n + 1) [fD f]=.ok (pD f):=fun n=>by
 induction n with
 |zero=>intro f h;cases f with
  |kp=>rfl
  |no=>rfl
  |al=>rfl
  |mo a b f=>exact h.elim
  |pc g O f=>exact h.elim
  |tw e f g=>exact h.elim
 |succ n ih =>
  intro f h;have go:∀{d r:D},dB (cJ (n + 1)) (aP ["form"] [d])=.rt r->cJ (n + 1 + 1) [d]=.ok r:=fun e=>by show jk (dB (cJ (n + 1)) _)=_;rw[e];rfl
  cases f with
  |kp=>rfl
  |no=>rfl
  |al=>rfl
  |mo a b f =>
   have e:=ih f h.2;refine go ?_;generalize hd:fD f=F at e;show dB (cJ (n + 1)) [.fz (.tup [.str "move",dF [a,b],fD f])]=_;rw[hd];unfold dB;refine aK (aY (fQ (aM (aM (aq rfl) bw rfl) bw rfl)) dM) ?_;refine aK (aY (fQ (aM (aM (aq rfl) bw rfl) bw rfl)) dM) ?_;refine aK (aY (fQ (aM (aM (aq rfl) bw rfl) bw rfl)) dM) ?_;exact vA (gF (fQ (aM (aM (aq rfl) bw rfl) bw rfl)) (ju (cL (ak (aM (aq rfl) bw rfl) (ak (cL (ak (aM (aq rfl) bw rfl) aG) (bK rfl e)) aG)) rfl)))
  |pc g O f =>
   have e:=ih f h.2;refine go ?_;generalize hd:fD f=F at e;cases g with
   |false =>
    show dB (cJ (n + 1)) [.fz (.tup [.str "eat",.tup (O.map dF),fD f])]=_;rw[hd];unfold dB;refine aK (aY (fQ (aM (aM (aq rfl) bw rfl) bw rfl)) dM) ?_;refine aK (aY (fQ (aM (aM (aq rfl) bw rfl) bw rfl)) dM) ?_;refine aK (aY (fQ (aM (aM (aq rfl) bw rfl) bw rfl)) dM) ?_;refine aK (aY (fQ (aM (aM (aq rfl) bw rfl) bw rfl)) dM) ?_;exact vA (gF (fQ (aM (aM (aq rfl) bw rfl) bw rfl)) (ju (cL (ak (aM (aq rfl) bw rfl) (ak (cL (ak (aM (aq rfl) bw rfl) aG) (bK rfl e)) aG)) rfl)))
   |true =>
    show dB (cJ (n + 1)) [.fz (.tup [.str "grow",.tup (O.map dF),fD f])]=_;rw[hd];unfold dB;refine aK (aY (fQ (aM (aM (aq rfl) bw rfl) bw rfl)) dM) ?_;refine aK (aY (fQ (aM (aM (aq rfl) bw rfl) bw rfl)) dM) ?_;refine aK (aY (fQ (aM (aM (aq rfl) bw rfl) bw rfl)) dM) ?_;refine aK (aY (fQ (aM (aM (aq rfl) bw rfl) bw rfl)) dM) ?_;refine aK (aY (fQ (aM (aM (aq rfl) bw rfl) bw rfl)) dM) ?_;exact vA (gF (fQ (aM (aM (aq rfl) bw rfl) bw rfl)) (ju (cL (ak (aM (aq rfl) bw rfl) (ak (cL (ak (aM (aq rfl) bw rfl) aG) (bK rfl e)) aG)) rfl)))
  |tw g f f2 =>
   have e:=ih f h.1;have e2:=ih f2 h.2;refine go ?_;generalize hd:fD f=F at e;generalize hd2:fD f2=F2 at e2;cases g with
   |false =>
    show dB (cJ (n + 1)) [.fz (.tup [.str "both",fD f,fD f2])]=_;rw[hd,hd2];unfold dB;refine aK (aY (fQ (aM (aM (aq rfl) bw rfl) bw rfl)) dM) ?_;refine aK (aY (fQ (aM (aM (aq rfl) bw rfl) bw rfl)) dM) ?_;refine aK (aY (fQ (aM (aM (aq rfl) bw rfl) bw rfl)) dM) ?_;refine aK (aY (fQ (aM (aM (aq rfl) bw rfl) bw rfl)) dM) ?_;refine aK (aY (fQ (aM (aM (aq rfl) bw rfl) bw rfl)) dM) ?_;refine aK (aY (fQ (aM (aM (aq rfl) bw rfl) bw rfl)) dM) ?_;exact vA (gF (fQ (aM (aM (aq rfl) bw rfl) bw rfl)) (ju (cL (ak (cL (ak (aM (aq rfl) bw rfl) aG) (bK rfl e)) (ak (cL (ak (aM (aq rfl) bw rfl) aG) (bK rfl e2)) aG)) rfl)))
   |true =>
    show dB (cJ (n + 1)) [.fz (.tup [.str "either",fD f,fD f2])]=_;rw[hd,hd2];unfold dB;refine aK (aY (fQ (aM (aM (aq rfl) bw rfl) bw rfl)) dM) ?_;refine aK (aY (fQ (aM (aM (aq rfl) bw rfl) bw rfl)) dM) ?_;refine aK (aY (fQ (aM (aM (aq rfl) bw rfl) bw rfl)) dM) ?_;refine aK (aY (fQ (aM (aM (aq rfl) bw rfl) bw rfl)) dM) ?_;refine aK (aY (fQ (aM (aM (aq rfl) bw rfl) bw rfl)) dM) ?_;refine aK (aY (fQ (aM (aM (aq rfl) bw rfl) bw rfl)) dM) ?_;refine aK (aY (fQ (aM (aM (aq rfl) bw rfl) bw rfl)) dM) ?_;exact ju (cL (ak (cL (ak (aM (aq rfl) bw rfl) aG) (bK rfl e)) (ak (cL (ak (aM (aq rfl) bw rfl) aG) (bK rfl e2)) aG)) rfl)
theorem Ok.up:∀{n:Nat}{f:Fm},Ok n f->Ok (n + 1) f
 | 0,.kp,_=>trivial
 | 0,.no,_=>trivial
 | 0,.al,_=>trivial
 | 0,.mo _ _ _,h=>h.elim
 | 0,.pc _ _ _,h=>h.elim
 | 0,.tw _ _ _,h=>h.elim
 |_ + 1,.kp,_=>trivial
 |_ + 1,.no,_=>trivial
 |_ + 1,.al,_=>trivial
 |n + 1,.mo _ _ f,h=>⟨h.1,Ok.up (n:=n) (f:=f) h.2⟩
 |n + 1,.pc _ _ f,h=>⟨h.1,Ok.up (n:=n) (f:=f) h.2⟩
 |n + 1,.tw _ f g,h=>⟨Ok.up (n:=n) (f:=f) h.1,Ok.up (n:=n) (f:=g) h.2⟩
theorem Ok.le{n m:Nat}{f:Fm}(h:Ok n f)(l:n<=m):Ok m f:=by
 induction l with
 |refl=>exact h
 |step _ ih=>exact ih.up
theorem Yc(m:Int):∃f:Fm,((∀n,Ok n f)/\mn f=1)/\jB (.lst [.tup [.str "keep"],.tup [.str "none"],.tup [.str "all"]]) (.int (m % 3))=.ok (fD f):=by
 rcases(show m % 3=0∨m % 3=1∨m % 3=2 by omega) with e|e|e <;> rw[e]
 ·exact⟨.kp,⟨fun n=>by cases n <;> trivial,rfl⟩,rfl⟩
 ·exact⟨.no,⟨fun n=>by cases n <;> trivial,rfl⟩,rfl⟩
 ·exact⟨.al,⟨fun n=>by cases n <;> trivial,rfl⟩,rfl⟩
theorem ahF{w:Int}:∃g:Bool,jB (.lst [.str "both",.str "either"]) (.int (w % 2))=.ok (.str (if g then "either" else "both")):=by
 rcases(show w % 2=0∨w % 2=1 by omega) with e|e <;> rw[e]
 ·exact⟨false,rfl⟩
 ·exact⟨true,rfl⟩
theorem akd:∀(n:Nat) (k:Nat) (m:Int),0 < k->k < 2 ^ (n + 1)->∃(m':Int) (f:Fm),gR (n + 1) [.int m] [.int k]=.ok (fD f,[.int m'])/\Ok n f/\mn f=k:=fun n=>by
 induction n with
 |zero =>
  intro k m h0 h1;have:k=1:=by omega
  subst this;obtain⟨f,hf,ix⟩:=Yc m;refine⟨m / 3,f,?_,hf.1 0,by rw[hf.2];rfl⟩;have run:gQ (gR 0) (fJ ["pot","many","word"] [.int m] [.int (1:Nat)])=.rx (fD f) [.op [.int (m / 3)],.fz (.int (1:Nat)),.no]:=by unfold gQ;refine vH (gF (fQ (aM (aq rfl) bw (by rw[mH];rfl))) ?_);exact jq (pN (kY (cL (ak (cL (ak bw aG) (dZ (by simp))) (ak (cL (ak bw aG) (dZ (by simp))) (ak (cL (ak bw aG) (dZ (by simp))) aG))) (gj (by simp)))) (xn (i:=0) (z:=.op [.int m]) (m:=m) (n:=3) rfl rfl (ak bw aG) (by decide) (by decide)) ix)
  show Ab (gQ (gR 0) _)=_;rw[run];rfl
 |succ n ih =>
  intro k m h0 h1;have Et:∀{f:Fm}{m':Int}{zs:List Sl},gQ (gR (n + 1)) (fJ ["pot","many","word"] [.int m] [.int k])=.rx (fD f) (.op [.int m']::zs)->gR (n + 1 + 1) [.int m] [.int k]=.ok (fD f,[.int m']):=fun h=>by show Ab (gQ (gR (n + 1)) _)=_;rw[h];rfl
  cases k1:decide ((k:Int)=1) with
  |true =>
   obtain⟨f,hf,ix⟩:=Yc m;refine⟨m / 3,f,Et (zs:=[.fz (.int k),.no]) ?_,hf.1 _,by rw[hf.2];exact(of_decide_eq_true k1).symm⟩;unfold gQ;refine vH (gF (fQ (aM (aq rfl) bw (by rw[mH,k1]))) ?_);exact jq (pN (kY (cL (ak (cL (ak bw aG) (dZ (by simp))) (ak (cL (ak bw aG) (dZ (by simp))) (ak (cL (ak bw aG) (dZ (by simp))) aG))) (gj (by simp)))) (xn (i:=0) (z:=.op [.int m]) (m:=m) (n:=3) rfl rfl (ak bw aG) (by decide) (by decide)) ix)
  |false =>
   have k1':=of_decide_eq_false k1;cases k2:decide ((k:Int)=2) with
   |true =>
    obtain⟨m1,x,y,es,sm⟩:=PB m;obtain⟨m2,f,ef,hf,cf⟩:=ih 1 m1 (by decide) (by rw[dS];have:=iq n;omega);refine⟨m2,.mo x y f,Et (zs:=[.fz (.int k),.no]) ?_,⟨sm,hf⟩,by show 1 + mn f=_;rw[cf,of_decide_eq_true k2];rfl⟩;unfold gQ;refine aK (aY (fQ (aM (aq rfl) bw (by rw[mH,k1]))) dM) ?_;refine vH (gF (fQ (aM (aq rfl) bw (by rw[mH,k2]))) ?_);exact jq (Iz (cN (kY bw) (cN (Ac rfl rfl (uz aG) rfl rfl rfl es) (cN (Ac rfl rfl (uz (ak bw aG)) rfl rfl rfl ef) qm))) (dZ (by simp)))
   |false =>
    have k2':=of_decide_eq_false k2;obtain⟨g,ig⟩:=ahF (w:=m);have d1:Qy (.int ((k:Int) - 1)) (.int 2)=.ok (.int (((k - 1) / 2:Nat):Int)):=by rw[acj ⟨by decide,by decide⟩];congr 2;omega
    have d2:Vl.rZ (.int ((k:Int) - 1)) (.int (((k - 1) / 2:Nat):Int))=.ok (.int ((k - 1 - (k - 1) / 2:Nat):Int)):=by rw[zm];congr 2;omega
    have p2:2 ^ (n + 1 + 1)=2 ^ (n + 1) * 2:=dS ..;obtain⟨m1,f,ef,hf,cf⟩:=ih ((k - 1) / 2) (m / 2) (by omega) (by omega);obtain⟨m2,f2,ef2,hf2,cf2⟩:=ih (k - 1 - (k - 1) / 2) m1 (by omega) (by omega);have ed:D.tup [.str (if g then "either" else "both"),fD f,fD f2]=fD (.tw g f f2):=by cases g <;> rfl
    refine⟨m2,.tw g f f2,Et (zs:=[.fz (.int k),.fz (.str (if g then "either" else "both"))]) ?_,⟨hf,hf2⟩,by show 1 + (mn f + mn f2)=_;rw[cf,cf2];omega⟩;rw[<- ed];unfold gQ;refine aK (aY (fQ (aM (aq rfl) bw (by rw[mH,k1]))) dM) ?_;refine aK (aY (fQ (aM (aq rfl) bw (by rw[mH,k2]))) dM) ?_;refine aK (ρ1:=[.op [.int (m / 2)],.fz (.int k),.fz (.str (if g then "either" else "both"))]) (gJ (pN (kY (cL (ak bw (ak bw aG)) (gj (by simp)))) (xn (i:=0) (z:=.op [.int m]) (m:=m) (n:=2) rfl rfl (ak bw aG) (by decide) (by decide)) ig) rfl) ?_;exact jq (Iz (cN (kY (aq rfl)) (cN (Ac rfl rfl (uz (ak (aM (aM (aq rfl) bw zm) bw d1) aG)) rfl rfl rfl ef) (cN (Ac rfl rfl (uz (ak (aM (aM (aq rfl) bw zm) (aM (aM (aq rfl) bw zm) bw d1) d2) aG)) rfl rfl rfl ef2) qm))) (dZ (by simp)))
theorem VL{m:Int}{z1 a4 a5:Sl}{n:Nat}{f:Fm}(hf:Ok n f)(i:Nat):∃(m':Int) (f':Fm) (b4 b5:Sl),jX [.op [.int m],z1,.fz (fD f),.fz (.int i),a4,a5]=.nx [.op [.int m'],z1,.fz (fD f'),.fz (.int i),b4,b5]/\Ok (n + 1) f'/\mn f'<=mn f + 2:=by
 have w0:0<=m % 5:=gL _ (by decide);have w1:m % 5 < 5:=ic _ (by decide);have st:∀{w:Int},m % 5=w->qj 4 (xM 0 1 bf (uy (ao (fC (.int 5)) aL))) [.op [.int m],z1,.fz (fD f),.fz (.int i),a4,a5]=.nx [.op [.int (m / 5)],z1,.fz (fD f),.fz (.int i),.fz (.int w),a5]:=fun hw=>by rw[<- hw];exact gJ (xn rfl rfl (ak bw aG) (by decide) (by decide)) rfl
 generalize hw:m % 5=w at w0 w1;have st:=st hw;generalize m / 5=m0 at st;cases h0:decide (w=0) with
 |true =>
  obtain⟨m1,x,y,es,sm⟩:=PB m0;refine⟨m1,.mo x y f,.fz (.int w),a5,?_,⟨sm,hf⟩,by show 1 + mn f<=_;omega⟩;unfold jX;refine aK st (gF (fQ (aM (aq rfl) bw (by rw[mH,h0]))) ?_);exact gJ (Iz (cN (kY bw) (cN (Ac rfl rfl (uz aG) rfl rfl rfl es) (cN (kY (aq rfl)) qm))) (dZ (by simp))) rfl
 |false =>
  have h0':=of_decide_eq_false h0;cases h3:decide (w < 3) with
  |true =>
   have h3':=of_decide_eq_true h3;obtain⟨m1,O,es,hO⟩:=XS (q:=12) (by decide) m0;obtain⟨g,ig⟩:∃g:Bool,jB (.lst [.str "eat",.str "grow"]) (.int (w - 1))=.ok (.str (if g then "grow" else "eat")):=by
    rcases(show w=1∨w=2 by omega) with rfl|rfl
    ·exact⟨false,rfl⟩
    ·exact⟨true,rfl⟩
   have ed:D.tup [.str (if g then "grow" else "eat"),.tup (O.map dF),fD f]=fD (.pc g O f):=by cases g <;> rfl
   refine⟨m1,.pc g O f,.fz (.int w),a5,?_,⟨hO,hf⟩,by show 1 + mn f<=_;omega⟩;rw[<- ed];unfold jX;refine aK st (aY (fQ (aM (aq rfl) bw (by rw[mH,h0]))) (gF (fQ (aM (aq rfl) bw (by rw[Uz,h3]))) ?_));exact gJ (Iz (cN (kY (aM (cL (ak bw (ak bw aG)) (gj (by simp))) (aM (aq rfl) bw zm) ig)) (cN (Ac rfl rfl (uz (ak bw aG)) rfl rfl rfl es) (cN (kY (aq rfl)) qm))) (dZ (by simp))) rfl
  |false =>
   have h3':=of_decide_eq_false h3;obtain⟨l,hl,il⟩:=Yc m0;obtain⟨g,ig⟩:=ahF (w:=m0 / 3);obtain⟨f1,f2,o1,o2,c12,i2⟩:∃f1 f2:Fm,Ok n f1/\Ok n f2/\mn f1 + mn f2=mn f + 1/\jB (.lst [.tup [fD l,fD f],.tup [fD f,fD l]]) (.int (w - 3))=.ok (.tup [fD f1,fD f2]):=by
    rcases(show w=3∨w=4 by omega) with rfl|rfl
    ·exact⟨l,f,hl.1 n,hf,by rw[hl.2];omega,rfl⟩
    ·exact⟨f,l,hf,hl.1 n,by rw[hl.2],rfl⟩
   have ed:D.tup [.str (if g then "either" else "both"),fD f1,fD f2]=fD (.tw g f1 f2):=by cases g <;> rfl
   refine⟨m0 / 3 / 2,.tw g f1 f2,.fz (.int w),.fz (fD l),?_,⟨o1,o2⟩,by show 1 + (mn f1 + mn f2)<=_;omega⟩;rw[<- ed];unfold jX;refine aK st (aY (fQ (aM (aq rfl) bw (by rw[mH,h0]))) (aY (fQ (aM (aq rfl) bw (by rw[Uz,h3]))) ?_));refine aK (ρ1:=[.op [.int (m0 / 3)],z1,.fz (fD f),.fz (.int i),.fz (.int w),.fz (fD l)]) (gJ (pN (kY (cL (ak (cL (ak bw aG) (dZ (by simp))) (ak (cL (ak bw aG) (dZ (by simp))) (ak (cL (ak bw aG) (dZ (by simp))) aG))) (gj (by simp)))) (xn (i:=0) (z:=.op [.int m0]) (m:=m0) (n:=3) rfl rfl (ak bw aG) (by decide) (by decide)) il) rfl) ?_;exact gJ (pN (Iz (cN (pN (kY (cL (ak bw (ak bw aG)) (gj (by simp)))) (xn (i:=0) (z:=.op [.int (m0 / 3)]) (m:=m0 / 3) (n:=2) rfl rfl (ak bw aG) (by decide) (by decide)) ig) qm) (dZ (by simp))) (kY (aM (cL (ak (cL (ak (aq rfl) (ak (aq rfl) aG)) (dZ (by simp))) (ak (cL (ak (aq rfl) (ak (aq rfl) aG)) (dZ (by simp))) aG)) (gj (by simp))) (aM (aq rfl) bw zm) i2)) rfl) rfl
theorem HX{z1:Sl}:∀(l:List Nat) (m:Int) (n:Nat) (f:Fm) (a3 a4 a5:Sl),Ok n f->∃(m':Int) (f':Fm) (b3 b4 b5:Sl),jA (cj 3) jX (l.map fun(i:Nat)=>.int i) [.op [.int m],z1,.fz (fD f),a3,a4,a5]=.nx [.op [.int m'],z1,.fz (fD f'),b3,b4,b5]/\Ok (n + l.length) f'/\mn f'<=mn f + 2 * l.length
 | [],m,n,f,a3,a4,a5,h=>⟨m,f,a3,a4,a5,rfl,h,by simp⟩
 |i::l,m,n,f,a3,a4,a5,h=>by obtain⟨m1,f1,b4,b5,e,h1,q1⟩:=VL (m:=m) (z1:=z1) (a4:=a4) (a5:=a5) h i;obtain⟨m2,f2,c3,c4,c5,e2,h2,q2⟩:=HX (z1:=z1) l m1 (n + 1) f1 (.fz (.int i)) b4 b5 h1;refine⟨m2,f2,c3,c4,c5,?_,by rw[bu,show n + (l.length + 1)=n + 1 + l.length by omega];exact h2,by rw[bu];omega⟩;simp only[c6,jA,cj,mI,oB,e];exact e2
theorem agI(m:Int){k:Nat}(hk:k<=11):∃(m':Int) (f:Fm),oA [.int m] [.int k]=.ok (fD f,[.int m'])/\Ok 11 f/\mn f<=23:=by
 obtain⟨l,hl,il⟩:=Yc m;obtain⟨m2,f,b3,b4,b5,e,hf,cf⟩:=HX (z1:=.fz (.int k)) (b7 k) (m / 3) 0 l .no .no .no (hl.1 0);rw[mM]at hf cf;rw[hl.2]at cf;refine⟨m2,f,?_,hf.le (by omega),by omega⟩;have run:qU (fJ ["pot","many","form","k","way","leaf"] [.int m] [.int k])=.rx (fD f) [.op [.int m2],.fz (.int k),.fz (fD f),b3,b4,b5]:=by unfold qU;refine aK (ρ1:=[.op [.int (m / 3)],.fz (.int k),.fz (fD l),.no,.no,.no]) (gJ (pN (kY (cL (ak (cL (ak bw aG) (dZ (by simp))) (ak (cL (ak bw aG) (dZ (by simp))) (ak (cL (ak bw aG) (dZ (by simp))) aG))) (gj (by simp)))) (xn (i:=0) (z:=.op [.int m]) (m:=m) (n:=3) rfl rfl (ak bw aG) (by decide) (by decide)) il) rfl) ?_;exact aK (Dy (Uy (N:=k) (aq rfl) (by omega) rfl e)) (jq (kY (aq rfl)))
 unfold oA;rw[run];rfl
theorem ake(m k:Int):∃(m':Int) (f:Fm),jD [.int m] [.int k]=.ok (.tup [pD f,fD f],[.int m'])/\Ok 12 f/\mn f<=40:=by
 have Et:∀{f:Fm}{m':Int}{zs:List Sl},mX (fJ ["pot","k","way","depth","form","plan"] [.int m] [.int k])=.rx (.tup [pD f,fD f]) (.op [.int m']::zs)->Ok 12 f->mn f<=40->∃(m':Int) (f:Fm),jD [.int m] [.int k]=.ok (.tup [pD f,fD f],[.int m'])/\Ok 12 f/\mn f<=40:=fun {f m' zs} e h c=>⟨m',f,by unfold jD;rw[e];rfl,h,c⟩
 have st:qj 2 (xM 0 1 bf (uy (ao (fC (.int 6)) aL))) (fJ ["pot","k","way","depth","form","plan"] [.int m] [.int k])=.nx [.op [.int (m / 6)],.fz (.int k),.fz (.int (m % 6)),.no,.no,.no]:=gJ (xn rfl rfl (ak bw aG) (by decide) (by decide)) rfl;have w0:0<=m % 6:=gL _ (by decide);generalize m % 6=w at st w0;generalize m / 6=m0 at st;have pl:∀{f:Fm},Ok 12 f->cJ 13 [fD f]=.ok (pD f):=fun h=>akc 12 _ h;cases hc:decide (2 < w) || decide (8 < k) with
 |true =>
  have q0:0<=m0 % 4:=gL _ (by decide);have q1:m0 % 4 < 4:=ic _ (by decide);obtain⟨d,hd⟩:∃d:Nat,1 + m0 % 4=(d:Int):=⟨(1 + m0 % 4).toNat,by omega⟩
  have fo:∃(dd:Nat) (q:Int),(0 < q/\q<=12)/\dd<=4/\jB (.lst [.int d,.int 2]) (.int (if decide (8 < k) then 1 else 0))=.ok (.int dd)/\jB (.lst [.int 12,.int 3]) (.int (if decide (8 < k) then 1 else 0))=.ok (.int q):=by
   cases decide (8 < k) with
   |true=>exact⟨2,3,by decide,by decide,rfl,rfl⟩
   |false=>exact⟨d,12,by decide,by omega,rfl,rfl⟩
  obtain⟨dd,q,hq,hdd,i1,i2⟩:=fo;have ib:Zm [.bl (decide (8 < k))]=.ok (.int (if decide (8 < k) then 1 else 0)):=by cases decide (8 < k) <;> rfl
  obtain⟨m1,f,ef,hf⟩:=aee (zz:=5 - dd) hq dd (m0 / 4) (by omega);rw[show 5 - dd + dd + 1=6 by omega]at ef;have cf:=KC (hf.le (m:=4) (by omega));have hf:=hf.le (m:=12) (by omega);refine Et (f:=f) (m':=m1) (zs:=[.fz (.int k),.fz (.int w),.fz (.int d),.fz (fD f),.no]) ?_ hf (by simp only[wo,wq]at cf;omega);unfold mX;refine aK st (vH (gF ?_ ?_))
  ·cases h2:decide (2 < w) with
   |true=>exact Ux (fQ (aM (aq rfl) bw (by rw[Ln,h2])))
   |false =>
    rw[h2,Bool.false_or]at hc;exact jt (fQ (aM (aq rfl) bw (by rw[Ln,h2]))) (fQ (aM (aq rfl) bw (by rw[Ln,hc])))
  refine aK (ρ1:=[.op [.int (m0 / 4)],.fz (.int k),.fz (.int w),.fz (.int d),.no,.no]) ?_ ?_
  ·rw[<- hd];exact gJ (pN (kY bw) (xn rfl rfl (ak bw aG) (by decide) (by decide)) nG) rfl
  refine aK (ρ1:=[.op [.int m1],.fz (.int k),.fz (.int w),.fz (.int d),.fz (fD f),.no]) (gJ (Ac rfl rfl (uz (ak (aM (cL (ak (aq rfl) (ak bw aG)) (gj (by simp))) (cL (ak (aM (aq rfl) bw Ln) aG) ib) i1) (ak (aM (cL (ak bw (ak bw aG)) (gj (by simp))) (cL (ak (aM (aq rfl) bw Ln) aG) ib) i2) aG))) rfl rfl rfl ef) rfl) ?_;exact jq (kY (cL (ak (cL (ak (aq rfl) aG) (bK rfl (pl hf))) (ak (aq rfl) aG)) (dZ (by simp))))
 |false =>
  obtain⟨h2,h8⟩:=Bool.or_eq_false_iff.mp hc;have h2':=of_decide_eq_false h2;have c1:∀{a5:Sl},Lg (fT (bW gGt (aF 2) (fC (.int 2)))) (fT (bW gGt (aF 1) (fC (.int 8)))) [.op [.int m0],.fz (.int k),.fz (.int w),.no,.no,a5]=.ok false:=fun {_}=>jt (fQ (aM (aq rfl) bw (by rw[Ln,h2]))) (fQ (aM (aq rfl) bw (by rw[Ln,h8])));cases e2:decide (w=2) with
  |true =>
   obtain⟨m1,f,ef,hf⟩:=aee (zz:=2) (q:=3) (by decide) 3 m0 (by decide);have o4:Ok 4 (.tw false f f):=⟨hf,hf⟩
   refine Et (f:=.tw false f f) (m':=m1) (zs:=[.fz (.int k),.fz (.int w),.no,.fz (fD f),.fz (pD f)]) ?_ (o4.le (by decide)) (by have cf:=KC o4;simp only[wo,wq]at cf;omega);unfold mX;refine aK st (aK (aY c1 dM) (vH (gF (fQ (aM (aq rfl) bw (by rw[mH,e2]))) ?_)));refine aK (ρ1:=[.op [.int m1],.fz (.int k),.fz (.int w),.no,.fz (fD f),.no]) (gJ (Ac rfl rfl (uz (ak bw (ak bw aG))) rfl rfl rfl ef) rfl) ?_;refine aK (ρ1:=[.op [.int m1],.fz (.int k),.fz (.int w),.no,.fz (fD f),.fz (pD f)]) (rE (cL (ak (aq rfl) aG) (bK rfl (pl (hf.le (by decide)))))) ?_;exact jq (kY (cL (ak (cL (ak (aq rfl) (ak (aq rfl) aG)) rfl) (ak (cL (ak bw (ak (aq rfl) (ak (aq rfl) aG))) (dZ (by simp))) aG)) (dZ (by simp))))
  |false =>
   have e2':=of_decide_eq_false e2;have q0:0<=m0 % 11:=gL _ (by decide);have q1:m0 % 11 < 11:=ic _ (by decide);obtain⟨d,hd⟩:∃d:Nat,1 + m0 % 11=(d:Int):=⟨(1 + m0 % 11).toNat,by omega⟩
   obtain⟨m1,f,ef,hf,cf⟩:=agI (m0 / 11) (k:=d) (by omega);have r0:0<=m1 % 40:=gL _ (by decide);have r1:m1 % 40 < 40:=ic _ (by decide);obtain⟨d2,hd2⟩:∃d:Nat,1 + m1 % 40=(d:Int):=⟨(1 + m1 % 40).toNat,by omega⟩
   obtain⟨m2,f2,ef2,hf2,cf2⟩:=akd 7 d2 (m1 / 40) (by omega) (by omega);obtain⟨f3,i3,hf3,cf3⟩:∃f3:Fm,jB (.lst [fD f,fD f2]) (.int w)=.ok (fD f3)/\Ok 12 f3/\mn f3<=40:=by
    rcases(show w=0∨w=1 by omega) with rfl|rfl
    ·exact⟨f,rfl,hf.le (by decide),by omega⟩
    ·exact⟨f2,rfl,hf2.le (by decide),by omega⟩
   refine Et (f:=f3) (m':=m2) (zs:=[.fz (.int k),.fz (.int w),.no,.fz (fD f3),.no]) ?_ hf3 cf3;unfold mX;refine aK st (aK (aY c1 dM) (aK (aY (fQ (aM (aq rfl) bw (by rw[mH,e2]))) dM) ?_));refine aK (ρ1:=[.op [.int m2],.fz (.int k),.fz (.int w),.no,.fz (fD f3),.no]) (gJ (pN (Iz (cN (Ac (z0:=.op [.int m0]) (z1:=.op [.int (m0 / 11)]) (ρ1:=[.op [.int (m0 / 11)],.fz (.int k),.fz (.int w),.no,.no,.no]) rfl rfl (cN ?_ qm) rfl rfl rfl ef) (cN (Ac (z0:=.op [.int m1]) (z1:=.op [.int (m1 / 40)]) (ρ1:=[.op [.int (m1 / 40)],.fz (.int k),.fz (.int w),.no,.no,.no]) rfl rfl (cN ?_ qm) rfl rfl rfl ef2) qm)) (gj (by simp))) (kY (aq rfl)) i3) rfl) ?_
   ·rw[<- hd];exact pN (kY bw) (xn (i:=0) (z:=.op [.int m0]) (m:=m0) (n:=11) rfl rfl (ak bw aG) (by decide) (by decide)) nG
   ·rw[<- hd2];exact pN (kY bw) (xn (i:=0) (z:=.op [.int m1]) (m:=m1) (n:=40) rfl rfl (ak bw aG) (by decide) (by decide)) nG
   exact jq (kY (cL (ak (cL (ak (aq rfl) aG) (bK rfl (pl hf3))) (ak (aq rfl) aG)) (dZ (by simp))))
noncomputable def sD(n:Int):D:=.str (f6 (toString n))
theorem Yd{n:Int}(h:n.natAbs < 2 ^ 62):Ng [.int n]=.ok (sD n):=by
 have:n.natAbs.log2 < 1900:=by
  rcases Nat.eq_zero_or_pos n.natAbs with z|z
  ·rw[z];decide
  ·exact nK ((Nat.log2_lt (by omega)).mpr h) (by decide)
 show(if n.natAbs.log2 < 1900 then Rs.ok (D.str (f6 (toString n))) else .no)=_;rw[if_pos this];rfl
theorem Dr{d:D}{ns:List Int}(hd:d=.tup (ns.map D.int)∨d=.lst (ns.map D.int))(hl:ns.length<=1000)(hs:∀n∈ns,n.natAbs < 2 ^ 62):cP [d]=.ok (.lst (ns.map sD)):=by
 have cp:jr (cj 0) (fun _=>.ok true) uL (ns.map D.int) [.no]=.ok (ns.map sD) :=
  rz (fun ρ=>∃a,ρ=[a]) D.int sD ⟨_,rfl⟩ (by
   rintro n hn ρ ⟨a,rfl⟩;exact⟨[.fz (.int n)],rfl,cL (ak (aq rfl) aG) (Yd (hs n hn)),_,rfl⟩)
 have g3:asS d=.ok (ns.map D.int):=by rcases hd with rfl|rfl <;> rfl
 have run:oG (aP ["numbers"] [d])=.rt (.lst (ns.map sD)):=by unfold oG;exact ju (xU (v_l (aq rfl) g3) cp (by rw[b_];omega))
 unfold cP;rw[run];rfl
noncomputable def Ju(O:KL):List D:=(O.map fun k=>k.map sD).flatten
theorem yW:∀{O:KL},(∀k∈O,Pr k)->(Ju O).length=2 * O.length
 | [],_=>rfl
 |k::O,h=>by obtain⟨x,y,rfl,_⟩:=h k (.head _);have:=yW fun q hq=>h q (.tail _ hq);unfold Ju at this ⊢;rw[c6,List.flatten_cons,cx,this,bu];simp only[c6,pj,bu,c7];omega
theorem aef{ρ ρ1:aD}{i:Nat}{f:aD->Rs D}{ds es:List D}(h0:ρ[i]?=some (.ow ds))(h:f ρ=.ok (.lst es))(hl:ds.length + es.length<=1000000)(e:ρ.set i (.ow (ds++es))=ρ1):Hf i f ρ=.nx ρ1:=by unfold Hf;rw[h0];show oR (f ρ) ρ _=_;rw[h];show(if _ then Ou.nx (ρ.set i (.ow (ds++es))) else .no)=_;rw[if_pos hl,e]
theorem KD{P:Sl}:∀(O:KL) (acc:List D) (a2:Sl),(∀k∈O,Pr k)->acc.length + 2 * O.length<=1000->∃b2,jA (cj 2) oH (O.map dF) [P,.ow acc,a2]=.nx [P,.ow (acc++Ju O),b2]
 | [],acc,a2,_,_=>⟨a2,by unfold Ju;simp[jA]⟩
 |k::O,acc,a2,h,hl=>by
  obtain⟨x,y,rfl,sx,sy⟩:=h k (.head _);simp only[bu]at hl;have w:=Dr (d:=dF [x,y]) (ns:=[x,y]) (.inl rfl) (by simp) (by intro n hn;rcases bq.mp hn with rfl|hn;exact sx;rw[dE.mp hn];exact sy);have hb:oH [P,.ow acc,.fz (dF [x,y])]=.nx [P,.ow (acc++[sD x,sD y]),.fz (dF [x,y])]:=by unfold oH;exact aef rfl (cL (ak (aq rfl) aG) (bK rfl w)) (by simp only[b_,bu,c7];omega) rfl
  obtain⟨b2,e⟩:=KD (P:=P) O (acc++[sD x,sD y]) (.fz (dF [x,y])) (fun q hq=>h q (.tail _ hq)) (by rw[cx];simp only[bu,c7];omega);refine⟨b2,?_⟩;simp only[c6,jA,cj,mI,oB,hb];rw[e,h_];rfl
theorem agJ{O:KL}(h:∀k∈O,Pr k)(hl:O.length<=12):oJ [.tup (O.map dF)]=.ok (.lst (Ju O)):=by
 obtain⟨b2,e⟩:=KD (P:=.fz (.tup (O.map dF))) O [] .no h (by simp only[c7];omega);have run:qX (aP ["steps","told","step"] [.tup (O.map dF)])=.rt (.lst (Ju O)):=by unfold qX;refine aK (ρ1:=[.fz (.tup (O.map dF)),.ow [],.no]) rfl ?_;refine aK (Dy (aci (aq rfl) e)) ?_;show iG _ [.fz (.tup (O.map dF)),.fz (.lst ([]++Ju O)),b2]=_;exact ju (aq rfl)
 unfold oJ;rw[run];rfl
theorem Jv{O:KL}(h:Pi O):fV [.tup (O.map dF)]=.ok (.lst (sD O.length::Ju O)):=by
 have w1:=Dr (d:=.lst [.int O.length]) (ns:=[(O.length:Int)]) (.inr rfl) (by simp) (by intro n hn;rw[dE.mp hn];have:=h.le;omega);have run:pJ (aP ["piece"] [.tup (O.map dF)])=.rt (.lst (sD O.length::Ju O)):=by unfold pJ;refine ju (aM (cL (ak (cL (ak (cL (ak (aq rfl) aG) (by rw[MN,b_])) aG) (gj (by simp))) aG) (bK rfl w1)) (cL (ak (aq rfl) aG) (bK rfl (agJ h.pr h.le))) (oW ?_));rw[yW h.pr];have:=h.le;simp only[c6,pj,bu,c7];omega
 unfold fV;rw[run];rfl
noncomputable def wd:Fm->List D
 | .kp=>[.str "keep"]
 | .no=>[.str "none"]
 | .al=>[.str "all"]
 | .mo a b f=>.str "move"::sD a::sD b::wd f
 | .pc false O f=>.str "eat"::sD O.length::(Ju O++wd f)
 | .pc true O f=>.str "grow"::sD O.length::(Ju O++wd f)
 | .tw false f g=>.str "both"::(wd f++wd g)
 | .tw true f g=>.str "either"::(wd f++wd g)
theorem HY:∀{n:Nat}{f:Fm},Ok n f->(wd f).length + 27<=27 * 2 ^ (n + 1)
 |n,.kp,_=>by have:=iq n;simp only[wd,bu,c7,dS];omega
 |n,.no,_=>by have:=iq n;simp only[wd,bu,c7,dS];omega
 |n,.al,_=>by have:=iq n;simp only[wd,bu,c7,dS];omega
 | 0,.mo _ _ _,h=>h.elim
 | 0,.pc _ _ _,h=>h.elim
 | 0,.tw _ _ _,h=>h.elim
 |n + 1,.mo a b f,h=>by have:=HY (n:=n) (f:=f) h.2;have:=iq n;simp only[wd,bu,dS]at *;omega
 |n + 1,.pc g O f,h=>by have h1:=HY (n:=n) (f:=f) h.2;have h2:=yW h.1.pr;have h3:=h.1.le;have:=iq n;cases g <;> simp only[wd,bu,cx,dS]at * <;> omega
 |n + 1,.tw e f g,h=>by have h1:=HY (n:=n) (f:=f) h.1;have h2:=HY (n:=n) (f:=g) h.2;cases e <;> simp only[wd,bu,cx,dS]at * <;> omega
theorem Ia{n:Nat}{f:Fm}(h:Ok n f)(hn:n<=12):(wd f).length<=221157:=by have:=HY (h.le hn);simp only[wo,Nat.reduceMul,wq]at this;omega
theorem KH{c:Str}{v:List D->Rs (List D)}:∀{l:Tbf},bX c l=some v->bX c (sH l)=some (Kw v)
 | [],h=>by cases h
 | (x,u)::l,h=>by
  show bX c ((x,Kw u)::sH l)=_;rw[fI]at h ⊢;cases e:c == x with
  |true=>rw[e]at h;cases h;rfl
  |false=>rw[e]at h;exact KH h
structure WT (n:Nat)(d:D)(ws:List D):Prop where
 ex:∃c ns xs v,d=.obj c ns xs/\ns.contains ("words":Str)=false/\bX c (dh n)=some v/\v [d]=.ok ws
theorem tO{n:Nat}{d:D}{ws:List D}{fe:aD->Rs D}{ρ:aD}(h:WT n d ws)(he:fe ρ=.ok d):Qa 1 "words" (sH (dh n)) fe aL ρ=.ok (.lst ws):=by obtain⟨c,ns,xs,v,rfl,h1,h2,h3⟩:=h.ex;unfold Qa;rw[he];dsimp only;rw[if_neg (by rw[h1];decide),KH h2];show bA 1 (Kw v) [.obj c ns xs]=_;refine bK rfl ?_;unfold Kw;rw[h3]
theorem yJ{ρ:aD}{fa fb:aD->Rs D}{ds es:List D}(h1:fa ρ=.ok (.lst ds))(h2:fb ρ=.ok (.lst es))(hl:ds.length + es.length<=1000000):qR fa fb ρ=.rl (ds++es):=by unfold qR;rw[h1];show oR (fb ρ) ρ _=_;rw[h2];show(if _ then Ou.rl (ds++es) else .no)=_;rw[if_pos hl]
theorem Ye:∀(n:Nat) (f:Fm),n<=12->Ok n f->WT (n + 1) (pD f) (wd f):=fun n=>by
 induction n with
 |zero=>intro f _ h;cases f with
  |kp=>exact⟨_,_,_,_,rfl,rfl,rfl,rfl⟩
  |no=>exact⟨_,_,_,_,rfl,rfl,rfl,rfl⟩
  |al=>exact⟨_,_,_,_,rfl,rfl,rfl,rfl⟩
  |mo a b f=>exact h.elim
  |pc g O f=>exact h.elim
  |tw e f g=>exact h.elim
 |succ n ih =>
  intro f hn h;cases f with
  |kp=>exact⟨_,_,_,_,rfl,rfl,rfl,rfl⟩
  |no=>exact⟨_,_,_,_,rfl,rfl,rfl,rfl⟩
  |al=>exact⟨_,_,_,_,rfl,rfl,rfl,rfl⟩
  |mo a b f =>
   have e:=ih f (by omega) h.2;have l:=Ia h.2 (by omega);have w:=Dr (d:=dF [a,b]) (ns:=[a,b]) (.inl rfl) (by simp) (by intro n hn;rcases bq.mp hn with rfl|hn;exact h.1.1;rw[dE.mp hn];exact h.1.2);refine⟨_,_,_,_,rfl,rfl,rfl,?_⟩;have run:lV (sH (dh (n + 1))) (aP ["self"] [pD (.mo a b f)])=.rl ([.str "move",sD a,sD b]++wd f):=by unfold lV;exact yJ (aM (cL (ak bw aG) (gj (by simp))) (cL (ak (rY (aq rfl) rfl) aG) (bK rfl w)) rfl) (tO e (rY (aq rfl) rfl)) (by simp only[bu,c7];omega)
   show qg (lV (sH (dh (n + 1))) (aP ["self"] [pD (.mo a b f)]))=_;rw[run];rfl
  |pc g O f =>
   have e:=ih f (by omega) h.2;have l:=Ia h.2 (by omega);have l2:=yW h.1.pr;have l3:=h.1.le;have w:=Jv h.1;cases g with
   |false =>
    refine⟨_,_,_,_,rfl,rfl,rfl,?_⟩;have run:mY (sH (dh (n + 1))) (aP ["self"] [pD (.pc false O f)])=.rl ((.str "eat"::sD O.length::Ju O)++wd f):=by unfold mY;exact yJ (aM (cL (ak bw aG) (gj (by simp))) (cL (ak (rY (aq rfl) rfl) aG) (bK rfl w)) (oW (by simp only[bu,c7];omega))) (tO e (rY (aq rfl) rfl)) (by simp only[cx,bu,c7];omega)
    show qg (mY (sH (dh (n + 1))) (aP ["self"] [pD (.pc false O f)]))=_;rw[run];rfl
   |true =>
    refine⟨_,_,_,_,rfl,rfl,rfl,?_⟩;have run:lW (sH (dh (n + 1))) (aP ["self"] [pD (.pc true O f)])=.rl ((.str "grow"::sD O.length::Ju O)++wd f):=by unfold lW;exact yJ (aM (cL (ak bw aG) (gj (by simp))) (cL (ak (rY (aq rfl) rfl) aG) (bK rfl w)) (oW (by simp only[bu,c7];omega))) (tO e (rY (aq rfl) rfl)) (by simp only[cx,bu,c7];omega)
    show qg (lW (sH (dh (n + 1))) (aP ["self"] [pD (.pc true O f)]))=_;rw[run];rfl
  |tw e f g =>
   have e1:=ih f (by omega) h.1;have e2:=ih g (by omega) h.2;have l1:=Ia h.1 (by omega);have l2:=Ia h.2 (by omega);cases e with
   |false =>
    refine⟨_,_,_,_,rfl,rfl,rfl,?_⟩;have run:lZ (sH (dh (n + 1))) (aP ["self"] [pD (.tw false f g)])=.rl ((.str "both"::wd f)++wd g):=by unfold lZ;exact yJ (aM (cL (ak bw aG) (gj (by simp))) (tO e1 (rY (aq rfl) rfl)) (oW (by simp only[bu,c7];omega))) (tO e2 (rY (aq rfl) rfl)) (by simp only[cx,bu,c7];omega)
    show qg (lZ (sH (dh (n + 1))) (aP ["self"] [pD (.tw false f g)]))=_;rw[run];rfl
   |true =>
    refine⟨_,_,_,_,rfl,rfl,rfl,?_⟩;have run:jz (sH (dh (n + 1))) (aP ["self"] [pD (.tw true f g)])=.rl ((.str "either"::wd f)++wd g):=by unfold jz;exact yJ (aM (cL (ak bw aG) (gj (by simp))) (tO e1 (rY (aq rfl) rfl)) (oW (by simp only[bu,c7];omega))) (tO e2 (rY (aq rfl) rfl)) (by simp only[cx,bu,c7];omega)
    show qg (jz (sH (dh (n + 1))) (aP ["self"] [pD (.tw true f g)]))=_;rw[run];rfl
noncomputable def pt:Fm->List Fm
 | .mo _ _ f=>[f]
 | .pc _ _ f=>[f]
 | .tw _ f g=>[f,g]
 |_=>[]
theorem Fo(f:Fm):fU [fD f]=.ok (.lst ((pt f).map fD)):=by
 cases f with
 |kp=>rfl
 |no=>rfl
 |al=>rfl
 |mo a b f=>rfl
 |pc g O f=>cases g <;> rfl
 |tw e f g=>cases e <;> rfl
theorem amx{ρ ρ1:aD}{i:Nat}{ds es:List D}{fs:aD->Rs (List D)}(h:ρ[i]?=some (.ow ds))(hf:fs ρ=.ok es)(hl:ds.length + es.length<=1000000)(e:ρ.set i (.ow (ds++es))=ρ1):Zo i fs ρ=.nx ρ1:=by unfold Zo;rw[h];dsimp only;rw[hf];show(if _ then Ou.nx _ else .no)=_;rw[if_pos hl,e]
theorem Yg{vr:List D->Rs D}{F S a5:Sl}:∀(O:KL) (acc:List D) (a3 a4:Sl),(∀k∈O,Pr k)->acc.length + 2 * O.length<=1000->∃b3 b4,jA (xO 2 (iD (cj 3) (iD (cj 4) zU))) (pG vr) (O.map dF) [F,.ow acc,S,a3,a4,a5]=.nx [F,.ow (acc++Ju O),S,b3,b4,a5]
 | [],acc,a3,a4,_,_=>⟨a3,a4,by unfold Ju;simp[jA]⟩
 |k::O,acc,a3,a4,h,hl=>by
  obtain⟨x,y,rfl,sx,sy⟩:=h k (.head _);simp only[bu]at hl;have hb:pG vr [F,.ow acc,S,.fz (.int x),.fz (.int y),a5]=.nx [F,.ow (acc++[sD x,sD y]),S,.fz (.int x),.fz (.int y),a5]:=by unfold pG;exact amx rfl (ak (cL (ak (aq rfl) aG) (Yd sx)) (ak (cL (ak (aq rfl) aG) (Yd sy)) aG)) (by simp only[bu,c7];omega) rfl
  obtain⟨b3,b4,e⟩:=Yg (vr:=vr) (F:=F) (S:=S) (a5:=a5) O (acc++[sD x,sD y]) (.fz (.int x)) (.fz (.int y)) (fun q hq=>h q (.tail _ hq)) (by rw[cx];simp only[bu,c7];omega);refine⟨b3,b4,?_⟩;have ht:xO 2 (iD (cj 3) (iD (cj 4) zU)) (dF [x,y]) [F,.ow acc,S,a3,a4,a5]=some [F,.ow acc,S,.fz (.int x),.fz (.int y),a5]:=rfl;simp only[c6,jA,ht,hb];rw[e,h_];rfl
theorem Yh{vr:List D->Rs D}{F S a3 a4:Sl}:∀(fs:List Fm) (acc:List D) (a5:Sl),(∀f∈fs,vr [fD f]=.ok (.lst (wd f))/\(wd f).length<=221157)->acc.length + 221157 * fs.length<=1000000->∃b5,jA (cj 5) (pH vr) (fs.map fD) [F,.ow acc,S,a3,a4,a5]=.nx [F,.ow (acc++(fs.map wd).flatten),S,a3,a4,b5]
 | [],acc,a5,_,_=>⟨a5,by simp[jA]⟩
 |f::fs,acc,a5,h,hl=>by
  obtain⟨e,l⟩:=h f (.head _);simp only[bu]at hl;have hb:pH vr [F,.ow acc,S,a3,a4,.fz (fD f)]=.nx [F,.ow (acc++wd f),S,a3,a4,.fz (fD f)]:=by unfold pH;exact aef rfl (cL (ak (aq rfl) aG) (bK rfl e)) (by omega) rfl
  obtain⟨b5,e2⟩:=Yh (vr:=vr) (F:=F) (S:=S) (a3:=a3) (a4:=a4) fs (acc++wd f) (.fz (fD f)) (fun q hq=>h q (.tail _ hq)) (by rw[cx];omega);refine⟨b5,?_⟩;simp only[c6,jA,cj,mI,oB,hb];rw[e2,h_];rfl
theorem Ok.pt:∀{n:Nat}{f:Fm},Ok (n + 1) f->∀p∈pt f,Ok n p
 |n,.kp,_,p,hp=>by cases hp
 |n,.no,_,p,hp=>by cases hp
 |n,.al,_,p,hp=>by cases hp
 |n,.mo _ _ f,h,p,hp=>by rw[dE.mp hp];exact h.2
 |n,.pc _ _ f,h,p,hp=>by rw[dE.mp hp];exact h.2
 |n,.tw _ f g,h,p,hp=>by
  rcases bq.mp hp with rfl|hp
  ·exact h.1
  ·rw[dE.mp hp];exact h.2
noncomputable def so:Fm->KL
 | .mo a b _=>[[a,b]]
 | .pc _ O _=>O
 |_=>[]
noncomputable def w0:Fm->List D
 | .kp=>[.str "keep"]
 | .no=>[.str "none"]
 | .al=>[.str "all"]
 | .mo _ _ _=>[.str "move"]
 | .pc false O _=>[.str "eat",sD O.length]
 | .pc true O _=>[.str "grow",sD O.length]
 | .tw false _ _=>[.str "both"]
 | .tw true _ _=>[.str "either"]
theorem aeg(f:Fm):wd f=w0 f++Ju (so f)++((pt f).map wd).flatten:=by
 cases f with
 |kp=>rfl
 |no=>rfl
 |al=>rfl
 |mo a b f=>simp[wd,w0,so,pt,Ju]
 |pc g O f=>cases g <;> simp[wd,w0,so,pt]
 |tw e f g=>cases e <;> simp[wd,w0,so,pt,Ju]
theorem Ib{vr:List D->Rs D}{f:Fm}(hp:∀p∈pt f,vr [fD p]=.ok (.lst (wd p))/\(wd p).length<=221157)(hs:∀k∈so f,Pr k)(hl:(so f).length<=12)(ht:(pt f).length<=2)(h0:(w0 f).length<=2)
  (hd:∀ρ1,[.fz (fD f),.ow (w0 f),.fz (.tup ((so f).map dF)),.no,.no,.no]=ρ1->∀{k:aD->Ou}{r:Ou},k ρ1=r->bR (Zk 1 (ao (bW jB (aF 0) (fC (.int 0))) aL))
  (bR (rD 2 (fA aL iR))
  (bR (pZ (fT (bW su (bW jB (aF 0) (fC (.int 0))) (fC (.str "move")))) (rD 2 (fA (ao (bW jB (aF 0) (fC (.int 1))) aL) iR)) sG)
  (bR (pZ (Lg (fT (bW su (bW jB (aF 0) (fC (.int 0))) (fC (.str "eat")))) (fT (bW su (bW jB (aF 0) (fC (.int 0))) (fC (.str "grow"))))) (bR (Aa 1 (fA (ao (fA (ao (bW jB (aF 0) (fC (.int 1))) aL) vh) aL) Ng))
  (rD 2 (bW jB (aF 0) (fC (.int 1))))) sG) k))) [.fz (fD f),.no,.no,.no,.no,.no]=r) :
  iW vr (aP ["form","words","steps","row","column","part"] [fD f])=.rt (.lst (wd f)):=by
 have l2:=yW hs;obtain⟨b3,b4,e1⟩:=Yg (vr:=vr) (F:=.fz (fD f)) (S:=.fz (.tup ((so f).map dF))) (a5:=.no) (so f) (w0 f) .no .no hs (by omega);obtain⟨b5,e2⟩:=Yh (vr:=vr) (F:=.fz (fD f)) (S:=.fz (.tup ((so f).map dF))) (a3:=b3) (a4:=b4) (pt f) (w0 f++Ju (so f)) .no hp (by rw[cx];omega);unfold iW;refine hd _ rfl ?_;refine aK (Dy (aci (aq rfl) e1)) ?_;refine aK (Dy (aiT (cL (ak (aq rfl) aG) (bK rfl (Fo f))) e2)) ?_;rw[aeg f];show iG _ [.fz (fD f),.fz (.lst (w0 f++Ju (so f)++((pt f).map wd).flatten)),.fz (.tup ((so f).map dF)),b3,b4,b5]=_;exact ju (aq rfl)
theorem PJ{ρ ρ1:aD}{i:Nat}{ds:List D}{d:D}{f:aD->Rs D}(h0:ρ[i]?=some (.ow ds))(hf:f ρ=.ok d)(hl:ds.length < 1000000)(e:ρ.set i (.ow (ds++[d]))=ρ1):Aa i f ρ=.nx ρ1:=by unfold Aa;rw[h0];dsimp only;rw[hf];show(if _ then Ou.nx _ else .no)=_;rw[if_pos hl,e]
theorem aeh:∀(n:Nat) (f:Fm),n<=12->Ok n f->dN (n + 1) [fD f]=.ok (.lst (wd f)):=fun n=>by
 induction n with
 |zero =>
  intro f _ h;have go:iW (dN 0) (aP ["form","words","steps","row","column","part"] [fD f])=.rt (.lst (wd f))->dN (0 + 1) [fD f]=.ok (.lst (wd f)):=fun e=>by show jk (iW (dN 0) _)=_;rw[e];rfl
  refine go ?_;cases f with
  |kp=>exact Ib (fun _ z=>by cases z) (fun _ z=>by cases z) (by simp[so]) (by simp[pt]) (by simp[w0]) fun ρ1 e {k r} h=>by subst e;exact h
  |no=>exact Ib (fun _ z=>by cases z) (fun _ z=>by cases z) (by simp[so]) (by simp[pt]) (by simp[w0]) fun ρ1 e {k r} h=>by subst e;exact h
  |al=>exact Ib (fun _ z=>by cases z) (fun _ z=>by cases z) (by simp[so]) (by simp[pt]) (by simp[w0]) fun ρ1 e {k r} h=>by subst e;exact h
  |mo a b f=>exact h.elim
  |pc g O f=>exact h.elim
  |tw e f g=>exact h.elim
 |succ n ih =>
  intro f hn h;have go:iW (dN (n + 1)) (aP ["form","words","steps","row","column","part"] [fD f])=.rt (.lst (wd f))->dN (n + 1 + 1) [fD f]=.ok (.lst (wd f)):=fun e=>by show jk (iW (dN (n + 1)) _)=_;rw[e];rfl
  have hp:∀p∈pt f,dN (n + 1) [fD p]=.ok (.lst (wd p))/\(wd p).length<=221157:=fun p hp=>⟨ih p (by omega) (h.pt p hp),Ia (h.pt p hp) (by omega)⟩
  refine go ?_;cases f with
  |kp=>exact Ib hp (fun _ z=>by cases z) (by simp[so]) (by simp[pt]) (by simp[w0]) fun ρ1 e {k r} h=>by subst e;exact h
  |no=>exact Ib hp (fun _ z=>by cases z) (by simp[so]) (by simp[pt]) (by simp[w0]) fun ρ1 e {k r} h=>by subst e;exact h
  |al=>exact Ib hp (fun _ z=>by cases z) (by simp[so]) (by simp[pt]) (by simp[w0]) fun ρ1 e {k r} h=>by subst e;exact h
  |mo a b f =>
   refine Ib hp (fun k z=>by rw[dE.mp z];exact⟨a,b,rfl,h.1⟩) (by simp[so]) (by simp[pt]) (by simp[w0]) fun ρ1 e {k r} hk=>?_;subst e;generalize fD f=F at hk ⊢;exact hk
  |pc g O f =>
   have ql:vh [.tup (O.map dF)]=.ok (.int O.length):=by rw[MN,b_]
   have q:=Yd (n:=(O.length:Int)) (by have:=h.1.le;omega);cases g with
   |false =>
    refine Ib hp h.1.pr h.1.le (by simp[pt]) (by simp[w0]) fun ρ1 e {k r} hk=>?_;subst e;show _=_;refine aK (ρ1:=[.fz (fD (.pc false O f)),.ow [.str "eat"],.no,.no,.no,.no]) rfl ?_;refine aK (ρ1:=[.fz (fD (.pc false O f)),.ow [.str "eat"],.fz (.tup []),.no,.no,.no]) rfl ?_;refine aK (aY (fQ (aM (aM (aq rfl) bw rfl) bw rfl)) dM) ?_;refine aK (ρ1:=[.fz (fD (.pc false O f)),.ow [.str "eat",sD O.length],.fz (.tup (O.map dF)),.no,.no,.no]) (gF (Ux (fQ (aM (aM (aq rfl) bw rfl) bw rfl))) ?_) hk;refine aK (ρ1:=[.fz (fD (.pc false O f)),.ow [.str "eat",sD O.length],.fz (.tup []),.no,.no,.no]) (PJ rfl (cL (ak (cL (ak (aM (aq rfl) bw rfl) aG) ql) aG) q) (by simp) rfl) (rE (aM (aq rfl) bw rfl))
   |true =>
    refine Ib hp h.1.pr h.1.le (by simp[pt]) (by simp[w0]) fun ρ1 e {k r} hk=>?_;subst e;show _=_;refine aK (ρ1:=[.fz (fD (.pc true O f)),.ow [.str "grow"],.no,.no,.no,.no]) rfl ?_;refine aK (ρ1:=[.fz (fD (.pc true O f)),.ow [.str "grow"],.fz (.tup []),.no,.no,.no]) rfl ?_;refine aK (aY (fQ (aM (aM (aq rfl) bw rfl) bw rfl)) dM) ?_;refine aK (ρ1:=[.fz (fD (.pc true O f)),.ow [.str "grow",sD O.length],.fz (.tup (O.map dF)),.no,.no,.no]) (gF (jt (fQ (aM (aM (aq rfl) bw rfl) bw rfl)) (fQ (aM (aM (aq rfl) bw rfl) bw rfl))) ?_) hk;refine aK (ρ1:=[.fz (fD (.pc true O f)),.ow [.str "grow",sD O.length],.fz (.tup []),.no,.no,.no]) (PJ rfl (cL (ak (cL (ak (aM (aq rfl) bw rfl) aG) ql) aG) q) (by simp) rfl) (rE (aM (aq rfl) bw rfl))
  |tw e f g =>
   cases e with
   |false =>
    refine Ib hp (fun _ z=>by cases z) (by simp[so]) (by simp[pt]) (by simp[w0]) fun ρ1 e {k r} hk=>?_;subst e;generalize fD f=F at hk ⊢;exact hk
   |true =>
    refine Ib hp (fun _ z=>by cases z) (by simp[so]) (by simp[pt]) (by simp[w0]) fun ρ1 e {k r} hk=>?_;subst e;generalize fD f=F at hk ⊢;exact hk
theorem Ie(f:Fm):∃c ns xs v,pD f=.obj c ns xs/\ns.contains ("parts_in":Str)=false/\bX c pR=some v/\bX c jL=some (Kw v)/\v [pD f]=.ok ((pt f).map pD):=by
 cases f with
 |kp=>exact⟨_,_,_,_,rfl,rfl,rfl,rfl,rfl⟩
 |no=>exact⟨_,_,_,_,rfl,rfl,rfl,rfl,rfl⟩
 |al=>exact⟨_,_,_,_,rfl,rfl,rfl,rfl,rfl⟩
 |mo a b f=>exact⟨_,_,_,_,rfl,rfl,rfl,rfl,rfl⟩
 |pc g O f=>cases g <;> exact⟨_,_,_,_,rfl,rfl,rfl,rfl,rfl⟩
 |tw e f g=>cases e <;> exact⟨_,_,_,_,rfl,rfl,rfl,rfl,rfl⟩
theorem Aj{f:Fm}{fe:aD->Rs D}{ρ:aD}(he:fe ρ=.ok (pD f)):Qa 1 "parts_in" jL fe aL ρ=.ok (.lst ((pt f).map pD)):=by obtain⟨c,ns,xs,v,e,h1,_,h2,h3⟩:=Ie f;rw[e]at he h3;unfold Qa;rw[he];dsimp only;rw[if_neg (by rw[h1];decide),h2];show bA 1 (Kw v) [.obj c ns xs]=_;refine bK rfl ?_;unfold Kw;rw[h3]
theorem ahG(f:Fm):1 + ((pt f).map mn).sum=mn f:=by cases f <;> simp[pt,mn]
theorem Fp{vr:List D->Rs D}{yX:Fm->D}{m:Fm->Int}{E:aD->Rs D}(hE:∀d,E [.fz d]=(bA 1 vr) [d]){fs:List Fm}(hv:∀p∈fs,vr [yX p]=.ok (.int (m p))):jr (cj 0) (fun _=>.ok true) E (fs.map yX) [.no]=.ok ((fs.map m).map D.int):=by
 rw[i_];exact rz (fun ρ=>∃a,ρ=[a]) yX (fun p=>D.int (m p)) ⟨_,rfl⟩ (by
  rintro p hp ρ ⟨a,rfl⟩;exact⟨[.fz (yX p)],rfl,(hE _).trans (bK rfl (hv p hp)),_,rfl⟩)
theorem Ds(f:Fm):(pt f).length<=2:=by cases f <;> simp[pt]
theorem aaQ:∀(n:Nat) (f:Fm),Ok n f->lU (n + 1) [pD f]=.ok (.int (mn f)):=fun n=>by
 have go:∀{f:Fm}{n:Nat},(∀p∈pt f,lU n [pD p]=.ok (.int (mn p)))->lU (n + 1) [pD f]=.ok (.int (mn f)):=fun {f n} hv=>by
  have run:uK (lU n) (aP ["plan"] [pD f])=.rt (.int (mn f)):=by unfold uK;rw[<- ahG f];have l:=Ds f;exact ju (aM bw (cL (ak (xU (v_l (Aj (aq rfl)) rfl) (Fp (fun _=>rfl) hv) (by rw[b_,b_];omega)) aG) ahs) nG)
  show jk (uK (lU n) _)=_;rw[run];rfl
 induction n with
 |zero =>
  intro f h;refine go fun p hp=>?_;cases f with
  |kp=>cases hp
  |no=>cases hp
  |al=>cases hp
  |mo a b f=>exact h.elim
  |pc g O f=>exact h.elim
  |tw e f g=>exact h.elim
 |succ n ih=>exact fun f h=>go fun p hp=>ih p (h.pt p hp)
theorem VN:∀(n:Nat) (f:Fm),Ok n f->iY (n + 1) [fD f]=.ok (.int (mn f)):=fun n=>by
 have go:∀{f:Fm}{n:Nat},(∀p∈pt f,iY n [fD p]=.ok (.int (mn p)))->iY (n + 1) [fD f]=.ok (.int (mn f)):=fun {f n} hv=>by
  have run:pU (iY n) (aP ["form"] [fD f])=.rt (.int (mn f)):=by unfold pU;rw[<- ahG f];have l:=Ds f;exact ju (aM bw (cL (ak (xU (v_l (cL (ak (aq rfl) aG) (bK rfl (Fo f))) rfl) (Fp (fun _=>rfl) hv) (by rw[b_,b_];omega)) aG) ahs) nG)
  show jk (pU (iY n) _)=_;rw[run];rfl
 induction n with
 |zero =>
  intro f h;refine go fun p hp=>?_;cases f with
  |kp=>cases hp
  |no=>cases hp
  |al=>cases hp
  |mo a b f=>exact h.elim
  |pc g O f=>exact h.elim
  |tw e f g=>exact h.elim
 |succ n ih=>exact fun f h=>go fun p hp=>ih p (h.pt p hp)
noncomputable def dp:Fm->Int
 | .mo _ _ f=>1 + dp f
 | .pc _ _ f=>1 + dp f
 | .tw _ f g=>1 + qP [dp f,dp g]
 |_=>1
theorem PK:∀f:Fm,0 < dp f
 | .kp=>by decide
 | .no=>by decide
 | .al=>by decide
 | .mo _ _ f=>by have:=PK f;simp only[dp];omega
 | .pc _ _ f=>by have:=PK f;simp only[dp];omega
 | .tw _ f g=>by have h1:=PK f;have:=(yR (ns:=[dp f,dp g]) (by simp)).2 (dp f) (by simp);simp only[dp];omega
theorem ahH(f:Fm):1 + (if (pt f).map dp=[] then 0 else qP ((pt f).map dp))=dp f:=by cases f <;> simp[pt,dp,qP]
theorem akf(f:Fm):1 + qP (0::(pt f).map dp)=dp f:=by
 rw[<- ahH f];have hp:∀a∈(pt f).map dp,0 < a:=fun a ha=>by obtain⟨p,_,rfl⟩:=dQ.mp ha;exact PK p
 generalize (pt f).map dp=l at hp;by_cases c:l=[]
 ·subst c;rfl
 ·rw[if_neg c];obtain⟨k1,k2⟩:=yR (ns:=l) (wm.mpr c);obtain⟨j1,j2⟩:=yR (ns:=0::l) (by simp);have:=hp _ k1;have a1:=j2 _ (el _ k1);rcases bq.mp j1 with z|z
  ·omega
  ·have:=k2 _ z;omega
theorem akg{fa fd:aD->Rs D}{ρ:aD}{ns:List Int}{d:Int}(h1:fa ρ=.ok (.lst (ns.map D.int)))(h2:fd ρ=.ok (.int d)):RT fa fd ρ=.ok (.int (if ns=[] then d else qP ns)):=by unfold RT;rw[h1];dsimp only;rw[h2];dsimp only;rw[yQ];dsimp only;split <;> rfl
theorem akh:∀(n:Nat) (f:Fm),Ok n f->vZ (n + 1) [pD f]=.ok (.int (dp f)):=fun n=>by
 have go:∀{f:Fm}{n:Nat},(∀p∈pt f,vZ n [pD p]=.ok (.int (dp p)))->vZ (n + 1) [pD f]=.ok (.int (dp f)):=fun {f n} hv=>by
  have run:HF (vZ n) (aP ["plan"] [pD f])=.rt (.int (dp f)):=by unfold HF;rw[<- ahH f];have l:=Ds f;exact ju (aM bw (akg (xU (v_l (Aj (aq rfl)) rfl) (Fp (fun _=>rfl) hv) (by rw[b_,b_];omega)) bw) nG)
  show jk (HF (vZ n) _)=_;rw[run];rfl
 induction n with
 |zero =>
  intro f h;refine go fun p hp=>?_;cases f with
  |kp=>cases hp
  |no=>cases hp
  |al=>cases hp
  |mo a b f=>exact h.elim
  |pc g O f=>exact h.elim
  |tw e f g=>exact h.elim
 |succ n ih=>exact fun f h=>go fun p hp=>ih p (h.pt p hp)
theorem aki{best:List Int->Int}{ns:List Int}(h:0 < ns.length):RD best [.lst (ns.map D.int)]=.ok (.int (best ns)):=by show(match jC (ns.map D.int) with|some ns=>if 0 < ns.length then Rs.ok (D.int (best ns)) else .no|none=>.no)=_;rw[yQ];dsimp only;rw[if_pos h]
theorem VP:∀(n:Nat) (f:Fm),Ok n f->iZ (n + 1) [fD f]=.ok (.int (dp f)):=fun n=>by
 have go:∀{f:Fm}{n:Nat},(∀p∈pt f,iZ n [fD p]=.ok (.int (dp p)))->iZ (n + 1) [fD f]=.ok (.int (dp f)):=fun {f n} hv=>by
  have run:pW (iZ n) (aP ["form"] [fD f])=.rt (.int (dp f)):=by unfold pW;rw[<- akf f];have l:=Ds f;exact ju (aM bw (cL (ak (aM (cL (ak bw aG) (gj (by simp))) (xU (v_l (cL (ak (aq rfl) aG) (bK rfl (Fo f))) rfl) (Fp (fun _=>rfl) hv) (by rw[b_,b_];omega)) (oW (by rw[b_,b_];simp only[bu,c7];omega))) aG) (aki (ns:=0::(pt f).map dp) (by simp))) nG)
  show jk (pW (iZ n) _)=_;rw[run];rfl
 induction n with
 |zero =>
  intro f h;refine go fun p hp=>?_;cases f with
  |kp=>cases hp
  |no=>cases hp
  |al=>cases hp
  |mo a b f=>exact h.elim
  |pc g O f=>exact h.elim
  |tw e f g=>exact h.elim
 |succ n ih=>exact fun f h=>go fun p hp=>ih p (h.pt p hp)
theorem Ig:∀ds:List D,ux ds ds=ds.map fun d=>.tup [d,d]
 | []=>rfl
 |d::ds=>by have:=Ig ds;unfold ux at this ⊢;rw[oy,c6,c6,this]
theorem Ih(n:Nat)(x:Int):aZ (n + 1) [.int x,.int x]=.ok (.bl true):=by
 have run:dD (aZ n) (aP ["found","due"] [.int x,.int x])=.rt (.bl true):=by unfold dD;refine aK (aY (fQ (rY (aq rfl) rfl)) dM) ?_;refine aK (aY (jt (fQ (rY (aq rfl) rfl)) (fQ (rY (aq rfl) rfl))) dM) ?_;refine aK (aY (fQ (rY (aq rfl) rfl)) dM) ?_;exact ju (yI (rY (aq rfl) rfl) (aM (aq rfl) (aq rfl) (by rw[mH,decide_eq_true rfl])))
 show jk (dD (aZ n) (aP ["found","due"] [.int x,.int x]))=_;rw[run];rfl
theorem TQ{n:Nat}{ds:List D}(hl:ds.length<=1000000)(hs:∀d∈ds,aZ n [d,d]=.ok (.bl true)):aZ (n + 1) [.tup ds,.tup ds]=.ok (.bl true):=by
 have cp:qI (xO 2 (iD (cj 0) (iD (cj 1) zU))) (fun _=>.ok true) (vW (aZ n)) 2 [] (fL2 (ao (aF 0) (ao (aF 1) aL)) RG) [.fz (.tup ds),.fz (.tup ds)]=.ok (.lst (ds.map fun _=>.bl true)):=by
  refine xU (ds:=ux ds ds) (by show(if ds.length=ds.length then Rs.ok (ux ds ds) else .no)=_;rw[if_pos rfl]) ?_ (by rw[b_];exact hl);rw[Ig];exact rz (fun ρ=>∃a b,ρ=[a,b]) (fun d=>.tup [d,d]) (fun _=>.bl true) ⟨_,_,rfl⟩ (by
   rintro d hd ρ ⟨a,b,rfl⟩;exact⟨_,rfl,cL (ak (aq rfl) (ak (aq rfl) aG)) (bK rfl (hs d hd)),_,_,rfl⟩)
 have run:dD (aZ n) (aP ["found","due"] [.tup ds,.tup ds])=.rt (.bl true):=by unfold dD;refine vA (gF (fQ (rY (aq rfl) rfl)) ?_);refine aK (aY (jt (fQ (aM (rY (aq rfl) rfl) (rY (aq rfl) rfl) rfl)) (pK (t:=true) (fQ (rY (aq rfl) rfl)))) dM) ?_;exact ju (yI (aM (cL (ak (aq rfl) aG) MN) (cL (ak (aq rfl) aG) MN) (by rw[mH,decide_eq_true rfl])) (cL (ak cp aG) (Hs ds)))
 show jk (dD (aZ n) (aP ["found","due"] [.tup ds,.tup ds]))=_;rw[run];rfl
theorem aei{n:Nat}{ds:List D}(hl:ds.length<=1000000)(hs:∀d∈ds,aZ n [d,d]=.ok (.bl true)):aZ (n + 1) [.lst ds,.lst ds]=.ok (.bl true):=by
 have cp:qI (xO 2 (iD (cj 0) (iD (cj 1) zU))) (fun _=>.ok true) (vW (aZ n)) 2 [] (fL2 (ao (aF 0) (ao (aF 1) aL)) RG) [.fz (.lst ds),.fz (.lst ds)]=.ok (.lst (ds.map fun _=>.bl true)):=by
  refine xU (ds:=ux ds ds) (by show(if ds.length=ds.length then Rs.ok (ux ds ds) else .no)=_;rw[if_pos rfl]) ?_ (by rw[b_];exact hl);rw[Ig];exact rz (fun ρ=>∃a b,ρ=[a,b]) (fun d=>.tup [d,d]) (fun _=>.bl true) ⟨_,_,rfl⟩ (by
   rintro d hd ρ ⟨a,b,rfl⟩;exact⟨_,rfl,cL (ak (aq rfl) (ak (aq rfl) aG)) (bK rfl (hs d hd)),_,_,rfl⟩)
 have run:dD (aZ n) (aP ["found","due"] [.lst ds,.lst ds])=.rt (.bl true):=by unfold dD;refine vA (gF (fQ (rY (aq rfl) rfl)) ?_);refine aK (aY (jt (fQ (aM (rY (aq rfl) rfl) (rY (aq rfl) rfl) rfl)) (pK (t:=true) (fQ (rY (aq rfl) rfl)))) dM) ?_;exact ju (yI (aM (cL (ak (aq rfl) aG) Hq) (cL (ak (aq rfl) aG) Hq) (by rw[mH,decide_eq_true rfl])) (cL (ak cp aG) (Hs ds)))
 show jk (dD (aZ n) (aP ["found","due"] [.lst ds,.lst ds]))=_;rw[run];rfl
theorem TV(n:Nat)(x:Str):aZ (n + 1) [.str x,.str x]=.ok (.bl true):=by
 have run:dD (aZ n) (aP ["found","due"] [.str x,.str x])=.rt (.bl true):=by unfold dD;refine aK (aY (fQ (rY (aq rfl) rfl)) dM) ?_;refine aK (aY (jt (fQ (rY (aq rfl) rfl)) (fQ (rY (aq rfl) rfl))) dM) ?_;exact vA (gF (fQ (rY (aq rfl) rfl)) (ju (yI (rY (aq rfl) rfl) (aM (aq rfl) (aq rfl) (by rw[anN (by simp[nA]) (by simp[nA]),Aq])))))
 show jk (dD (aZ n) (aP ["found","due"] [.str x,.str x]))=_;rw[run];rfl
theorem Yi(n:Nat){k:List Int}(h:Pr k):aZ (n + 2) [dF k,dF k]=.ok (.bl true):=by obtain⟨x,y,rfl,_⟩:=h;refine TQ (by simp) fun d hd=>?_;obtain⟨z,_,rfl⟩:=dQ.mp hd;exact Ih n z
theorem Yj(n:Nat){O:KL}(h:Pi O):aZ (n + 3) [.tup (O.map dF),.tup (O.map dF)]=.ok (.bl true):=by refine TQ (by have:=h.le;rw[b_];omega) fun d hd=>?_;obtain⟨k,hk,rfl⟩:=dQ.mp hd;exact Yi n (h.pr k hk)
noncomputable def hw:Fm->Str
 | .kp=>"keep"
 | .no=>"none"
 | .al=>"all"
 | .mo _ _ _=>"move"
 | .pc false _ _=>"eat"
 | .pc true _ _=>"grow"
 | .tw false _ _=>"both"
 | .tw true _ _=>"either"
theorem agK(f:Fm):qW [pD f]=.ok (.lst [.str (hw f)]):=by
 cases f with
 |kp=>rfl
 |no=>rfl
 |al=>rfl
 |mo a b f=>generalize pD f=F;rfl
 |pc g O f=>cases g <;> rfl
 |tw e f g=>cases e <;> rfl
theorem akj{n:Nat}{f:Fm}(h:Ok n f):rM [pD f,fD f]=.ok (.bl true):=by
 have k:=agK f;have run:vX (aP ["plan","form"] [pD f,fD f])=.rt (.bl true):=by
  unfold vX;cases f with
  |kp=>exact aK (aY (jt (pK (t:=true) (fQ (rY (aq rfl) rfl))) (fQ (aM (cL (ak (aq rfl) aG) (bK rfl k)) (cL (ak (aM (aq rfl) bw rfl) aG) (gj (by simp))) rfl))) dM) rfl
  |no=>exact aK (aY (jt (pK (t:=true) (fQ (rY (aq rfl) rfl))) (fQ (aM (cL (ak (aq rfl) aG) (bK rfl k)) (cL (ak (aM (aq rfl) bw rfl) aG) (gj (by simp))) rfl))) dM) rfl
  |al=>exact aK (aY (jt (pK (t:=true) (fQ (rY (aq rfl) rfl))) (fQ (aM (cL (ak (aq rfl) aG) (bK rfl k)) (cL (ak (aM (aq rfl) bw rfl) aG) (gj (by simp))) rfl))) dM) rfl
  |mo a b f =>
   cases n with
   |zero=>exact h.elim
   |succ n =>
    refine aK (aY (jt (pK (t:=true) (fQ (rY (aq rfl) rfl))) (fQ (aM (cL (ak (aq rfl) aG) (bK rfl k)) (cL (ak (aM (aq rfl) bw rfl) aG) (gj (by simp))) rfl))) dM) ?_;exact vA (gF (fQ (aM (aM (aq rfl) bw rfl) bw rfl)) (ju (cL (ak (rY (aq rfl) rfl) (ak (aM (aq rfl) bw rfl) aG)) (bK rfl (Yi 3 ⟨a,b,rfl,h.1⟩)))))
  |pc g O f =>
   cases n with
   |zero=>exact h.elim
   |succ n =>
    cases g with
    |false =>
     refine aK (aY (jt (pK (t:=true) (fQ (rY (aq rfl) rfl))) (fQ (aM (cL (ak (aq rfl) aG) (bK rfl k)) (cL (ak (aM (aq rfl) bw rfl) aG) (gj (by simp))) rfl))) dM) ?_;refine aK (aY (fQ (aM (aM (aq rfl) bw rfl) bw rfl)) dM) ?_;refine ju ?_;unfold afb;rw[aM (aM (aq rfl) bw rfl) (cL (ak bw (ak bw aG)) (dZ (by simp))) rfl];show fA (ao (fB (aF 0) (ni pC "piece")) (ao (bW jB (aF 1) (fC (.int 1))) aL)) (bA 2 (aZ 5)) (aP ["plan","form"] [pD (.pc false O f),fD (.pc false O f)])=_;exact cL (ak (rY (aq rfl) rfl) (ak (aM (aq rfl) bw rfl) aG)) (bK rfl (Yj 2 h.1))
    |true =>
     refine aK (aY (jt (pK (t:=true) (fQ (rY (aq rfl) rfl))) (fQ (aM (cL (ak (aq rfl) aG) (bK rfl k)) (cL (ak (aM (aq rfl) bw rfl) aG) (gj (by simp))) rfl))) dM) ?_;refine aK (aY (fQ (aM (aM (aq rfl) bw rfl) bw rfl)) dM) ?_;refine ju ?_;unfold afb;rw[aM (aM (aq rfl) bw rfl) (cL (ak bw (ak bw aG)) (dZ (by simp))) rfl];show fA (ao (fB (aF 0) (ni pC "piece")) (ao (bW jB (aF 1) (fC (.int 1))) aL)) (bA 2 (aZ 5)) (aP ["plan","form"] [pD (.pc true O f),fD (.pc true O f)])=_;exact cL (ak (rY (aq rfl) rfl) (ak (aM (aq rfl) bw rfl) aG)) (bK rfl (Yj 2 h.1))
  |tw e f g =>
   cases e with
   |false=>exact aK (aY (jt (pK (t:=true) (fQ (rY (aq rfl) rfl))) (fQ (aM (cL (ak (aq rfl) aG) (bK rfl k)) (cL (ak (aM (aq rfl) bw rfl) aG) (gj (by simp))) rfl))) dM) rfl
   |true=>exact aK (aY (jt (pK (t:=true) (fQ (rY (aq rfl) rfl))) (fQ (aM (cL (ak (aq rfl) aG) (bK rfl k)) (cL (ak (aM (aq rfl) bw rfl) aG) (gj (by simp))) rfl))) dM) rfl
 unfold rM;rw[run];rfl
theorem aej:∀fs:List Fm,ux (fs.map pD) (fs.map fD)=fs.map fun p=>.tup [pD p,fD p]
 | []=>rfl
 |p::fs=>by have:=aej fs;unfold ux at this ⊢;simp only[c6,oy];rw[this]
theorem akk(f:Fm):QJ [.lst ((pt f).map fun _=>.bl true)]=.ok (.bl true):=by cases f <;> rfl
theorem aek(f:Fm)(way:Int):(pZ (Im (fT (bW su (aF 2) (fC (.int 0)))) (fT (bW su (fA (ao (aF 3) aL) vh) (fC (.int 2))))) (rD 4 (fA (ao (fB (aF 0) (ni uE "one")) (ao (fB (aF 0) (ni lQ "other")) aL)) jY)) (pZ (Im (fT (bW su (aF 2) (fC (.int 0)))) (fT (bW su (fA (ao (aF 3) aL) vh) (fC (.int 1))))) (rD 4 (fA (ao (fB (aF 0) (ni lG "plan")) aL) jY)) sG)) [.fz (pD f),.fz (fD f),.fz (.int way),.fz (.lst ((pt f).map fD)),.fz (.lst ((pt f).map pD))]=.nx [.fz (pD f),.fz (fD f),.fz (.int way),.fz (.lst ((pt f).map fD)),.fz (.lst ((pt f).map pD))]:=by
 cases h:decide (way=0) with
 |false=>exact aY (Xc (fQ (aM (aq rfl) bw (by rw[mH,h])))) (aY (Xc (fQ (aM (aq rfl) bw (by rw[mH,h])))) dM)
 |true =>
  have a1:fT (bW su (aF 2) (fC (.int 0))) [.fz (pD f),.fz (fD f),.fz (.int way),.fz (.lst ((pt f).map fD)),.fz (.lst ((pt f).map pD))]=.ok true:=fQ (aM (aq rfl) bw (by rw[mH,h]));have ln:∀k:Int,fT (bW su (fA (ao (aF 3) aL) vh) (fC (.int k))) [.fz (pD f),.fz (fD f),.fz (.int way),.fz (.lst ((pt f).map fD)),.fz (.lst ((pt f).map pD))]=.ok (decide (((pt f).length:Int)=k)):=fun k=>fQ (aM (cL (ak (aq rfl) aG) (by rw[Hq,b_])) bw mH);have l2:=ln 2;have l1:=ln 1;cases f with
  |kp=>exact aY (nF a1 l2) (aY (nF a1 l1) dM)
  |no=>exact aY (nF a1 l2) (aY (nF a1 l1) dM)
  |al=>exact aY (nF a1 l2) (aY (nF a1 l1) dM)
  |mo a b f=>exact aY (nF a1 l2) (gF (nF a1 l1) (rE (cL (ak (rY (aq rfl) rfl) aG) (gj (by simp)))))
  |pc g O f=>cases g <;> exact aY (nF a1 l2) (gF (nF a1 l1) (rE (cL (ak (rY (aq rfl) rfl) aG) (gj (by simp)))))
  |tw e f g=>cases e <;> exact gF (nF a1 l2) (rE (cL (ak (rY (aq rfl) rfl) (ak (rY (aq rfl) rfl) aG)) (gj (by simp))))
theorem TX(way:Int):∀(n:Nat) (f:Fm),Ok n f->dI (n + 1) [pD f,fD f,.int way]=.ok (.bl true):=fun n=>by
 have go:∀{f:Fm}{n m:Nat},Ok m f->(∀p∈pt f,dI n [pD p,fD p,.int way]=.ok (.bl true))->dI (n + 1) [pD f,fD f,.int way]=.ok (.bl true):=fun {f n m} h hv=>by
  have l:=Ds f;have cp:qI (xO 2 (iD (cj 0) (iD (cj 1) zU))) (fun _=>.ok true) (yx (dI n)) 2 [2] (fL2 (ao (aF 4) (ao (aF 3) aL)) RG) [.fz (pD f),.fz (fD f),.fz (.int way),.fz (.lst ((pt f).map fD)),.fz (.lst ((pt f).map pD))]=.ok (.lst ((pt f).map fun _=>.bl true)):=by
   refine xU (ds:=ux ((pt f).map pD) ((pt f).map fD)) (by show(if ((pt f).map pD).length=((pt f).map fD).length then Rs.ok (ux ((pt f).map pD) ((pt f).map fD)) else .no)=_;rw[if_pos (by rw[b_,b_])]) ?_ (by rw[b_];omega);rw[aej];exact rz (fun ρ=>∃a b,ρ=[a,b,.fz (.int way)]) (fun p=>.tup [pD p,fD p]) (fun _=>.bl true) ⟨_,_,rfl⟩ (by
    rintro p hp ρ ⟨a,b,rfl⟩;exact⟨[.fz (pD p),.fz (fD p),.fz (.int way)],rfl,cL (ak (aq rfl) (ak (aq rfl) (ak (aq rfl) aG))) (bK rfl (hv p hp)),_,_,rfl⟩)
  have run:mJ (dI n) (aP ["plan","form","way","forms","inner"] [pD f,fD f,.int way])=.rt (.bl true):=by unfold mJ;refine aK (ρ1:=[.fz (pD f),.fz (fD f),.fz (.int way),.fz (.lst ((pt f).map fD)),.no]) (rE (cL (ak (aq rfl) aG) (bK rfl (Fo f)))) ?_;refine aK (aY (pK (t:=true) (fQ (cL (ak (aq rfl) (ak (aq rfl) aG)) (bK rfl (akj h))))) dM) ?_;refine aK (ρ1:=[.fz (pD f),.fz (fD f),.fz (.int way),.fz (.lst ((pt f).map fD)),.fz (.lst ((pt f).map pD))]) (rE (Aj (aq rfl))) ?_;refine aK (aY (jt (pK (t:=true) (fQ (rY (aq rfl) rfl))) (fQ (aM (cL (ak (aq rfl) aG) Hq) (cL (ak (aq rfl) aG) Hq) (by rw[alC,b_,b_,decide_eq_true rfl];rfl)))) dM) ?_;refine aK (aek f way) ?_;exact ju (cL (ak cp aG) (akk f))
  show jk (mJ (dI n) _)=_;rw[run];rfl
 induction n with
 |zero =>
  intro f h;refine go h fun p hp=>?_;cases f with
  |kp=>cases hp
  |no=>cases hp
  |al=>cases hp
  |mo a b f=>exact h.elim
  |pc g O f=>exact h.elim
  |tw e f g=>exact h.elim
 |succ n ih=>exact fun f h=>go h fun p hp=>ih p (h.pt p hp)
theorem aoz{f:Fm}(h:Ok 12 f):uJ [pD f,fD f]=.ok (.bl true):=by
 have run:yV (aP ["plan","form"] [pD f,fD f])=.rt (.bl true):=by unfold yV;exact ju (yI (cL (ak (aq rfl) (ak (aq rfl) (ak bw aG))) (bK rfl (TX 0 12 f h))) (cL (ak (aq rfl) (ak (aq rfl) (ak bw aG))) (bK rfl (TX 1 12 f h))))
 unfold uJ;rw[run];rfl
theorem agL{n:Int}(h:n.natAbs < 2 ^ 62):(toString n).length<=20:=by
 have k:∀m:Nat,m < 2 ^ 62->(Nat.repr m).length<=19:=fun m hm=>(Nat.length_repr_le_iff (by decide)).mpr (by omega);cases n with
 |ofNat m=>have:=k m (by simpa using h);show(Nat.repr m).length<=20;omega
 |negSucc m =>
  have:=k (m + 1) (by simpa using h);show("-"++Nat.repr (m + 1)).length<=20;rw[String.length_append];have:("-":String).length=1:=rfl;omega
theorem VR{n:Int}(h:n.natAbs < 2 ^ 62):(f6 (toString n)).length<=20:=by
 have:=agL h;have e:(f6 (toString n)).length=(toString n).length:=by rw[Str.ofString_eq_toList,<- String.length_toList];simp[Str.length]
 omega
theorem Yk(sep M:Nat):∀(ts:List Str) (n:Nat),(∀t∈ts,t.length<=M)->ts.foldl (fun a t=>a + t.length + sep) n<=n + ts.length * (M + sep)
 | [],n,_=>by simp
 |t::ts,n,h=>by have h1:=h t eR;have h2:=Yk sep M ts (n + t.length + sep) fun u hu=>h u (el _ hu);rw[j9];refine ck h2 ?_;rw[bu,Nat.add_mul];omega
theorem akl{sep:Str}{ts:List Str}{M:Nat}(h:∀t∈ts,t.length<=M)(hl:ts.length * (M + sep.length)<=1000000):k8 sep ts=true:=by
 unfold k8;have e:ts.toArray.foldl (· + ·.length + sep.length) 0=ts.foldl (fun a t=>a + t.length + sep.length) 0:=by rw[List.foldl_toArray]
 have:=Yk sep.length M ts 0 h;rw[e];have hz:ts.foldl (fun a t=>a + t.length + sep.length) 0<=sizeLine:=sz6 (by omega);show(!(decide (ts.foldl (fun a t=>a + t.length + sep.length) 0 > sizeLine)))=true;rw[decide_eq_false (by omega)];rfl
noncomputable def Wd(d:D):Prop:=∃t:Str,d=.str t/\t.length<=20
theorem ahI:∀{n:Nat}{f:Fm},Ok n f->∀d∈wd f,Wd d:=by
 intro n;have st:∀{O:KL},(∀k∈O,Pr k)->∀d∈Ju O,Wd d:=fun {O} hO d hd=>by
  obtain⟨l,hl,hd⟩:=List.mem_flatten.mp hd;obtain⟨k,hk,rfl⟩:=dQ.mp hl;obtain⟨x,y,rfl,sx,sy⟩:=hO k hk;rcases bq.mp hd with rfl|hd
  ·exact⟨_,rfl,VR sx⟩
  ·rw[dE.mp hd];exact⟨_,rfl,VR sy⟩
 induction n with
 |zero=>intro f h d hd;cases f with
  |kp=>rw[dE.mp hd];exact⟨_,rfl,by decide⟩
  |no=>rw[dE.mp hd];exact⟨_,rfl,by decide⟩
  |al=>rw[dE.mp hd];exact⟨_,rfl,by decide⟩
  |mo a b f=>exact h.elim
  |pc g O f=>exact h.elim
  |tw e f g=>exact h.elim
 |succ n ih =>
  intro f h d hd;rw[aeg f]at hd;rcases dA.mp hd with hd|hd
  ·rcases dA.mp hd with hd|hd
   ·cases f with
    |kp=>rw[dE.mp hd];exact⟨_,rfl,by decide⟩
    |no=>rw[dE.mp hd];exact⟨_,rfl,by decide⟩
    |al=>rw[dE.mp hd];exact⟨_,rfl,by decide⟩
    |mo a b f=>rw[dE.mp hd];exact⟨_,rfl,by decide⟩
    |pc g O f =>
     have:=h.1.le;cases g <;> (rcases bq.mp hd with rfl|hd;exact⟨_,rfl,by decide⟩;rw[dE.mp hd];exact⟨_,rfl,VR (by omega)⟩)
    |tw e f g=>cases e <;> (rw[dE.mp hd];exact⟨_,rfl,by decide⟩)
   ·refine st ?_ d hd;cases f with
    |kp=>intro _ z;cases z
    |no=>intro _ z;cases z
    |al=>intro _ z;cases z
    |mo a b f=>intro k z;rw[dE.mp z];exact⟨a,b,rfl,h.1⟩
    |pc g O f=>exact h.1.pr
    |tw e f g=>intro _ z;cases z
  ·obtain⟨l,hl,hd⟩:=List.mem_flatten.mp hd;obtain⟨p,hp,rfl⟩:=dQ.mp hl;exact ih (h.pt p hp) d hd
theorem TY:∀{n:Nat}{f:Fm},Ok n f->((wd f).length:Int)<=27 * mn f
 |n,.kp,_=>by decide
 |n,.no,_=>by decide
 |n,.al,_=>by decide
 | 0,.mo _ _ _,h=>h.elim
 | 0,.pc _ _ _,h=>h.elim
 | 0,.tw _ _ _,h=>h.elim
 |n + 1,.mo a b f,h=>by have:=TY (n:=n) (f:=f) h.2;simp only[wd,mn,bu]at *;omega
 |n + 1,.pc g O f,h=>by have h1:=TY (n:=n) (f:=f) h.2;have h2:=yW h.1.pr;have h3:=h.1.le;cases g <;> simp only[wd,mn,bu,cx]at * <;> omega
 |n + 1,.tw e f g,h=>by have h1:=TY (n:=n) (f:=f) h.1;have h2:=TY (n:=n) (f:=g) h.2;cases e <;> simp only[wd,mn,bu,cx]at * <;> omega
theorem Ym:∀{ds:List D},(∀d∈ds,Wd d)->∃ts,Bq ds=some ts/\ts.length=ds.length/\∀t∈ts,t.length<=20
 | [],_=>⟨[],rfl,rfl,fun _ z=>by cases z⟩
 |d::ds,h=>by
  obtain⟨t,rfl,ht⟩:=h d (.head _);obtain⟨ts,e,l,k⟩:=Ym fun x hx=>h x (.tail _ hx);refine⟨t::ts,by show(Bq ds).map (t::·)=_;rw[e];rfl,by rw[bu,bu,l],fun x hx=>?_⟩;rcases bq.mp hx with rfl|hx
  ·exact ht
  ·exact k x hx
theorem akm{f:Fm}(h:Ok 12 f)(hm:mn f<=40):∃t:Str,DK " " (.lst (wd f))=.ok (.str t):=by
 obtain⟨ts,e,l,k⟩:=Ym (ahI h);have l2:=TY h;have jo:k8 " " ts=true:=akl (M:=20) k (by
  have:(f6 " ").length=1:=by decide
  rw[this];omega)
 refine⟨rV " " ts,?_⟩;show(match Bq (wd f) with|some ts=>if k8 " " ts=true then Rs.ok (D.str (rV " " ts)) else .no|none=>.no)=_;rw[e];dsimp only;rw[if_pos jo]
theorem akn{f:Fm}{t:Str}(h:Ok 12 f) (ht:DK " " (.lst (wd f))=.ok (.str t)):pX [pD f]=.ok (.str t):=by
 have run:tL (aP ["plan"] [pD f])=.rt (.str t):=by unfold tL;exact ju (rY (tO (Ye 12 f (by decide) h) (aq rfl)) ht)
 unfold pX;rw[run];rfl
theorem ael{ρ ρ1:aD}{i:Nat}{m:Str}{tb:Tbf}{fe:aD->Rs D}{c:Str}{ns:List Str}{xs es:List D}{v:List D->Rs (List D)}(he:fe ρ=.ok (.obj c ns xs))(h1:ns.contains m=false)(h2:bX c tb=some v)(h3:v [.obj c ns xs]=.ok es)(e:ρ.set i (.ow es)=ρ1):DP i 1 m tb fe ρ=.nx ρ1:=by unfold DP;rw[he];dsimp only;rw[if_neg (by rw[h1];simp),h2];dsimp only;rw[h3];dsimp only;rw[e]
theorem agM{ρ:aD}{i:Nat}{f:aD->Rs Bool}{ds:List D}{b:Bool}(h0:ρ[i]?=some (.ow ds))(h:f (ρ.set i (.fz (.lst ds)))=.ok b):Hl i f ρ=.ok b:=by unfold Hl;rw[h0];exact h
theorem agN{f:Fm}(h:Ok 12 f):aZ 5 [.lst (wd f),.lst (wd f)]=.ok (.bl true) :=
 aei (by have:=Ia h (by decide);omega) fun d hd=>by obtain⟨t,rfl,_⟩:=ahI h d hd;exact TV 3 t
theorem KJ{f:Fm}{t:Str}{a4 a5:Sl}(h:Ok 12 f) (ht:DK " " (.lst (wd f))=.ok (.str t)) (i:Nat):∃b4 b5:Sl,qY [.fz (pD f),.fz (fD f),.fz (.lst (wd f)),.fz (.int i),a4,a5]=.nx [.fz (pD f),.fz (fD f),.fz (.lst (wd f)),.fz (.int i),b4,b5]:=by
 have l:=Ia h (by decide);have l0:0 < (wd f).length:=by
  rw[aeg f,cx,cx];have:0 < (w0 f).length:=by
   cases f with
   |pc g O f=>cases g <;> simp[w0]
   |tw e f g=>cases e <;> simp[w0]
   |_=>simp[w0]
  omega
 have e1:DP 4 1 "words" (dh 13) (aF 0) [.fz (pD f),.fz (fD f),.fz (.lst (wd f)),.fz (.int i),a4,a5]=.nx [.fz (pD f),.fz (fD f),.fz (.lst (wd f)),.fz (.int i),.ow (wd f),a5]:=by obtain⟨c,ns,xs,v,e,h1,h2,h3⟩:=(Ye 12 f (by decide) h).ex;exact ael (show aF 0 _=.ok (.obj c ns xs) by rw[<- e];exact aq rfl) h1 h2 (by rw[<- e];exact h3) rfl
 have e2:DP 5 1 "parts_in" pR (aF 0) [.fz (pD f),.fz (fD f),.fz (.lst (wd f)),.fz (.int i),.ow (wd f),a5]=.nx [.fz (pD f),.fz (fD f),.fz (.lst (wd f)),.fz (.int i),.ow (wd f),.ow ((pt f).map pD)]:=by obtain⟨c,ns,xs,v,e,h1,h2,_,h3⟩:=Ie f;exact ael (show aF 0 _=.ok (.obj c ns xs) by rw[<- e];exact aq rfl) h1 h2 (by rw[<- e];exact h3) rfl
 refine⟨.ow ((wd f++[D.str "keep"]).set 0 (D.str "none")),.ow ((pt f).map pD++[pD f]),?_⟩;unfold qY;refine aK e1 (aK e2 ?_);refine aK (aY (jt (pK (t:=true) (agM rfl (fQ (cL (ak (aq rfl) (ak (aq rfl) aG)) (bK rfl (agN h)))))) (pK (t:=true) (fQ (cL (ak (cL (ak (aq rfl) aG) (bK rfl (akn h ht))) (ak (rY (aq rfl) ht) aG)) (bK rfl (TV 4 t)))))) dM) ?_;refine aK (ρ1:=[.fz (pD f),.fz (fD f),.fz (.lst (wd f)),.fz (.int i),.ow (wd f++[D.str "keep"]),.ow ((pt f).map pD)]) (PJ rfl bw (by omega) rfl) ?_;refine aK (ρ1:=[.fz (pD f),.fz (fD f),.fz (.lst (wd f)),.fz (.int i),.ow ((wd f++[D.str "keep"]).set 0 (D.str "none")),.ow ((pt f).map pD)]) ?_ (PJ rfl (aq rfl) (by rw[b_];have:=Ds f;omega) rfl);unfold Xv;rw[show fC (.str "none") [.fz (pD f),.fz (fD f),.fz (.lst (wd f)),.fz (.int i),.ow (wd f++[D.str "keep"]),.ow ((pt f).map pD)]=.ok (.str "none") from rfl];show(match Qm (wd f++[D.str "keep"]).length 0 with|some j=>Ou.nx _|none=>.no)=_;rw[show Qm (wd f++[D.str "keep"]).length 0=some 0 by unfold Qm;rw[if_pos (by decide),if_pos (by rw[cx];simp only[bu,c7];omega)];rfl];rfl
theorem ako{f:Fm}(h:Ok 12 f)(hm:mn f<=40):pY [pD f,fD f]=.ok (.bl true):=by
 obtain⟨t,ht⟩:=akm h hm;obtain⟨b4,b5,e0⟩:=KJ (a4:=.no) (a5:=.no) h ht 0;obtain⟨c4,c5,e1⟩:=KJ (a4:=b4) (a5:=b5) h ht 1;have run:tM (aP ["plan","form","words","turn","found","inner"] [pD f,fD f])=.rt (.bl true):=by
  unfold tM;refine aK (ρ1:=[.fz (pD f),.fz (fD f),.fz (.lst (wd f)),.no,.no,.no]) (rE (cL (ak (aq rfl) aG) (bK rfl (aeh 12 f (by decide) h)))) ?_;refine aK (ρ1:=[.fz (pD f),.fz (fD f),.fz (.lst (wd f)),.fz (.int 1),c4,c5]) (Dy (Uy (N:=2) bw (by decide) rfl ?_)) ?_
  ·show jA (cj 3) qY [.int (0:Nat),.int (1:Nat)] _=_;simp only[jA,cj,mI,oB,e0,e1];rfl
  refine aK (aY (jt (pK (t:=true) (fQ (cL (ak (cL (ak (aq rfl) aG) (bK rfl (aaQ 12 f h))) (ak (cL (ak (aq rfl) aG) (bK rfl (VN 12 f h))) aG)) (bK rfl (Ih 4 _))))) (pK (t:=true) (fQ (cL (ak (cL (ak (aq rfl) aG) (bK rfl (akh 12 f h))) (ak (cL (ak (aq rfl) aG) (bK rfl (VP 12 f h))) aG)) (bK rfl (Ih 4 _)))))) dM) ?_;exact ju (cL (ak (aq rfl) (ak (aq rfl) aG)) (bK rfl (aoz h)))
 unfold pY;rw[run];rfl
theorem agO(i c:Int)(S a3 a4:Sl):∃b3 b4:Sl,Fl [S,.fz (.int i),.fz (.int c),a3,a4]=.nx [S,.fz (.int i),.fz (.int c),b3,b4]:=by
 obtain⟨n,e0⟩:=akb c;obtain⟨m1,f,e1,hf,cf⟩:=ake n i;have e2:=ako hf cf;refine⟨.fz (pD f),.fz (fD f),?_⟩;have q:fMT 1 jD (ao (fA (ao (aF 2) (ao (fC (.int 80)) aL)) (bA 2 jg)) aL) (ao (aF 1) aL) [S,.fz (.int i),.fz (.int c),a3,a4]=.ok (.tup [pD f,fD f]):=by have h1:ao (fA (ao (aF 2) (ao (fC (.int 80)) aL)) (bA 2 jg)) aL [S,.fz (.int i),.fz (.int c),a3,a4]=.ok [.int n]:=ak (cL (ak (aq rfl) (ak bw aG)) (bK rfl e0)) aG;have h2:ao (aF 1) aL [S,.fz (.int i),.fz (.int c),a3,a4]=.ok [.int i]:=ak (aq rfl) aG;unfold fMT;rw[h1];dsimp only[Rs.bind];rw[if_pos (by simp),h2];dsimp only[Rs.bind];rw[if_pos (show [D.int i].length=1 from rfl),e1]
 have p:afu (fMT 1 jD (ao (fA (ao (aF 2) (ao (fC (.int 80)) aL)) (bA 2 jg)) aL) (ao (aF 1) aL)) (xO 2 (iD (cj 3) (iD (cj 4) zU))) [S,.fz (.int i),.fz (.int c),a3,a4]=.nx [S,.fz (.int i),.fz (.int c),.fz (pD f),.fz (fD f)]:=by unfold afu;rw[q];rfl
 unfold Fl;exact aK p (aY (pK (t:=true) (fQ (cL (ak (aq rfl) (ak (aq rfl) aG)) (bK rfl e2)))) dM)
theorem akp{h:Tg}{gb:aD->Ou}{f:aD->Rs D}{ρ:aD}{ds:List D}{r:Ou}(h1:f ρ=.ok (.lst ds))(h2:jA h gb (wB 0 ds) ρ=r):Xr h gb f ρ=r:=by unfold Xr;rw[h1];exact h2
theorem Ua:∀(ns:List Int) (j:Nat) (S a1 a2 a3 a4:Sl),∃b1 b2 b3 b4:Sl,jA (xO 2 (iD (cj 1) (iD (cj 2) zU))) Fl (wB j (ns.map D.int)) [S,a1,a2,a3,a4]=.nx [S,b1,b2,b3,b4]
 | [],_,_,a1,a2,a3,a4=>⟨a1,a2,a3,a4,rfl⟩
 |n::ns,j,S,a1,a2,a3,a4=>by obtain⟨b3,b4,e⟩:=agO j n S a3 a4;obtain⟨c1,c2,c3,c4,e'⟩:=Ua ns (j + 1) S (.fz (.int j)) (.fz (.int n)) b3 b4;refine⟨c1,c2,c3,c4,?_⟩;have h:xO 2 (iD (cj 1) (iD (cj 2) zU)) (.tup [.int j,.int n]) [S,a1,a2,a3,a4]=some [S,.fz (.int j),.fz (.int n),a3,a4]:=rfl;simp only[c6,wB,jA,h,e];exact e'
theorem aem(ns:List Int)(hn:ns.length<=63):XR [.lst (ns.map D.int)]=.ok (.bl true):=by
 obtain⟨b1,b2,b3,b4,e⟩:=Ua (4::ns) 0 (.fz (.lst (ns.map D.int))) .no .no .no .no;have run:XQ [.fz (.lst (ns.map D.int)),.no,.no,.no,.no]=.rt (.bl true):=by unfold XQ;exact aK (Dy (akp (aM (cL (ak bw aG) (gj (by simp))) (aq rfl) (oW (a:=[.int 4]) (by rw[b_];simp only[bu,c7];omega))) e)) (ju bw)
 unfold XR;rw[show aP ["script","k","cell","plan","form"] [.lst (ns.map D.int)]=[.fz (.lst (ns.map D.int)),.no,.no,.no,.no] from rfl,run];rfl
end xq
open PySem PySem.W PyProof.Rows
namespace PySem.W.Fast
def tw13552900170228971901:=0
def tw6443660357003620907:=0
def tw980040907007242213:=0
def tw10040505112107744177:=0
def tw17151209295455433603:=0
def tw16300579918131414566:=0
def tw12358252195956620806:=0
def tw6387021962372968668:=0
def tw18201892008059230156:=0
def tw1201923834367532201:=0
def tw337101209289994695:=0
def tw1967663004275331889:=0
def tw16001314151979466583:=0
def tw5678414826280788740:=0
def tw185888583739578407:=0
def tw426818014037509764:=0
def tw16942623736339118296:=0
def tw10962597309300864134:=0
def tw13409058115207051995:=0
def tw10312600208212034326:=0
def tw9738159314706641296:=0
def tw6313220942785727955:=0
def tw10403930823207997111:=0
def tw2702055237091402819:=0
def tw15179776226034782704:=0
def tw5489286976893747888:=0
def tw7481899027948574261:=0
def tw10164995392484920287:=0
def tw9058150636384241546:=0
def tw5807817375389954800:=0
def tw13963209586025386018:=0
def tw1768660894786989677:=0
def tw3778511036125050285:=0
def tw10101164244242967651:=0
def tw11060508062642399940:=0
def tw13596060468045994539:=0
def tw256229843154088751:=0
def tw15406522718083210251:=0
def tw9952508848493187944:=0
def tw4061942798703548385:=0
def tw8018680202852020790:=0
def tw3200573370514158299:=0
def tw4587407484804029200:=0
def tw17352723609626237605:=0
def tw4101325257759495953:=0
def tw925062279451765960:=0
def tw1229959681505559445:=0
def tw14472257317411211980:=0
def tw13313025277114461236:=0
def tw5820548464837227196:=0
def tw17396731865135232156:=0
def tw16441371653545001758:=0
def tw8065644384697861295:=0
def tw10217695768692920552:=0
def tw11602362885108980372:=0
def tw8337666884391566379:=0
def tw11166256715305614368:=0
def tw14344011784658481902:=0
def tw16854741832928603661:=0
def tw17059908922228790910:=0
def tw12786258655204351116:=0
def tw17987872674324857440:=0
def tw812813896091406326:=0
def tw4480402443158597623:=0
def tw12316584496692677730:=0
def tw3622400340177223007:=0
def tw5702224149664726317:=0
def tw16413598263850115442:=0
def tw13697061019760994334:=0
def tw17862051950157044163:=0
def tw5882527353045800546:=0
def tw6921656953042346780:=0
def tw446604638746909018:=0
def tw15752839364034569986:=0
def tw16274524477693567077:=0
def tw18261353977404194275:=0
def tw1732574585849394822:=0
def tw4925032867521442844:=0
def tw4028218487472382115:=0
def tw17268687748233466419:=0
def tw9513152149770715383:=0
def tw3992432019974650580:=0
def tw5814878587240985240:=0
def tw2181558214233143216:=0
def tw9603132970268143561:=0
def tw9050175531095853253:=0
def tw17862385638945258877:=0
def tw15360847374192850598:=0
def tw16725993318543460028:=0
def tw3233629520629070876:=0
def tw18087710074572840015:=0
def tw8846834064366074744:=0
def tw17632566223904052079:=0
def tw10109955669591122576:=0
def tw17247024560970677025:=0
def tw10470712361554224196:=0
def tw7750582455543286524:=0
def tw6181050351306306771:=0
def tw13547166385495861799:=0
def tw2252069867224867666:=0
def tw1040039697979539837:=0
def tw17349080715237364760:=0
def tw12073207842435986388:=0
def tw13734679946527445274:=0
def tw11851718438207708531:=0
def tw16845113830009698553:=0
def tw13507990089939899005:=0
def tw11866503646712343363:=0
def tw10858730146612071880:=0
def tw2329585292637344025:=0
def tw17195334019558993729:=0
def tw12417534947992612028:=0
def tw11729509254756310610:=0
def tw45268858495649968:=0
def tw11586946635227752244:=0
def tw6860280503337738877:=0
def tw14601974206387397459:=0
def tw17363699683567067954:=0
def tw7793078470171261423:=0
def tw12161063302649885644:=0
def tw6876752626433779410:=0
def tw17542158690829139736:=0
def tw6182203768874273809:=0
def tw6195035648233461149:=0
def tw17819801069985439332:=0
def tw1156991710620712372:=0
def tw14229011559811275287:=0
def tw14602142777276902299:=0
def tw18275323418872951756:=0
def tw1866066216716222853:=0
def tw7559630744954032428:=0
def tw16828024213040342359:=0
def tw11347113318377203328:=0
def tw15123966174637863657:=0
def tw2675802933928869174:=0
def tw7029364213172068756:=0
def tw14106563790333432701:=0
def tw17790291683405158481:=0
def tw6974566556020335759:=0
def tw176261140605402421:=0
def tw14715649868078509252:=0
def tw6478850336421525402:=0
def tw10594046699236021121:=0
def tw11628069304155057125:=0
def tw8567384480699675383:=0
def tw542453480020376834:=0
def tw524459900247071655:=0
def tw8936003938172175932:=0
def tw18310396044505186820:=0
def tw3595537409285406135:=0
def tw6613062328498040351:=0
def tw7381017058896267984:=0
def tw16189663329750260877:=0
def tw6540135121004543193:=0
def tw4165711324450653389:=0
def tw14895286171110727794:=0
def tw8416971787190843137:=0
def tw10024432867515876900:=0
def tw8025090168846775336:=0
def tw7554131196693684779:=0
def tw16940419530439916644:=0
def tw7060391211666372003:=0
def tw9722881397218358472:=0
def tw16559467955715787742:=0
def tw17257733389967902460:=0
def tw3856862225918750778:=0
def tw4908682268874330325:=0
def tw9529950895279486058:=0
def tw14162176633227659719:=0
def tw4184589616087205186:=0
def tw10107329359071552237:=0
def tw10643806104666734561:=0
def tw11617948053209240584:=0
def tw5907658296353239478:=0
def tw9000316914799850823:=0
def tw18027353941389396882:=0
def tw10397885278616088496:=0
def tw17198150473724805774:=0
def tw8196272750471568099:=0
def tw9937245386355785193:=0
def tw3289844957782642137:=0
def tw6089031375941527577:=0
def tw1427099850042425449:=0
def tw16592957677839079891:=0
def tw13694499841963548786:=0
def tw6179012253559535374:=0
def tw13207914952599545741:=0
def tw6526873954479131150:=0
def tw9695894990015478256:=0
def tw17794691984982287291:=0
def tw9123660410045832782:=0
def tw14691895228912891668:=0
def tw15406441305976646865:=0
def tw9145956207551204582:=0
def tw8727780077409396707:=0
def tw578049540852023241:=0
def tw13418148731052515962:=0
def tw13734095720196764:=0
def tw3743406035485720019:=0
def tw14944120587842536040:=0
def tw11526104665493477227:=0
def tw1381377654483661165:=0
def tw8184899797566883893:=0
def tw15451951615046481416:=0
def tw18009269113116693665:=0
def tw9912918998317349392:=0
def tw8918596521450416651:=0
def tw9395600137997554140:=0
def tw7765942242785628386:=0
def tw15363957591425853900:=0
def tw13972593572514132090:=0
def tw8466389082809225262:=0
def tw1502138226274298287:=0
def tw11232484831040128865:=0
def tw15564877675367722707:=0
def tw13613047158632543889:=0
def tw3102964174776864203:=0
def tw10733066738038734181:=0
def tw9871444923975942926:=0
def tw8732868704454810820:=0
def tw5408801479735169094:=0
def tw12919459533256137225:=0
def tw10374631345748869276:=0
def tw10160161634360223823:=0
def tw12752341623578411366:=0
def tw8322082820122329476:=0
def tw2665696744692801:=0
def tw406018980576147079:=0
def tw1522917517588502676:=0
def tw11549313929614316547:=0
def tw10471419312887406986:=0
def tw3895008960425670987:=0
def tw6210926995211067035:=0
def tw1277392320625879913:=0
def tw15910749787615967537:=0
def tw12812801299070907507:=0
def tw16017598067808414110:=0
def tw2614158018814121154:=0
def tw8993327502036632273:=0
def tw6303505292668752458:=0
def tw7627873660750733794:=0
def tw1583201237179837830:=0
def tw5730278429952863154:=0
def tw15578549550377345765:=0
def tw3198301089287121129:=0
def tw4628073155015710785:=0
def tw12839542895990234405:=0
def tw12526193536011792692:=0
def tw5904474426223132365:=0
def tw452265471920220853:=0
def tw14806971579654874524:=0
def tw15674773415752465631:=0
def tw8936965081032722065:=0
def tw14021896324603644456:=0
def tw11766951207618500948:=0
def tw6220220615200256443:=0
def tw10409769841266887089:=0
def tw4835121133146344998:=0
def tw991962300516222748:=0
def tw16569948134396803595:=0
def tw18143033101769946877:=0
def tw2363785682969214652:=0
def tw7871140442257584721:=0
def tw3206910203282411893:=0
def tw393106200807361602:=0
def tw8382757821402537654:=0
def tw17677814632474246901:=0
def tw15498420025546375196:=0
def tw15435970898797446185:=0
def tw15804559580119510940:=0
def tw13010607329626842865:=0
def tw14235488161594500948:=0
def tw3699218104844787245:=0
def tw3861247946899451332:=0
def tw9478100501644013851:=0
def tw8375961935174509793:=0
def tw2000397480741702471:=0
def tw9935186696155543484:=0
def tw5112287086506891900:=0
def tw4891764515898523326:=0
def tw15158670836766750639:=0
def tw14412394461710936599:=0
def tw14414886425222370946:=0
def tw11798689680702270815:=0
def tw8905145282507632497:=0
def tw7827597328680403105:=0
def tw14154887791810982749:=0
def tw11833281630086441476:=0
def tw12779627575197618771:=0
def tw2644911792576684166:=0
def tw7624515325161811333:=0
def tw5040019724326267890:=0
def tw6806935880963691681:=0
def tw7092625894728040297:=0
def tw5226729767234127057:=0
def tw4068649095782381220:=0
def tw6403918158002846886:=0
def tw758553080539328002:=0
def tw13036465882211701322:=0
def tw6947166562803339416:=0
def tw10497773713087854243:=0
def tw356745101915657719:=0
def tw17503256929169250787:=0
def tw16336898507320311439:=0
def tw7560960383677335663:=0
def tw1649703842909098611:=0
def tw16688983992184899043:=0
def tw16459775215199466284:=0
def tw7845335741602858346:=0
def tw9565798235859375385:=0
def tw11588339091546862798:=0
def tw4283121323359956320:=0
def tw1855103250845093086:=0
def tw16268157621286925904:=0
def tw1910839229014754720:=0
def tw2133033237458624718:=0
def tw16415615415582041995:=0
def tw10564262027073422826:=0
def tw5633815180569764569:=0
def tw12350615705681279304:=0
def tw3755413726048533061:=0
def tw705708393338850043:=0
def tw15138748584315656267:=0
def tw6918002096320577765:=0
def tw17963069831588761064:=0
def tw544990223965314215:=0
def tw5987180041824540361:=0
def tw3010194269603485668:=0
def tw1491767474006441660:=0
def tw4693243812275877306:=0
def tw15972248493603269334:=0
def tw11336459381142751499:=0
def tw7068731538279438308:=0
def tw5990946586131512194:=0
def tw5847465443029530227:=0
def tw5397157863611319514:=0
def tw17249572001820430606:=0
def tw3858269414016504046:=0
def tw3553364596626661705:=0
def tw14781569930220906573:=0
def tw14625202301025314052:=0
def tw262651861171517762:=0
def tw5286085135250324139:=0
def tw9194231611889335570:=0
def tw13695397602458451462:=0
def tw8467502750433826172:=0
def tw5528625726144327472:=0
def tw6451883898636844823:=0
def tw13184868619306626969:=0
def tw14392257168403093061:=0
def tw6096142744655022678:=0
def tw6095825547773895150:=0
def tw7320803385595727174:=0
def tw3502219323796056168:=0
def tw9583435509202764843:=0
def tw7727218805438500045:=0
def tw3705656813040873785:=0
def tw5472054895970052799:=0
def tw1062309992670658532:=0
def tw13744780162004779405:=0
def tw2684452525821959471:=0
def tw14355274447529987858:=0
def tw14892054256663476370:=0
def tw8548621490357643821:=0
def tw9628757003553537405:=0
def tw17732738774505798540:=0
def tw7545393250019149592:=0
def tw11734505536492573091:=0
def tw9499991170300136341:=0
def tw5675516657722109852:=0
def tw17623684396501879347:=0
def tw15820426820342455719:=0
def tw5462143398430366575:=0
def tw15500032854898108383:=0
def tw582802032548289045:=0
def tw12825906233208263260:=0
def tw1690097945941308589:=0
def tw2869671313540907400:=0
def tw5001439080872862452:=0
def tw13439619784647898174:=0
def tw14459684367731459665:=0
def tw5936584727881977178:=0
def tw7700119992006635470:=0
def tw7188697122988355950:=0
def tw17778232725660834288:=0
def tw11126422181256225860:=0
def tw8130906421741268687:=0
def tw13080744054834696403:=0
def tw13390738337480413264:=0
def tw981806340617558402:=0
def tw14069253926066824805:=0
def tw17466833304340888701:=0
def tw12057512452254116199:=0
def tw7578265586579902748:=0
def tw8892169947189669867:=0
def tw1268852902927165371:=0
def tw6041714347751329062:=0
def tw2795165571942948273:=0
def tw15312476503683373819:=0
def tw11001723139355900606:=0
end PySem.W.Fast
theorem PySem.Challenge.cw_edgemoss_k41_words_and_counts_holds : PySem.Challenge.rw_edgemoss_k41_words_and_counts.Holds := by
 w_on;o_law;k_head;(case hw=>w_witness2)
 k_fill
 refine Vl.aiS (l:=PySem.Challenge.rw_edgemoss_k41_words_and_counts) (k:=24) (v:=xq.XR) rfl rfl ⟨rfl,by decide,by decide⟩ (fun w h Y=>PySem.W.kIn_of Y) ?L ?V ?F
 case L=>exact fun w=>by kernel_rfl
 case V=>exact xq.aem
 case F =>
  intro w mg fa h KX G hmg;refine' xq.all_mk KX G hmg ?_ ?_ ?_ ?_ ?_ ?_ ?_ ?_ ?_ ?_ ?_ ?_ ?_ ?_ ?_ ?_ ?_ ?_ ?_ ?_ ?_ ?_ ?_ ?_ ?_ ?_ ?_ ?_ ?_ ?_ ?_ ?_ ?_ ?_ ?_ ?_ ?_ ?_ ?_ ?_ ?_ ?_ ?_ ?_ ?_ ?_ ?_ ?_ ?_ ?_ ?_ ?_ ?_ ?_ ?_ ?_ ?_ ?_ ?_ ?_ ?_ ?_ ?_ ?_ ?_ ?_ ?_ ?_ ?_ ?_ ?_ ?_ ?_ ?_ ?_ ?_ ?_ ?_ ?_ ?_ ?_ ?_ ?_ ?_ ?_ ?_ ?_ ?_ ?_ ?_ ?_ ?_ ?_ ?_ ?_ ?_ ?_ ?_ ?_ ?_ ?_ ?_ ?_ ?_ ?_ ?_ ?_ ?_ ?_ ?_ ?_ ?_ ?_ ?_ ?_ ?_ ?_ ?_ ?_ ?_ ?_ ?_ ?_ ?_ ?_ ?_ ?_ ?_ ?_ ?_ ?_ ?_ ?_ ?_ ?_ ?_ ?_ ?_ ?_ ?_ ?_ ?_ ?_ ?_ ?_ ?_ ?_ ?_ ?_ ?_ ?_ ?_ ?_ ?_ ?_ ?_ ?_ ?_ ?_ ?_ ?_ ?_ ?_ ?_ ?_ ?_ ?_ ?_ ?_ ?_ ?_ ?_ ?_ ?_ ?_ ?_ ?_ ?_ ?_ ?_ ?_ ?_ ?_ ?_ ?_ ?_ ?_ ?_ ?_ ?_ ?_ ?_ ?_ ?_ ?_ ?_ ?_ ?_ ?_ ?_ ?_ ?_ ?_ ?_ ?_ ?_ ?_ ?_ ?_ ?_ ?_ ?_ ?_ ?_ ?_ ?_ ?_ ?_ ?_ ?_
  all_goals try refine' Vl.Dn.mk ?_ ?_ ?_ ?_
  all_goals try refine' Vl.kW.mk ?_ ?_ ?_
  all_goals try first|k_is|kernel_rfl|k_exc
