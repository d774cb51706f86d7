import PyProof.Rows.All
import Wide.All
import OpenK.AllK
import PySem.Challenge.RW_edgemoss_k68_parts_told
open PySem renaming Value->aa,Addr->ae,Shared->af,wpAny_bind->ag,Expr->ah,wpAny->ar,model->aw,Heap->ay,World->az,Program->aI,wpAny_pure->aS,Around->aT,starEach->ba,eval->bb,Spec->bg,Stmt->bo,cLine->bS,SetTable->cb,mainGlobals->cq,intKind->cv,rawInt->cx,Builtin->cz,IsTupleKey->c_,backTo->df,FuncData->dn,sizeLine_eq->ef,IsPair->eB,swapsWith->eD,NameKind->eJ,wpAny_mono->eM,wpAny_field->eS,pyNext->fy,Keyword->fF,IsZip->fS,assignEach->f9,wpAny_holding->f_,holding->gf,foldedSetIterable->gi,binaryOp->gy,compareOp->gz,wpAny_newObj_type->gN,wpAny_call_entry->g9,bootBuiltins->ic,wpAny_rule->iq,sysModules->iE,behindInMarks->iF,wpAny_setField->iS,codeAny_builtin->i5,BindsTo->i_,codeAny->ja,mem_of_lookup->jv,SetTable->j5,wpAny_seqItems->j7,wpAny_callSpecial?_slot->j8,PassesOwn->kf,bindL->kg,bindC->ki,callerA->ku,wpAny_setState_of->kF,atKey->kP,GenState->kS,wpAny_passesOwn->kT,pyIter->kU,CmpOp->kX,sliceBounds->k7,attributeBase->k9,backToKw->k_,keywordEach->lh,codeAny_mono->lj,isSubtype_type->mf,wpAny_attempt->ml,DictEntry->mP,noteFrame->m6,wpAny_typeOf->nh,plainId_quiet->ny,firstArgMember->nB,Fin->nK,wpAny_dictEntries->nS,Draws->nX,tupleKind->n9,standAt->oa,wpAny_truthy_bool->og,swapsWithSole->oi,swappedStores->oj,wpAny_Call_Name_kw->oy,wpAny_askSetting->oQ,wpAny_runValue->o3,wpAny_isInstance->o7,wpAny_updateSeq->o8,wpAny_setField_rec->pT,wpAny_pyIter_zip->pV,Str->p8,wpAny_execs_nil->qc,letOwnedTupleGo->qf,wpAny_load->qh,wpAny_pyIter_tuple->qi,wpAny_call->qB,wpAny_throw->qE,carriedByValue->rj,ofAClassStatement->rn,setSearchFrom->rL,hashByValue->rS,wpAny_of_eq->rV,wpAny_fieldsOf->r_,updateSeq->sj,wpAny_typeNameOfWhole_keyiter->sT,wpAny_typeNameOf_keyiter->s_,wpAny_letGo->tj,wpAny_pyIter_list->uj,wpAny_forIn_list->v_,wpAny_specialOf->wb,pickOrder->wq,typeLookup_type->w6,builtinLookup_eq_fast->w8,wpAny_pyIter_slot->w9,wpAny_setEntries_of->xc,wpAny_handled->xh,isSubtype_stop->xi,Builtin->xl,wpAny_newList->xv,tupleKind_room_in1->xC,wpAny_dictEpoch->xD,wpAny_onRaise->xI,size_of_entries->xN
open PySem.W renaming Frag->ai,Frag->di,nsIn->dP,mg_none_of->f7,keepIn->ij,fnOf->iL,nsIn->j0,hideAll->kR,OpenLaw->mM,kia_one->m9,findIn->om,codeIn->ox,methodObj->p_,hideAll_get->t9,of_hideAll->t_,hideAll_none->ue,callWith_K->ve,excIn->vi
open PyProof.Rows renaming Keyed->ax,arrOf->aE,wpS_bind->a_,SortSt->bj,wpS_pure->bq,pendingOf->cf,elem'->dk,seqObj->dS,wpS_mono->eL,wpS_forRange->eT,SortKind->fm,failedOf->fq,wpS_get->g_,mirror->ir,wpS_modify->i7,AllBare->i8,envOfC->ko,seqObj->kN,envOfC->lT,wpS_lift->mo,IntsAre->mE,setPending->nL,reverseSlice'->o_,minRun'->pk,callWith_type1->qk,listUpdate_at->sP,get?_update_seq->sQ,boot_sorted->sR,listItems_at->xp,seqEpoch_at->xt,size_push'->xy
open List renaming mem_cons->br,map_cons->bX,range->b_,length_cons->ck,length_map->cw,size_toArray->cy,getElem?_map->cK,getElem?_eq_getElem->cS,not_mem_nil->da,getElem?_set_ne->de,getElem?_eq_some_iff->dm,mem_map->dt,mem_append->du,length_append->dy,getElem?_set_self->dC,length_nil->eC,append_nil->eI,filter_cons->eW,mem_cons_self->e_,getElem?_append_left->fg,length_range->fv,mem_range->fw,mem_cons_of_mem->fx,mem_append_right->fE,getElem_mem->fI,append_assoc->fN,pairwise_cons->fR,replicate->gc,getD_eq_getElem?_getD->gm,map_map->gr,nodup_cons->gE,getElem?_append_right->gL,pairwise_append->gT,mem_filter->h_,mem_append_left->ie,Perm->ip,mem_singleton->iA,map_nil->iN,drop_eq_getElem_cons->iP,length->jb,length_take->jn,mem_of_getElem?->jI,map_append->j6,mem_iff_getElem?->j_,find?_cons->ka,mem_filterMap->kc,getElem?_replicate->kq,lookup_cons->kv,perm_append_comm->kD,toArray->kK,nil_append->kQ,foldl_cons->ll,lookup->lL,pairwise_iff_getElem->l9,ext_getElem->mh,getElem?_take_of_lt->mB,length_drop->mI,range_succ_eq_map->mS,drop_eq_nil_of_le->mT,mem_iff_getElem->nc,take_append_drop->ng,map_congr_left->nv,mem_map_of_mem->nV,Nodup->n5,filterMap_cons->n_,take_sublist->oo,length_replicate->oq,all_eq_true->oB,mem_of_mem_take->oC,filterMap_cons_some->oD,getD->oS,getElem?_drop->pf,cons_append->pj,set_cons_zero->p7,Pairwise->qr,drop_length->qA,eraseIdx_cons_succ->rX,length_eq_zero_iff->r8,getElem?_take_eq_none->sF,mem_reverse->sM,set_cons_succ->sN,getElem?_cons_zero->tx,getElem?_cons_succ->tz,of_mem_zip->uv,all_cons->uC,forIn_cons->u6,forIn_nil->vj,take_of_length_le->vz,mem_of_mem_drop->vE,map_take->vF,map_drop->vS,drop_sublist->vT,map_filterMap->v3,filter_sublist->v7,filterMap_cons_none->v8,nodup_nil->wm,isEmpty_nil->w_,ext_getElem?->xk,zipIdx_cons->xn,any_cons->xx,nodup_append->xS
open PySem.Heap renaming lt_size->bu,get?_push_of_some->cm,get?_push_size->cE,SameBut->dQ,get?_update_self->gS,get?_update_other->jS,size_push->j4,get?_update_ne->kM,size_update->pM,NotedW->u7,ExtBut->xf
open Ne renaming symm->bz
open Nat renaming le_refl->bE,ne_of_lt->cn,le_trans->dq,lt_of_lt_of_le->dA,zero_le->d_,lt_irrefl->eQ,le_of_lt->gx,zero_add->hZ,lt_of_le_of_lt->iO,mod_eq_of_lt->iX,ne_of_gt->i9,lt_succ_of_lt->ky,le_add_right->kG,pow_succ->l5,add_zero->l6,mod_lt->m_,le_succ->nN,succ_mul->n6,add_assoc->ph,mul_assoc->qS,add_mul_mod_self_left->qV,mod_eq_sub_mod->q8,lt_or_ge->sD,le_of_eq->uB,le_max_right->uS,min_self->u5,succ_le_succ->vk,le_succ_of_le->vn,add_mod->vt,mul_mod->vw,lt_trans->vy,succ_ne_self->wt,lt_succ_self->xj,reduceAdd->x6,reduceSub->x8,reduceEqDiff->x_,reduceLeDiff->ya
open Bool renaming false_eq_true->bP,not_true->eK,and_eq_true->lS,or_eq_true->l4,not_false->l_,and_false->oz,and_true->qv,false_ne_true->ui,or_self->wa
open Option.some renaming inj->dE
open PySem.PassesOwn renaming never->et
open PySem.Obj renaming mapSeq->eA,mapFields->ik,data_mapFields->j3,isFreed_of_fields->m8,cls_mapFields->u_
open Int renaming le_trans->eP,emod_nonneg->gp,le_of_lt->gu,le_refl->hG,emod_lt_of_pos->i0,toNat_natCast->kz,not_lt->pd,fdiv_eq_ediv_of_nonneg->uk
open False renaming elim->eR
open Array renaming getElem?_eq_some_iff->gd,size_push->hV,getD->il,getElem?_toList->j9,length_toList->ke,toList_append->kA,getD_eq_getD_getElem?->kC,size_append->kL,getElem?_eq_getElem->nE,toList_inj->q9,toList_push->q_,replicate->rh,getElem?_eq_none->se,perm_iff_toList_perm->sm,size_extract->sC,getElem?_setIfInBounds_ne->vc
open PySem.Heap.SameBut renaming update->i4
open PySem.Str renaming ofString->i6
open List.Pairwise renaming sublist->kB
open PySem.F renaming called_set->kH,slot_dict_keyiterator_next->pS,plain_list_iadd->sg,slot_tuple_iterator_next->td,slot_zip_next->tm,excBase_ValueError->tP,plainAttrs_list->xw,slot_dict_len->xF
open PySem.Around renaming under_plainId->me
open PySem.Builtin.SmallTypes renaming nextOf->mv,ownedTupleIsFree->tf
open PySem.Value renaming isInt_shape->mw
open PySem.SeqAt renaming EqAt->my
open PySem.Builtin.Frozenset renaming updateFrom->nz
open PySem.Builtin.List renaming listExtendWith->nI,listTooLong->qq,listLengthHint->sf,listSameRef->si
open Option renaming map_some->oI,getD_some->oP,map_eq_some_iff->rf,bind_some->tJ
open List.Perm renaming append_left->o6,of_eq->o9,append_right->xm
open PySem.Paired renaming length->p9
open PySem.Builtin renaming bitAnd->qo
open Function renaming comp_def->qs
open PyProof.Rows.SortSt renaming mk'->sL
open PySem.Draws renaming list->tq
open PySem.Calls renaming evalArgs_plain->uA
open Prod.mk renaming injEq->vx
open PyProof.Rows.F renaming plain_set_update_loop->wc
open PySem.Shared renaming TypeIs->we
open PySem.pickOrder renaming go->wo
open Classical renaming choose->xo
set_option Elab.async false
set_option linter.all false
set_option maxRecDepth 100000
set_option maxHeartbeats 0
noncomputable abbrev LL:=List (List Int)
noncomputable abbrev pK(x:p8):Prop:=(x == (p8.ofString "__debug__"))=false
noncomputable abbrev HF(x:p8):Prop:=(x == (p8.ofString "__classdict__"))=false
namespace L2
open PySem PySem.Spec PyProof.Rows
noncomputable abbrev DG:=Sum Int Str
noncomputable def aag:DG->aa->Bool
 | .inl k,v=>aa.isInt k v
 | .inr x,v=>aa.isStrOf x v
noncomputable def agU(w:az):DG->Int
 | .inl k=>hashInt k
 | .inr x=>hashStr w x
theorem cO:∀{k:DG}{v:aa},aag k v=true->(∃i t,k=Sum.inl i/\v=aa.int i t)∨(∃x t,k=Sum.inr x/\v=aa.str x t)
 | .inl i,v,h=>by obtain⟨t,e⟩:=mw (k:=i) (v:=v) h;exact .inl ⟨i,t,rfl,e⟩
 | .inr x,v,h=>by obtain⟨t,e⟩:=aa.isStrOf_shape (x:=x) (v:=v) h;exact .inr ⟨x,t,rfl,e⟩
theorem aaX(a b:Int):decide ((Sum.inl a:DG)=Sum.inl b)=(a == b):=by
 by_cases e:a=b
 ·subst e;simp
 ·have h:¬(Sum.inl a:DG)=Sum.inl b:=fun q=>e (Sum.inl.inj q);rw[decide_eq_false h];exact(beq_eq_false_iff_ne.mpr e).symm
theorem aaY(a b:Str):decide ((Sum.inr a:DG)=Sum.inr b)=decide (a=b):=by
 by_cases e:a=b
 ·subst e;simp
 ·have h:¬(Sum.inr a:DG)=Sum.inr b:=fun q=>e (Sum.inr.inj q);rw[decide_eq_false h,decide_eq_false e]
theorem aaZ(a:Int)(b:Str):decide ((Sum.inl a:DG)=Sum.inr b)=false:=decide_eq_false (fun q=>nomatch q)
theorem abb(a:Str)(b:Int):decide ((Sum.inr a:DG)=Sum.inl b)=false:=decide_eq_false (fun q=>nomatch q)
noncomputable def Kc(prog:aI)(w:az):PySem.KeyKind prog w DG where
  is:=aag
  hash:=agU w
  inj:=fun v a b ha hb=>by
    rcases cO ha with ⟨i,t,rfl,rfl⟩|⟨x,t,rfl,rfl⟩
    . rcases cO hb with ⟨j,u,rfl,e⟩|⟨y,u,rfl,e⟩
      . injection e with e1 _;rw[e1]
      . exact nomatch e
    . rcases cO hb with ⟨j,u,rfl,e⟩|⟨y,u,rfl,e⟩
      . exact nomatch e
      . injection e with e1 _;rw[e1]
  byValue := fun k v h => by rcases cO h with ⟨i,t,rfl,rfl⟩|⟨x,t,rfl,rfl⟩ <;> rfl
  pyHash:=fun hv h=>by
    rcases cO hv with ⟨i,t,rfl,rfl⟩|⟨x,t,rfl,rfl⟩
    . exact wpAny_pyHash_int h
    . exact wpAny_pyHash_str h
  eqBool:=fun hu hv h=>by
    rcases cO hu with ⟨i,t,rfl,rfl⟩|⟨x,t,rfl,rfl⟩
    . rcases cO hv with ⟨j,u,rfl,rfl⟩|⟨y,u,rfl,rfl⟩
      . rw[aaX]at h;exact wpAny_eqBool_int h
      . rw[aaZ]at h;exact my.int_str i t y u _ _ _ _ h
    . rcases cO hv with ⟨j,u,rfl,rfl⟩|⟨y,u,rfl,rfl⟩
      . rw[abb]at h;exact my.str_int x t j u _ _ _ _ h
      . rw[aaY]at h;exact wpAny_eqBool_str h
  «strs»:=fun k x t v h=>by
    rcases cO h with ⟨i,u,rfl,e⟩|⟨y,u,rfl,e⟩
    . exact nomatch e
    . injection e with e1 _
      subst e1;cases v <;> rfl
inductive V where
 |non|bl (b:Bool)|int (i:Int)|str (x:Str)|byt (b:Array UInt8)|flt (b:UInt64)|ref (a:ae)|ty (n:String)
 deriving DecidableEq
noncomputable def RelV:V->aa->Prop
 | .non,u=>u=aa.none
 | .bl b,u=>u=aa.bool b
 | .int i,u=>∃t,u=aa.int i t
 | .str x,u=>∃t,u=aa.str x t
 | .byt b,u=>∃t,u=aa.bytes b t
 | .flt b,u=>∃t,u=aa.float b t
 | .ref a,u=>u=aa.ref a
 | .ty n,u=>u=aa.type n
noncomputable abbrev Vals:List V->List aa->Prop:=Paired RelV
theorem Vals.length{xs:List V}{us:List aa}(r:Vals xs us):xs.length=us.length:=p9 r
theorem Vals.get:∀{xs:List V}{us:List aa}{i:Nat}{x:V},Vals xs us->xs[i]?=some x->∃u,us[i]?=some u/\RelV x u
 |_,_,_,_,.nil,e=>by simp at e
 |_,_,0,_,.cons r _,e=>by simp at e;subst e;exact⟨_,rfl,r⟩
 |_,_,i + 1,x,.cons _ t,e=>by obtain⟨u,h1,h2⟩:=Vals.get (i:=i) (x:=x) t (by simpa using e);exact⟨u,by simpa using h1,h2⟩
theorem Vals.append:∀{xs ys:List V}{us ws:List aa},Vals xs us->Vals ys ws->Vals (xs++ys) (us++ws)
 |_,_,_,_,.nil,s=>s
 |_,_,_,_,.cons r t,s=>.cons r (Vals.append t s)
theorem Vals.take:∀{xs:List V}{us:List aa}(n:Nat),Vals xs us->Vals (xs.take n) (us.take n)
 |_,_,0,_=>.nil
 |_,_,_ + 1,.nil=>.nil
 |_,_,n + 1,.cons r t=>.cons r (Vals.take n t)
theorem Vals.drop:∀{xs:List V}{us:List aa}(n:Nat),Vals xs us->Vals (xs.drop n) (us.drop n)
 |_,_,0,r=>r
 |_,_,_ + 1,.nil=>.nil
 |_,_,n + 1,.cons _ t=>Vals.drop n t
theorem Vals.none_of:∀{xs:List V}{us:List aa}{i:Nat},Vals xs us->xs[i]?=none->us[i]?=none:=fun {xs us i} r e=>by have h1:=r.length;have h2:xs.length<=i:=List.getElem?_eq_none_iff.mp e;exact List.getElem?_eq_none_iff.mpr (by lia)
noncomputable def aeo:Option V->Option aa->Prop
 |some v,some u=>RelV v u
 |none,none=>True
 |_,_=>False
noncomputable def KV{κ:Type}:List (κ×V)->List (κ×aa)->Prop:=Paired fun(p:κ×V) (q:κ×aa)=>p.1=q.1/\RelV p.2 q.2
noncomputable def kV:DG->V
 | .inl i=>.int i
 | .inr x=>.str x
inductive HO where
 /-- a list -/
 |lst (xs:List V)
 /-- a tuple (never changes) -/
 |tup (xs:List V)
 /-- a dict whose keys are ints and texts;one whose keys are tuples of ints and texts (the empty one is both) -/
 |dK (kvs:List (DG×V))|dT (kvs:List (List DG×V))
 /-- a set of ints: its members,its size -/
 |set (S:Int->Bool) (n:Nat)
 /-- an instance of the class at C,its dict at dx,its attributes -/
 |ins (C dx:ae) (fs:List (Str×V))
 /-- the dict of the instance at x -/
 |own (x:ae)
 /-- the dict of an exception -/
 |xd (fs:List (Str×V))
 /-- a bound method,f of x -/
 |met (f x:ae)
 /-- a range object lo,lo + 1,.. below hi -/
 |rng (lo hi:Int)
 /-- a thing that is known to the object (the script;a dict while a loop walks it): read,never written while it is so -/
 |za (o:Obj) (u:HO)
 /-- a code object's table -/
 |tbl (ps:Array aa)
 |tab (q:Str)|Qi (q:Str)
 /-- any other thing,by what is true of its one object (a def of one's own: Ni a S n:=HO.ext fun h=>..) -/
 |ext (φ:ay->Prop)
noncomputable abbrev Hp:=ae->Option HO
noncomputable def upd(H:Hp)(a:ae)(o:HO):Hp:=fun b=>if b=a then some o else H b
theorem aQ{H:Hp}{a:ae}{o:HO}:upd H a o a=some o:=by unfold upd;rw[if_pos rfl]
theorem aL{H:Hp}{a b:ae}{o:HO}(h:b≠a):upd H a o b=H b:=by unfold upd;rw[if_neg h]
theorem aM{H:Hp}{a b:ae}{o:HO}(h:H a=some o)(h':H b=none):a≠b:=by intro e;subst e;rw[h]at h';cases h'
section
variable(P:aI)(w:az)
noncomputable def dD(H:Hp)(h:ay)(a:ae):HO->Prop
 | .lst xs=>xs.length<=sizeLine/\∃(its:List aa) (n:Nat),Vals xs its/\h.get? a=some { cls:=.type "list",data:=.seq its.toArray n }
 | .tup xs=>xs.length<=sizeLine/\∃its:List aa,Vals xs its/\IsTup h a its.toArray
 | .dK kvs=>kvs.length<=sizeLine/\(a == iE)=false/\∃vs,KV kvs vs/\h.DictOf (Kc P w) a vs
 | .dT kvs=>kvs.length<=sizeLine/\(a == iE)=false/\∃xs:List (List DG×ae×aa),
   Paired (fun(p:List DG×V) (q:List DG×ae×aa)=>p.1=q.1/\H q.2.1=some (.tup (p.1.map kV))/\RelV p.2 q.2.2) kvs xs /\
   ∃o es ep,h.get? a=some o/\o.ExactDict/\o.data=.dict es ep/\es.toList=xs.map (entryOfKey (n9 (Kc P w)))/\(xs.map (·.1)).Nodup
 | .set S n=>h.SetOf (cv P w) a S n
 | .ins C dx fs=>H dx=some (.own a)/\fs.length<=1000/\dx≠a/\h.get? a=some (PySem.W.instObj C dx) /\
   ∃mA,h.Ns1 dx mA/\(∀f,aeo (fs.lookup f) (mA f))/\PySem.Within mA (fs.map (·.1))
 | .own _=>∃o,h.get? a=some o
 | .xd fs=>∃mA,h.Ns1 a mA/\∀f,aeo (fs.lookup f) (mA f)
 | .rng lo hi=>∃t u v,h.get? a=some { cls:=.type "range",data:=.fields #[.int lo t,.int hi u,.int 1 v] }
 | .za o u=>h.get? a=some o/\dD H h a u
 | .tbl ps=>h.get? a=some { cls:=.none,data:=.fields ps }
 | .tab q=>∃ps:Array aa,h.get? a=some { cls:=.none,data:=.fields ps }/\TriplesOk ps.toList/\∀pos v,codeAmong pos ps.toList=some v->∃c,v=.ref c/\H c=some (.Qi q)
 | .Qi q=>∃o vs t,h.get? a=some o/\o.data=.fields vs/\vs[1]?=some (.str q t)
 | .met f x=>h.get? a=some (p_ (.ref f) (.ref x))
 | .ext φ=>φ h/\(∃o,h.get? a=some o)/\∀h1 h2:ay,φ h1->(∀o,h1.get? a=some o->h2.get? a=some o)->φ h2
noncomputable def uR(H:Hp)(h:ay):Prop:=∀a o,H a=some o->dD P w H h a o
end
section
variable{P:aI}{w:az}{H H':Hp}{h h':ay}{a:ae}{o:HO}
theorem dD.lt(x:dD P w H h a o):a < h.objs.size:=by
 cases o with
 |lst xs=>obtain⟨_,_,_,_,e⟩:=x;exact bu e
 |tup xs=>obtain⟨_,_,_,p⟩:=x;exact p.lt
 |dK kvs=>obtain⟨_,_,_,_,o,_,_,e,_⟩:=x;exact bu e
 |dT kvs=>obtain⟨_,_,_,_,o,_,_,e,_⟩:=x;exact bu e
 |set S n=>obtain⟨o,_,_,_,e,_⟩:=x;exact bu e
 |ins C dx fs=>obtain⟨_,_,_,e,_⟩:=x;exact bu e
 |own y=>obtain⟨_,e⟩:=x;exact bu e
 |xd fs=>obtain⟨_,⟨_,_,_,e,_⟩,_⟩:=x;exact bu e
 |rng lo hi=>obtain⟨_,_,_,e⟩:=x;exact bu e
 |za ob u=>obtain⟨e,_⟩:=x;exact bu e
 |tbl ps=>exact bu (show h.get? a=some _ from x)
 |tab q=>obtain⟨_,e,_⟩:=x;exact bu e
 |Qi q=>obtain⟨_,_,_,e,_⟩:=x;exact bu e
 |met f y=>exact bu (show h.get? a=some _ from x)
 |ext φ=>obtain⟨_,⟨_,e⟩,_⟩:=x;exact bu e
theorem Paired.abd{α β:Type}{F G:α->β->Prop}:∀{l₁:List α}{l₂:List β},Paired F l₁ l₂->(∀a b,F a b->G a b)->Paired G l₁ l₂
 |_,_,.nil,_=>.nil
 |_,_,.cons r t,f=>.cons (f _ _ r) (Paired.abd t f)
theorem dD.stay(x:dD P w H h a o)(k:∀b u,(b=a∨H b=some (.own a))->h.get? b=some u->h'.get? b=some u)
  (ho:∀b,H b=some (.own a)->H' b=some (.own a)) (ht:∀b xs,H b=some (.tup xs)->H' b=some (.tup xs)) (agW:∀b q,H b=some (.Qi q)->H' b=some (.Qi q)):dD P w H' h' a o:=by
 induction o with
 |lst xs=>obtain⟨z,its,n,r,e⟩:=x;exact⟨z,its,n,r,k _ _ (.inl rfl) e⟩
 |tup xs=>obtain⟨z,its,r,ob,e,c⟩:=x;exact⟨z,its,r,ob,k _ _ (.inl rfl) e,c⟩
 |dK kvs=>obtain⟨z,y,vs,r,ob,es,ep,e,c⟩:=x;exact⟨z,y,vs,r,ob,es,ep,k _ _ (.inl rfl) e,c⟩
 |dT kvs =>
  obtain⟨z,y,xs,r,ob,es,ep,e,c⟩:=x;exact⟨z,y,xs,Paired.abd r fun p q z=>⟨z.1,ht _ _ z.2.1,z.2.2⟩,ob,es,ep,k _ _ (.inl rfl) e,c⟩
 |set S n=>obtain⟨ob,es,ep,t,e,c⟩:=x;exact⟨ob,es,ep,t,k _ _ (.inl rfl) e,c⟩
 |ins C dx fs =>
  obtain⟨d,z,ne,e,mA,⟨od,es,ep,e2,c⟩,r⟩:=x;exact⟨ho _ d,z,ne,k _ _ (.inl rfl) e,mA,⟨od,es,ep,k _ _ (.inr d) e2,c⟩,r⟩
 |own y=>obtain⟨ob,e⟩:=x;exact⟨ob,k _ _ (.inl rfl) e⟩
 |xd fs=>obtain⟨mA,⟨od,es,ep,e,c⟩,r⟩:=x;exact⟨mA,⟨od,es,ep,k _ _ (.inl rfl) e,c⟩,r⟩
 |rng lo hi=>obtain⟨t,u,v,e⟩:=x;exact⟨t,u,v,k _ _ (.inl rfl) e⟩
 |za ob u ih=>obtain⟨e,q⟩:=x;exact⟨k _ _ (.inl rfl) e,ih q⟩
 |tbl ps =>
  have e:h.get? a=some { cls:=.none,data:=.fields ps }:=x;show h'.get? a=some { cls:=.none,data:=.fields ps };exact k a _ (.inl rfl) e
 |tab q =>
  obtain⟨ps,e,t,c⟩:=x;exact⟨ps,k _ _ (.inl rfl) e,t,fun pos v z=>let ⟨c',e1,e2⟩:=c pos v z;⟨c',e1,agW _ _ e2⟩⟩
 |Qi q=>obtain⟨o,vs,t,e,r⟩:=x;exact⟨o,vs,t,k _ _ (.inl rfl) e,r⟩
 |met f y =>
  have e:h.get? a=some (p_ (.ref f) (.ref y)):=x;show h'.get? a=some (p_ (.ref f) (.ref y));exact k a _ (.inl rfl) e
 |ext φ=>obtain⟨p,⟨o,e⟩,st⟩:=x;exact⟨st _ _ p fun o q=>k _ _ (.inl rfl) q,⟨o,k _ _ (.inl rfl) e⟩,st⟩
theorem uR.lt(x:uR P w H h)(e:H a=some o):a < h.objs.size:=(x a o e).lt
theorem uR.fresh(x:uR P w H h)(e:h.objs.size<=a):H a=none:=by
 cases q:H a with
 |none=>rfl
 |some u=>exact absurd (dA (x.lt q) e) (eQ _)
theorem uR.kept(x:uR P w H h)(k:∀b u,h.get? b=some u->h'.get? b=some u):uR P w H h':=fun a o e =>
 (x a o e).stay (fun b u _ q=>k b u q) (fun _ q=>q) (fun _ _ q=>q) fun _ _ q=>q
theorem uR.laid(x:uR P w H h)(k:∀b u,h.get? b=some u->h'.get? b=some u)(hp:h.objs.size<=a)(new:dD P w (upd H a o) h' a o):uR P w (upd H a o) h':=fun b u e=>by
 have hn:=x.fresh hp;by_cases hb:b=a
 ·subst hb;rw[aQ]at e;cases e;exact new
 ·rw[aL hb]at e;exact(x b u e).stay (fun c v _ q=>k c v q) (fun c q=>by rw[aL (aM q hn)];exact q) (fun c xs q=>by rw[aL (aM q hn)];exact q) fun c xs q=>by rw[aL (aM q hn)];exact q
end
noncomputable def Rd(H:Hp)(a:ae)(u:HO):Prop:=H a=some u∨∃o,H a=some (.za o u)
theorem Rd.of{H:Hp}{a:ae}{u:HO}(h:H a=some u):Rd H a u:=.inl h
theorem Rd.ok{P:aI}{w:az}{H:Hp}{h:ay}{a:ae}{u:HO}(r:Rd H a u)(x:uR P w H h):dD P w H h a u:=by
 rcases r with r|⟨o,r⟩
 ·exact x a u r
 ·obtain⟨_,q⟩:=x a _ r;exact q
noncomputable def Mut:Option HO->Prop
 |some (.lst _)=>True
 |some (.dK _)=>True
 |some (.dT _)=>True
 |some (.set _ _)=>True
 |some (.ins _ _ _)=>True
 |some (.ext _)=>True
 |some (.tab _)=>True
 |_=>False
section
variable{P:aI}{w:az}{H:Hp}{h h':ay}{x e:ae}{o':HO}
theorem uR.write(ok:uR P w H h)(mu:Mut (H x))(he:e=x∨H e=some (.own x))(k:∀b u,b≠e->h.get? b=some u->h'.get? b=some u)(heo:∃u,h'.get? e=some u)
  (new:dD P w (upd H x o') h' x o'):uR P w (upd H x o') h':=fun b u q=>by
 have aep:∀c y,H c=some (.own y)->c≠x:=fun c y r z=>by subst z;rw[r]at mu;exact mu
 have agX:∀c xs,H c=some (.tup xs)->c≠x:=fun c xs r z=>by subst z;rw[r]at mu;exact mu
 have agY:∀c q,H c=some (.Qi q)->c≠x:=fun c q r z=>by subst z;rw[r]at mu;exact mu
 by_cases hb:b=x
 ·subst hb;rw[aQ]at q;cases q;exact new
 ·rw[aL hb]at q;by_cases hbe:b=e
  ·have q':H b=some (.own x):=by
    rcases he with z|z
    ·exact absurd (hbe.trans z) hb
    ·rw[hbe];exact z
   rw[q]at q';cases q';obtain⟨v,hv⟩:=heo;exact⟨v,by rw[hbe];exact hv⟩
  ·refine(ok b u q).stay (fun c v hc r=>k c v ?_ r) (fun c r=>by rw[aL (aep c b r)];exact r) (fun c xs r=>by rw[aL (agX c xs r)];exact r) fun c q r=>by rw[aL (agY c q r)];exact r
   rcases hc with rfl|hc
   ·exact hbe
   ·rintro rfl;rcases he with z|z
    ·exact aep c b hc z
    ·rw[hc]at z;cases z;exact hb rfl
end
structure Un (fs ex:List ae)(H H':Hp)(h h':ay):Prop where
 keep:∀b o,h.get? b=some o->H b=none->b∉fs->b∉ex->h'.get? b=some o
 slot:∀b o,h.get? b=some o->H b=none->b∈fs->b∉ex->∃sl,h'.get? b=some { o with slots:=sl }
 free:∀b o,h.get? b=some o->H b=none->b∉ex->H' b=none
 there:∀b o,h.get? b=some o->b∉ex->∃o',h'.get? b=some o'
 tups:∀b xs,H b=some (.tup xs)->H' b=some (.tup xs)
 vK:∀b o u,H b=some (.za o u)->H' b=some (.za o u)
 yG:∀b ps,H b=some (.tbl ps)->∃more,H' b=some (.tbl (ps++more))
section
variable{fs fs' ex ex':List ae}{H H1 H2:Hp}{h h1 h2 h':ay}{a x e:ae}{o:HO}
theorem Un.any(u:Un fs ex H H1 h h1){b:ae}{ob:Obj}(q:h.get? b=some ob)(n:H b=none)(hx:b∉ex):∃sl,h1.get? b=some { ob with slots:=sl }:=by
 by_cases hb:b∈fs
 ·exact u.slot b ob q n hb hx
 ·exact⟨ob.slots,u.keep b ob q n hb hx⟩
theorem Un.kept(k:∀b u,h.get? b=some u->h'.get? b=some u):Un fs ex H H h h' :=
 ⟨fun b ob q _ _ _=>k b ob q,fun b ob q _ _ _=>⟨ob.slots,k b ob q⟩,fun _ _ _ n _=>n,fun b ob q _=>⟨ob,k b ob q⟩,fun _ _ q=>q,fun _ _ _ q=>q,fun _ ps q=>⟨#[],by rw[q];simp⟩⟩
theorem Un.refl:Un fs ex H H h h:=Un.kept fun _ _ q=>q
theorem Un.laid(k:∀b u,h.get? b=some u->h'.get? b=some u)(hp:h.objs.size<=a)(hn:H a=none):Un fs ex H (upd H a o) h h' where
 keep:=fun b u q _ _ _=>k b u q
 slot:=fun b u q _ _ _=>⟨u.slots,k b u q⟩
 free:=fun b u q n _=>by rw[aL (cn (dA (bu q) hp))];exact n
 there:=fun b u q _=>⟨u,k b u q⟩
 tups:=fun b xs q=>by rw[aL (aM q hn)];exact q
 vK:=fun b u xs q=>by rw[aL (aM q hn)];exact q
 yG:=fun b ps q=>⟨#[],by rw[aL (aM q hn),q];simp⟩
theorem Un.write(mu:Mut (H x))(he:e=x∨H e=some (.own x))(k:∀b u,b≠e->h.get? b=some u->h'.get? b=some u)(heo:∃u,h'.get? e=some u):Un fs ex H (upd H x o) h h':=by
 have hx:∀b,H b=none->b≠x:=fun b n z=>by subst z;rw[n]at mu;exact mu
 have hb:∀b,H b=none->b≠e:=fun b n z=>by
  subst z;rcases he with r|r
  ·exact hx b n r
  ·rw[n]at r;cases r
 have hm:∀b u,H b=some u->¬Mut (some u)->b≠x:=fun b u q nm z=>by subst z;rw[q]at mu;exact nm mu
 refine⟨fun b u q n _ _=>k b u (hb b n) q,fun b u q n _ _=>⟨u.slots,k b u (hb b n) q⟩,fun b u q n _=>by rw[aL (hx b n)];exact n,fun b u q _=>?_,
  fun b xs q=>by rw[aL (hm b _ q fun z=>z)];exact q,fun b u xs q=>by rw[aL (hm b _ q fun z=>z)];exact q,fun b ps q=>⟨#[],by rw[aL (hm b _ q fun z=>z),q];simp⟩⟩
 by_cases hbe:b=e
 ·subst hbe;exact heo
 ·exact⟨u,k b u hbe q⟩
end
noncomputable def trk(h:ay)(H:Hp):List ae:=(b_ h.objs.size).filter fun a=>(H a).isSome
noncomputable def Al(h:ay)(H:Hp):ay:=kR h (trk h H)
theorem Nj(h:ay)(H:Hp):(Al h H).objs.size=h.objs.size:=PySem.W.hideAll_size _ _
theorem Qj{h:ay}{H:Hp}{b:ae}{o:Obj}(e:h.get? b=some o)(n:H b=none):(Al h H).get? b=some o :=
 t9 _ e fun hm=>by have q:(H b).isSome=true:=(h_.mp hm).2;rw[n]at q;simp at q
theorem Xi{h:ay}{H:Hp}{b:ae}{o:Obj}(e:(Al h H).get? b=some o):h.get? b=some o/\H b=none:=by
 have e':h.get? b=some o:=t_ (trk h H) e;refine⟨e',?_⟩;cases q:H b with
 |none=>rfl
 |some x =>
  have hm:b∈trk h H:=h_.mpr ⟨fw.mpr (bu e'),by simp[q]⟩;have z:(Al h H).get? b=none:=ue (trk h H) hm;rw[z]at e;cases e
noncomputable def Ke(g h:ay)(L:ae):List (ae×Obj):=(b_ h.objs.size).filterMap fun a=>if a=L∨(g.get? a).isSome=true then none else (h.get? a).map fun o=>(a,o)
theorem DR{g h:ay}{L a:ae}{o:Obj}(h1:a≠L)(h2:g.get? a=none)(h3:h.get? a=some o):(a,o)∈Ke g h L :=
 kc.mpr ⟨a,fw.mpr (bu h3),by simp[h1,h2,h3]⟩
noncomputable def rest(g h:ay)(L d:ae):List (ae×Obj):=(Ke g h L).filter fun p=>decide (p.1≠d)
theorem vL{g h:ay}{L d a:ae}{o:Obj}(h1:a≠L)(h2:g.get? a=none)(h3:h.get? a=some o)(h4:a≠d):(a,o)∈rest g h L d :=
 h_.mpr ⟨DR h1 h2 h3,decide_eq_true h4⟩
structure Mod (K:ai)(mg:Str->Option aa)(base:ay):Prop where
 Kf:K.In base
 glob:base.Ns cq mg
 blt:∃mb,base.Ns builtinsNs mb/\∀x:Str,x≠"__name__"->mb x=ic x
 nolimit:base.NoLimit
 bm:∃bm ob,mg "__builtins__"=some (.ref bm)/\bm≠builtinsNs/\base.get? bm=some ob/\ob.cls=.type "module"/\ob.dict=some builtinsNs/\ob.data=.plain
structure Cx where
 prog:aI
 w:az
 K:ai
 mg:Str->Option aa
 base:ay
 A:aT
 N:List Str
 s₀:af
 H₀:Hp
 env:Env
 outer:List Env
 stack:List Env
 ex:List ae
 fn:Str->Bool
 calm:Bool
 pn:List (ae×Obj)
 xe:aa->af->Prop
noncomputable def rz(l:List Env):List ae:=l.filterMap (·.frame)
noncomputable abbrev Cx.fs(X:Cx):List ae:=rz X.outer
noncomputable def DW(sc:Scope)(x:Str):Prop:=sc.names.lookup x=some .local∨sc.names.lookup x=some .cell∨sc.names.lookup x=some .free
noncomputable def Kg(sc:Scope)(x:Str):Prop:=sc.names.lookup x=some .local∨sc.names.lookup x=some .cell
noncomputable def agZ(env:Env)(h:ay)(m:Str->Option aa)(x:Str)(u:aa):Prop :=
 (env.kindOf x=some .local/\m x=some u)∨((env.kindOf x=some .cell∨env.kindOf x=some .free)/\∃c,env.cells.lookup x=some c/\h.IsCell c (some u))
structure Cx.Ok (X:Cx):Prop where
 mod:Mod X.K X.mg X.base
 kind:X.env.scope.kind=.function
 glob:X.env.globals=cq
 blt:X.env.builtins=builtinsNs
 above:X.s₀.heap.objs.size<=X.env.locals
 inj:∀x y c,X.env.cells.lookup x=some c->X.env.cells.lookup y=some c->x=y
 has:∀x,(X.env.kindOf x=some .cell∨X.env.kindOf x=some .free)->∃c,X.env.cells.lookup x=some c
 cab:∀x c,X.fn x=true->X.env.cells.lookup x=some c->X.s₀.heap.objs.size<=c
 hd:X.calm=true->X.A.handled=none
 frames:X.A.frames=some X.stack
 stk:X.stack=X.outer∨(X.stack=X.env::X.outer/\X.env.frame=some X.env.locals)
 exf:∀b∈X.ex,b≠X.env.locals/\∀x c,X.env.cells.lookup x=some c->c≠b
 bs:∀b o,X.base.get? b=some o->X.s₀.heap.get? b=some o/\X.H₀ b=none
 bsz:X.base.objs.size<=X.s₀.heap.objs.size
 DX:∀b o,X.base.get? b=some o->b∉X.ex
 Xj:∀b∈X.ex,b∉X.fs
 vM:X.s₀.heap.FunFrames X.base X.outer
 frf:∀b∈X.fs,X.H₀ b=none
structure Inv (X:Cx)(pins:List (ae×Obj))(σ:List (Option V))(H:Hp)(s:af):Prop where
 ok:X.Ok
 os:s.os=X.s₀.os
 bare:i8 s.gens
 base:Un X.fs X.ex X.H₀ H X.s₀.heap s.heap
 loc:∃m,s.heap.Ns X.env.locals m/\∀(i:Nat) (x:Str) (v:V),X.N[i]?=some x->σ[i]?=some (some v)->DW X.env.scope x->∃u,RelV v u/\agZ X.env s.heap m x u
 cell:∀x c,X.env.cells.lookup x=some c->∃v,s.heap.IsCell c v
 free:H X.env.locals=none
 nM:∀x c,X.env.cells.lookup x=some c->H c=none
 pin:∀p∈X.pn++pins,s.heap.get? p.1=some p.2/\H p.1=none/\p.1≠X.env.locals/\p.1∉X.fs/\∀v,p.2.data≠.cell v
 hok:uR X.prog X.w H s.heap
 len:σ.length=X.N.length
section
variable{X:Cx}{pins:List (ae×Obj)}{σ:List (Option V)}{H H':Hp}{s:af}{h':ay}
theorem Cx.Ok.abe(ok:X.Ok){b:ae}{o:Obj}(e:X.base.get? b=some o):b∉X.fs:=fun hb=>by have:=(ok.vM.mem hb).1;rw[e]at this;cases this
theorem Inv.bs(I:Inv X pins σ H s):∀b o,X.base.get? b=some o->s.heap.get? b=some o/\H b=none:=fun b o e =>
 ⟨I.base.keep b o (I.ok.bs b o e).1 (I.ok.bs b o e).2 (I.ok.abe e) (I.ok.DX b o e),I.base.free b o (I.ok.bs b o e).1 (I.ok.bs b o e).2 (I.ok.DX b o e)⟩
theorem Inv.bk(I:Inv X pins σ H s):∀b o,X.base.get? b=some o->s.heap.get? b=some o:=fun b o e=>(I.bs b o e).1
theorem Inv.mod(I:Inv X pins σ H s):Mod X.K X.mg X.base:=I.ok.mod
theorem Inv.DY(I:Inv X pins σ H s):X.K.In s.heap:=I.ok.mod.Kf.keeps I.bk
theorem Inv.lt(I:Inv X pins σ H s):X.env.locals < s.heap.objs.size:=let ⟨_,hn,_⟩:=I.loc;hn.lt
theorem Inv.sz(I:Inv X pins σ H s):X.s₀.heap.objs.size<=s.heap.objs.size:=dq I.ok.above (gx I.lt)
theorem Inv.aha(I:Inv X pins σ H s){a:ae}(h:s.heap.objs.size<=a):a∉X.fs:=fun hb=>by obtain⟨_,o,ho,_⟩:=I.ok.vM.mem hb;exact absurd (dA (bu ho) (dq I.sz h)) (eQ _)
theorem Inv.cne(I:Inv X pins σ H s):∀x c,X.env.cells.lookup x=some c->c≠X.env.locals:=fun x c e z=>by obtain⟨v,o,ho,hd⟩:=I.cell x c e;obtain⟨m,⟨o',es,ep,ho',hd',_⟩,_⟩:=I.loc;rw[z,ho']at ho;cases ho;rw[hd']at hd;cases hd
theorem Inv.vM(I:Inv X pins σ H s):s.heap.FunFrames X.base X.outer:=by
 have all:∀(l:List Env),(∀b∈rz l,b∈X.fs)->X.s₀.heap.FunFrames X.base l->s.heap.FunFrames X.base l:=by
  intro l
  induction l with
  |nil=>intro _ _;trivial
  |cons env r ih =>
   intro hs hl;obtain⟨hk,⟨L,o,hf,hn,ho,hd⟩,hr⟩:=hl;have hL:L∈X.fs:=hs L (by unfold rz;rw[n_,hf];exact e_);obtain⟨sl,e⟩:=I.base.slot L o ho (I.ok.frf L hL) hL fun z=>I.ok.Xj L z hL;exact⟨hk,⟨L,_,hf,hn,e,hd⟩,ih (fun b hb=>hs b (by unfold rz;rw[n_,hf];exact fx _ hb)) hr⟩
 exact all X.outer (fun _ hb=>hb) I.ok.vM
theorem Inv.stack(I:Inv X pins σ H s):s.heap.FunFrames X.base X.stack:=by
 rcases I.ok.stk with e|⟨e,hf⟩
 ·rw[e];exact I.vM
 ·rw[e];obtain⟨m,hn,_⟩:=I.loc;refine .cons (by rw[I.ok.kind];decide) hf hn ?_ I.vM;exact ay.get?_none_of_le (dq I.ok.bsz I.ok.above)
theorem Inv.vN(I:Inv X pins σ H s):∀b∈rz X.stack,b∈X.env.locals::X.fs:=fun b hb=>by
 rcases I.ok.stk with e|⟨e,hf⟩
 ·rw[e]at hb;exact fx _ hb
 ·rw[e]at hb;unfold rz at hb;rw[n_,hf]at hb;exact hb
theorem Inv.Am(I:Inv X pins σ H s):∀b∈rz X.stack,H b=none:=fun b hb=>by
 rcases br.mp (I.vN b hb) with e|hb
 ·rw[e];exact I.free
 ·obtain⟨_,o,ho,_⟩:=I.ok.vM.mem hb;exact I.base.free b o ho (I.ok.frf b hb) fun z=>I.ok.Xj b z hb
theorem Inv.step{g':Array kS}{t':Nat}{d':Drawn}{ch:List ae}(I:Inv X pins σ H s)
  (hch:∀b∈ch,(b∈X.ex∨X.s₀.heap.objs.size<=b)/\b≠X.env.locals/\(∀x c,X.env.cells.lookup x=some c->c≠b)/\∀p∈X.pn++pins,p.1≠b)
  (keep:∀b o,b≠X.env.locals->b∉X.fs->b∉ch->s.heap.get? b=some o->H b=none->h'.get? b=some o)
  (slot:∀b o,b≠X.env.locals->b∈X.fs->b∉ch->s.heap.get? b=some o->H b=none->∃sl,h'.get? b=some { o with slots:=sl }) (free:∀b o,b∉ch->s.heap.get? b=some o->H b=none->H' b=none)
  (there:∀b o,b∉ch->s.heap.get? b=some o->∃o',h'.get? b=some o')
  (tups:∀b xs,H b=some (.tup xs)->H' b=some (.tup xs)) (vK:∀b o u,H b=some (.za o u)->H' b=some (.za o u)) (yG:∀b ps,H b=some (.tbl ps)->∃more,H' b=some (.tbl (ps++more)))
  (ns:∀m,s.heap.Ns X.env.locals m->h'.Ns X.env.locals m) (hok:uR X.prog X.w H' h') (hg:i8 g') :
  Inv X pins σ H' { s with heap:=h',gens:=g',drawn:=d',toks:=t' }:=by
 have neL:∀b o,X.s₀.heap.get? b=some o->b≠X.env.locals:=fun b o e=>cn (dA (bu e) I.ok.above);have neC:∀b o,X.s₀.heap.get? b=some o->b∉X.ex->b∉ch:=fun b o e hx hb=>by
  rcases(hch b hb).1 with z|z
  ·exact hx z
  ·exact absurd (dA (bu e) z) (eQ _)
 have cellK:∀x c,X.env.cells.lookup x=some c->∀v,s.heap.IsCell c v->h'.IsCell c v:=fun x c e v ⟨o,ho,hd⟩=>by
  have Kh:c∉ch:=fun z=>(hch c z).2.2.1 x c e rfl;by_cases hc:c∈X.fs
  ·obtain⟨sl,q⟩:=slot c o (I.cne x c e) hc Kh ho (I.nM x c e);exact⟨_,q,hd⟩
  ·exact⟨o,keep c o (I.cne x c e) hc Kh ho (I.nM x c e),hd⟩
 refine⟨I.ok,I.os,hg,⟨fun b o e n hb hx=>?_,fun b o e n hb hx=>?_,fun b o e n hx=>?_,fun b o e hx=>?_,fun b xs e=>tups b xs (I.base.tups b xs e),fun b o xs e=>vK b o xs (I.base.vK b o xs e),fun b ps e=>?_⟩,?_,fun x c e=>?_,?_,fun x c e=>?_,fun p hp=>?_,hok,I.len⟩
 ·exact keep b o (neL b o e) hb (neC b o e hx) (I.base.keep b o e n hb hx) (I.base.free b o e n hx)
 ·obtain⟨sl,e1⟩:=I.base.slot b o e n hb hx;obtain⟨sl',e2⟩:=slot b _ (neL b o e) hb (neC b o e hx) e1 (I.base.free b o e n hx);exact⟨sl',e2⟩
 ·obtain⟨o',e1⟩:=I.base.there b o e hx;exact free b o' (neC b o e hx) e1 (I.base.free b o e n hx)
 ·obtain⟨o',e1⟩:=I.base.there b o e hx;exact there b o' (neC b o e hx) e1
 ·obtain⟨m1,e1⟩:=I.base.yG b ps e;obtain⟨m2,e2⟩:=yG b _ e1;exact⟨m1++m2,by rw[e2,Array.append_assoc]⟩
 ·obtain⟨m,hn,hl⟩:=I.loc;refine⟨m,ns m hn,fun i x v e1 e2 e3=>?_⟩;obtain⟨u,r,l⟩:=hl i x v e1 e2 e3;refine⟨u,r,?_⟩;rcases l with l|⟨k,c,e,z⟩
  ·exact .inl l
  ·exact .inr ⟨k,c,e,cellK x c e _ z⟩
 ·obtain⟨v,z⟩:=I.cell x c e;exact⟨v,cellK x c e v z⟩
 ·obtain⟨m,⟨o,_,_,ho,_⟩,_⟩:=I.loc;exact free _ o (fun z=>(hch _ z).2.1 rfl) ho I.free
 ·obtain⟨v,o,ho,hd⟩:=I.cell x c e;exact free c o (fun z=>(hch c z).2.2.1 x c e rfl) ho (I.nM x c e)
 ·obtain⟨e,n,ne,nf,d⟩:=I.pin p hp;have Kh:p.1∉ch:=fun z=>(hch p.1 z).2.2.2 p hp rfl;exact⟨keep p.1 p.2 ne nf Kh e n,free p.1 p.2 Kh e n,ne,nf,d⟩
theorem Inv.un{t':Nat}(I:Inv X pins σ H s)(u:Un X.fs [] H H' s.heap h')(hok:uR X.prog X.w H' h'):Inv X pins σ H' { s with heap:=h',toks:=t' }:=by
 obtain⟨m,⟨o,es,ep,ho,r⟩,_⟩:=id I.loc;obtain⟨sl,hL⟩:=u.any ho I.free (by simp);exact I.step (g':=s.gens) (d':=s.drawn) (ch:=[]) (fun _ z=>nomatch z) (fun b o _ hb _ e n=>u.keep b o e n hb (by simp)) (fun b o _ hb _ e n=>u.slot b o e n hb (by simp)) (fun b o _ e n=>u.free b o e n (by simp)) (fun b o _ e=>u.there b o e (by simp)) u.tups u.vK u.yG (fun m' hm=>by
  obtain⟨o',es',ep',ho',r'⟩:=hm;rw[ho]at ho';cases ho';exact⟨_,es',ep',hL,r'⟩) hok I.bare
theorem Inv.call{g':Array kS}{t':Nat}{d':Drawn}{ch:List ae}(I:Inv X pins σ H s)(u:Un (rz X.stack) ch H H' s.heap h')(hok:uR X.prog X.w H' h')(hg:i8 g')
  (hch:∀b∈ch,(b∈X.ex∨X.s₀.heap.objs.size<=b)/\b≠X.env.locals/\(∀x c,X.env.cells.lookup x=some c->c≠b)/\∀p∈X.pn++pins,p.1≠b) :
  Inv X pins σ H' { s with heap:=h',gens:=g',drawn:=d',toks:=t' }:=by
 obtain⟨m,⟨o,es,ep,ho,r⟩,_⟩:=id I.loc;obtain⟨sl,hL⟩:=u.any ho I.free fun z=>(hch _ z).2.1 rfl;exact I.step (ch:=ch) hch (fun b o hL hb hc e n=>u.keep b o e n (fun z=>(br.mp (I.vN b z)).elim hL hb) hc) (fun b o _ _ hc e n=>u.any e n hc) (fun b o hc e n=>u.free b o e n hc) (fun b o hc e=>u.there b o e hc) u.tups u.vK u.yG (fun m' hm=>by
  obtain⟨o',es',ep',ho',r'⟩:=hm;rw[ho]at ho';cases ho';exact⟨_,es',ep',hL,r'⟩) hok hg
theorem Inv.turned{t':Nat}{it:ae}(I:Inv X pins σ H s)(k:∀b o,b≠it->s.heap.get? b=some o->h'.get? b=some o)(hn:H it=none)(hL:it≠X.env.locals)
  (h1:it∈X.ex∨X.s₀.heap.objs.size<=it) (h2:∀x c,X.env.cells.lookup x=some c->c≠it) (h3:∀p∈X.pn++pins,p.1≠it):Inv X pins σ H { s with heap:=h',toks:=t' }:=by
 have nit:∀b u,H b=some u->b≠it:=fun b u e z=>by rw[z,hn]at e;cases e
 refine I.step (g':=s.gens) (d':=s.drawn) (ch:=[it]) (fun b hb=>?_) (fun b o _ _ hc e _=>k b o (fun z=>hc (by simp[z])) e) (fun b o _ _ hc e _=>⟨o.slots,k b o (fun z=>hc (by simp[z])) e⟩) (fun _ _ _ _ n=>n)
  (fun b o hc e=>⟨o,k b o (fun z=>hc (by simp[z])) e⟩) (fun _ _ e=>e) (fun _ _ _ e=>e) (fun b ps e=>⟨#[],by rw[e];simp⟩) (fun m hm=>?_) (fun b u e=>?_) I.bare
 ·have e:b=it:=by simpa using hb
  subst e;exact⟨h1,hL,h2,h3⟩
 ·obtain⟨o,es,ep,ho,r⟩:=hm;exact⟨o,es,ep,k _ o (bz hL) ho,r⟩
 ·refine(I.hok b u e).stay (fun c v hc q=>k c v ?_ q) (fun _ q=>q) (fun _ _ q=>q) fun _ _ q=>q;rcases hc with z|z
  ·rw[z];exact nit b u e
  ·exact nit c _ z
theorem Inv.tok(I:Inv X pins σ H s)(t:Nat):Inv X pins σ H { s with toks:=t }:=I.un (h':=s.heap) (t':=t) Un.refl I.hok
theorem Inv.kept{t':Nat}(I:Inv X pins σ H s)(k:∀b u,s.heap.get? b=some u->h'.get? b=some u):Inv X pins σ H { s with heap:=h',toks:=t' }:=I.un (Un.kept k) (I.hok.kept k)
theorem Inv.laid{a:ae}{o:HO}{t':Nat}(I:Inv X pins σ H s)(k:∀b u,s.heap.get? b=some u->h'.get? b=some u)(hp:s.heap.objs.size<=a)(new:dD X.prog X.w (upd H a o) h' a o) :
  Inv X pins σ (upd H a o) { s with heap:=h',toks:=t' }:=I.un (Un.laid k hp (I.hok.fresh hp)) (I.hok.laid k hp new)
theorem Inv.write{x e:ae}{o:HO}{t':Nat}(I:Inv X pins σ H s)(mu:Mut (H x))(he:e=x∨H e=some (.own x))(k:∀b u,b≠e->s.heap.get? b=some u->h'.get? b=some u)(heo:∃u,h'.get? e=some u)
  (new:dD X.prog X.w (upd H x o) h' x o):Inv X pins σ (upd H x o) { s with heap:=h',toks:=t' }:=I.un (Un.write mu he k heo) (I.hok.write mu he k heo new)
theorem Inv.Ao{vO:List (ae×Obj)}(I:Inv X pins σ H s)(h:∀p∈vO,s.heap.get? p.1=some p.2/\H p.1=none/\p.1≠X.env.locals/\p.1∉X.fs/\∀v,p.2.data≠.cell v):Inv X vO σ H s :=
 ⟨I.ok,I.os,I.bare,I.base,I.loc,I.cell,I.free,I.nM,fun p hp=>(du.mp hp).elim (fun z=>I.pin p (ie _ z)) (h p),I.hok,I.len⟩
theorem Ea{N:List Str}(hN:N.Nodup){i j:Nat}{x:Str}(a:N[i]?=some x)(b:N[j]?=some x):i=j:=by obtain⟨h1,e1⟩:=dm.mp a;obtain⟨h2,e2⟩:=dm.mp b;exact(List.getElem_inj hN).mp (e1.trans e2.symm)
theorem Nk{M:Model}{A:aT}{E:aa->af->Prop}{i:Nat}{x:Str}{v:V}{u:aa}{Q:Unit->af->Prop}(I:Inv X pins σ H s)(hN:X.N.Nodup)(hi:X.N[i]?=some x)(hx:Kg X.env.scope x)(r:RelV v u)
  (h:∀s',Inv X pins (σ.set i (some v)) H s'->(∃a,dQ a s.heap s'.heap/\(a=X.env.locals∨X.env.cells.lookup x=some a))->Q () s') (hf:X.fn x=true∨X.env.scope.names.lookup x=some .local:=by first|exact .inl rfl|exact .inr rfl|assumption):ar M A (storeName X.env x u) Q E s:=by
 obtain⟨m,hn,hl⟩:=id I.loc;have hcls:(X.env.scope.kind == .class || (X.env.scope.kind == .module && X.env.locals != X.env.globals))=false:=by rw[I.ok.kind];rfl
 have hiσ:i < σ.length:=by rw[I.len];exact(dm.mp hi).1
 have cne:=I.cne;have tracked:∀{a:ae}{h':ay},(∃o,s.heap.get? a=some o/\H a=none)->dQ a s.heap h'->uR X.prog X.w H h':=fun {a h'} ha hs b ob e=>by
  obtain⟨_,_,hfree⟩:=ha;refine(I.hok b ob e).stay (fun c w' hc q=>(hs.2 c ?_).trans q) (fun _ q=>q) (fun _ _ q=>q) fun _ _ q=>q;rintro rfl;rcases hc with rfl|hc
  ·rw[hfree]at e;cases e
  ·rw[hfree]at hc;cases hc
 rcases hx with hk|hk
 ·refine wpAny_storeName_local hk hn (fun h' hn' hs=>?_) hcls;obtain⟨oL,_,_,hoL,_⟩:=id hn;refine h _ ⟨I.ok,I.os,I.bare,⟨fun b o e n hb hx=>?_,fun b o e n hb hx=>?_,I.base.free,fun b o e hx=>?_,I.base.tups,I.base.vK,I.base.yG⟩,⟨_,hn',fun j y v' e1 e2 e3=>?_⟩,fun y c e=>?_,I.free,I.nM,fun p hp=>?_,tracked ⟨oL,hoL,I.free⟩ hs,by simpa using I.len⟩ ⟨_,hs,.inl rfl⟩
  ·exact(hs.2 b (cn (dA (bu e) I.ok.above))).trans (I.base.keep b o e n hb hx)
  ·obtain⟨sl,e1⟩:=I.base.slot b o e n hb hx;exact⟨sl,(hs.2 b (cn (dA (bu e) I.ok.above))).trans e1⟩
  ·obtain⟨o',e1⟩:=I.base.there b o e hx;exact⟨o',(hs.2 b (cn (dA (bu e) I.ok.above))).trans e1⟩
  ·by_cases hj:j=i
   ·subst hj;rw[hi]at e1;cases e1;rw[dC hiσ]at e2;cases e2;exact⟨u,r,.inl ⟨hk,by simp⟩⟩
   ·rw[de (bz hj)]at e2;obtain⟨u',r',q⟩:=hl j y v' e1 e2 e3;refine⟨u',r',?_⟩;rcases q with ⟨k,e⟩|⟨k,c,e,z⟩
    ·refine .inl ⟨k,?_⟩;have:y≠x:=fun e=>hj (Ea hN e1 (e▸hi));simp[this,e]
    ·exact .inr ⟨k,c,e,z.sameBut hs (cne y c e)⟩
  ·obtain⟨w',z⟩:=I.cell y c e;exact⟨w',z.sameBut hs (cne y c e)⟩
  ·obtain⟨e,n,ne,nf,d⟩:=I.pin p hp;exact⟨(hs.2 p.1 ne).trans e,n,ne,nf,d⟩
 ·have hfn:X.fn x=true:=by
   rcases hf with z|z
   ·exact z
   ·rw[z]at hk;cases hk
  obtain⟨c,hc⟩:=I.ok.has x (.inl hk);obtain⟨w',z⟩:=I.cell x c hc;refine wpAny_storeName_cell I.ok.kind hk hc z (fun h' hc' hs=>?_);obtain⟨oc,hoc,ahb⟩:=id z;refine h { s with heap:=h' } ⟨I.ok,I.os,I.bare,⟨fun b o e n hb hx=>?_,fun b o e n hb hx=>?_,I.base.free,fun b o e hx=>?_,I.base.tups,I.base.vK,I.base.yG⟩,⟨m,hn.sameBut hs (bz (cne x c hc)),fun j y v' e1 e2 e3=>?_⟩,fun y c' e=>?_,I.free,I.nM,fun p hp=>?_,tracked ⟨oc,hoc,I.nM x c hc⟩ hs,by simpa using I.len⟩ ⟨c,hs,.inr hc⟩
  ·exact(hs.2 b (cn (dA (bu e) (I.ok.cab x c hfn hc)))).trans (I.base.keep b o e n hb hx)
  ·obtain⟨sl,e1⟩:=I.base.slot b o e n hb hx;exact⟨sl,(hs.2 b (cn (dA (bu e) (I.ok.cab x c hfn hc)))).trans e1⟩
  ·obtain⟨o',e1⟩:=I.base.there b o e hx;exact⟨o',(hs.2 b (cn (dA (bu e) (I.ok.cab x c hfn hc)))).trans e1⟩
  ·by_cases hj:j=i
   ·subst hj;rw[hi]at e1;cases e1;rw[dC hiσ]at e2;cases e2;exact⟨u,r,.inr ⟨.inl hk,c,hc,hc'⟩⟩
   ·rw[de (bz hj)]at e2;obtain⟨u',r',q⟩:=hl j y v' e1 e2 e3;refine⟨u',r',?_⟩;rcases q with q|⟨k,c',e,z'⟩
    ·exact .inl q
    ·refine .inr ⟨k,c',e,z'.sameBut hs ?_⟩;rintro rfl;exact hj (Ea hN e1 (I.ok.inj _ _ _ e hc▸hi))
  ·by_cases hcc:c'=c
   ·subst hcc;exact⟨_,hc'⟩
   ·obtain⟨w2,z2⟩:=I.cell y c' e;exact⟨w2,z2.sameBut hs hcc⟩
  ·obtain⟨e,n,ne,nf,d⟩:=I.pin p hp;refine⟨(hs.2 p.1 ?_).trans e,n,ne,nf,d⟩;intro q;rw[q,hoc]at e;have q':oc=p.2:=dE e;exact d w' (by rw[<- q'];exact ahb)
theorem Eb{M:Model}{A:aT}{E:aa->af->Prop}{i:Nat}{x:Str}{v:V}{u:aa}{Q:Unit->af->Prop}(I:Inv X pins σ H s)(hN:X.N.Nodup)(hi:X.N[i]?=some x)(hx:Kg X.env.scope x)(r:RelV v u)
  (h:∀s',Inv X pins (σ.set i (some v)) H s'->Q () s') (hf:X.fn x=true∨X.env.scope.names.lookup x=some .local:=by first|exact .inl rfl|exact .inr rfl|assumption):ar M A (storeName X.env x u) Q E s :=
 Nk I hN hi hx r (fun s' I' _=>h s' I') hf
theorem Inv.call'{s':af}{ch:List ae}(I:Inv X pins σ H s)(ho:s'.os=s.os)(u:Un (rz X.stack) ch H H' s.heap s'.heap)(hok:uR X.prog X.w H' s'.heap)(hg:i8 s'.gens)
  (hch:∀b∈ch,(b∈X.ex∨X.s₀.heap.objs.size<=b)/\b≠X.env.locals/\(∀x c,X.env.cells.lookup x=some c->c≠b)/\∀p∈X.pn++pins,p.1≠b):Inv X pins σ H' s':=by
 obtain⟨h',g',d',t',o'⟩:=s';have e:o'=s.os:=ho;subst e;exact I.call (g':=g') (t':=t') (d':=d') u hok hg hch
end
noncomputable abbrev XK:=aa->Option ae->Hp->Prop
noncomputable abbrev St:=List (Option V)
noncomputable abbrev VK:=V->Hp->Prop
noncomputable abbrev TE:=St->Hp->VK->Prop
noncomputable abbrev TT:=St->Hp->(Bool->Hp->Prop)->Prop
noncomputable abbrev TA:=St->Hp->(List V->Hp->Prop)->Prop
structure Ends where
 nx:St->Hp->Prop
 rt:VK
 bk:St->Hp->Prop:=fun _ _=>False
 ct:St->Hp->Prop:=fun _ _=>False
noncomputable abbrev TS:=Ends->St->Hp->Prop
noncomputable def EP(X:Cx)(pins:List (ae×Obj))(σ:St)(Q:VK)(u:aa)(s':af):Prop:=∃v H',Inv X pins σ H' s'/\RelV v u/\Q v H'
noncomputable def TP(X:Cx)(pins:List (ae×Obj))(σ:St)(Q:Bool->Hp->Prop)(b:Bool)(s':af):Prop:=∃H',Inv X pins σ H' s'/\Q b H'
noncomputable def AP(X:Cx)(pins:List (ae×Obj))(σ:St)(Q:List V->Hp->Prop)(us:List aa)(s':af):Prop:=∃vs H',Inv X pins σ H' s'/\Vals vs us/\Q vs H'
noncomputable def SP(X:Cx)(pins:List (ae×Obj))(D:Ends)(f:Flow)(s':af):Prop :=
 match f with
 | .next=>∃σ' H',Inv X pins σ' H' s'/\D.nx σ' H'
 | .brk=>∃σ' H',Inv X pins σ' H' s'/\D.bk σ' H'
 | .cont=>∃σ' H',Inv X pins σ' H' s'/\D.ct σ' H'
 | .ret u=>∃v σ' H',Inv X pins σ' H' s'/\RelV v u/\D.rt v H'
noncomputable def PE(X:Cx)(e:ah)(t:TE):Prop :=
 ∀(pins:List (ae×Obj)) (s:af) (σ:St) (H:Hp) (Q:VK),Inv X pins σ H s->t σ H Q->ar (aw X.prog X.w) X.A (bb e X.env) (EP X pins σ Q) X.xe s
noncomputable def PT(X:Cx)(e:ah)(t:TT):Prop :=
 ∀(pins:List (ae×Obj)) (s:af) (σ:St) (H:Hp) (Q:Bool->Hp->Prop),Inv X pins σ H s->t σ H Q->ar (aw X.prog X.w) X.A (isTrue e X.env (bb e X.env)) (TP X pins σ Q) X.xe s
noncomputable def PW(X:Cx)(e:ah)(t:TT):Prop :=
 ∀(whole:Sem aa) (pins:List (ae×Obj)) (s:af) (σ:St) (H:Hp) (Q:Bool->Hp->Prop),Inv X pins σ H s->t σ H Q->ar (aw X.prog X.w) X.A (isTrue e X.env whole) (TP X pins σ Q) X.xe s
theorem PW.pt{X:Cx}{e:ah}{t:TT}(h:PW X e t):PT X e t:=h _
noncomputable def PA(X:Cx)(es:List ah)(t:TA):Prop :=
 ∀(pos:Pos) (pins:List (ae×Obj)) (s:af) (σ:St) (H:Hp) (Q:List V->Hp->Prop),Inv X pins σ H s->t σ H Q->ar (aw X.prog X.w) X.A (spliced (df pos (ba es X.env))) (AP X pins σ Q) X.xe s
noncomputable def PS(X:Cx)(st:bo)(t:TS):Prop :=
 ∀(pins:List (ae×Obj)) (s:af) (σ:St) (H:Hp) (D:Ends),Inv X pins σ H s->t D σ H->ar (aw X.prog X.w) X.A (exec st X.env) (SP X pins D) X.xe s
noncomputable def yH(X:Cx)(st:List bo)(t:TS):Prop :=
 ∀(pins:List (ae×Obj)) (s:af) (σ:St) (H:Hp) (D:Ends),Inv X pins σ H s->t D σ H->ar (aw X.prog X.w) X.A (execs st X.env) (SP X pins D) X.xe s
theorem gO{α:Type}{t:Sem α}{Q Q':α->af->Prop}{M:Model}{A:aT}{E:aa->af->Prop}{s:af}(h:ar M A t Q E s)(hQ:∀a s,Q a s->Q' a s):ar M A t Q' E s:=eM h hQ fun _ _ x=>x
section
variable{X:Cx}
noncomputable def Aq(i:Nat):TE:=fun σ H Q=>∃v,σ[i]?=some (some v)/\Q v H
noncomputable def tC(v:V):TE:=fun _ H Q=>Q v H
theorem gP{i:Nat}{x:Str}{pos:Pos}(hN:X.N[i]?=some x)(hv:DW X.env.scope x)(hd:pK x:=by decide)(hcd:HF x:=by decide):PE X (.Name x pos) (Aq i):=by
 intro pins s σ H Q I h;obtain⟨v,e,h⟩:=h;obtain⟨m,hn,hl⟩:=I.loc;obtain⟨u,r,l⟩:=hl i x v hN e hv;have dX:EP X pins σ Q u s:=⟨v,H,I,r,h⟩
 rcases l with ⟨hk,hm⟩|⟨hk,c,hc,hcell⟩
 ·exact wpAny_Name (wpAny_loadName_local I.ok.kind hk hn hm dX) hd
 ·rcases hk with hk|hk
  ·exact wpAny_Name (wpAny_loadName_cell I.ok.kind hk hc hcell dX) hd
  ·exact wpAny_Name (wpAny_loadName_free I.ok.kind hk hc hcell dX hcd) hd
theorem abg{i j pos}:PE X (.Constant (.int i) j pos) (tC (.int i)):=fun _ _ _ H _ I h=>wpAny_Constant_int ⟨.int i,H,I.tok _,⟨_,rfl⟩,h⟩
theorem aer{b j pos}:PE X (.Constant (.bool b) j pos) (tC (.bl b)):=fun _ _ _ H _ I h=>Constant_bool ⟨.bl b,H,I,rfl,h⟩
theorem abh{j pos}:PE X (.Constant .none j pos) (tC .non):=fun _ _ _ H _ I h=>Constant_none ⟨.non,H,I,rfl,h⟩
theorem abj{x j pos}:PE X (.Constant (.str x) j pos) (tC (.str x)):=fun _ _ _ H _ I h=>Calls.Constant_str ⟨.str x,H,I.tok _,⟨_,rfl⟩,h⟩
noncomputable def Gl(X:Cx)(x:Str):Prop:=X.env.kindOf x=some .globalImplicit
theorem vd{E:aa->af->Prop}{pins:List (ae×Obj)}{s:af}{σ:St}{H:Hp}{x:Str}{u:aa}{pos:Pos}{Q:aa->af->Prop}(I:Inv X pins σ H s)(hg:Gl X x)(hm:X.mg x=some u)(h:Q u s)
  (hd:pK x:=by decide):ar (aw X.prog X.w) X.A (bb (.Name x pos) X.env) Q E s :=
 Calls.Name_function_global I.ok.kind hg (Calls.loadGlobal_global (by rw[I.ok.glob];exact I.mod.glob.keeps I.bk) hm h) hd
theorem tM{E:aa->af->Prop}{pins:List (ae×Obj)}{s:af}{σ:St}{H:Hp}{x:Str}{u:aa}{pos:Pos}{Q:aa->af->Prop}(I:Inv X pins σ H s)(hg:Gl X x)(hm:X.mg x=none)(hv:ic x=some u)(h:Q u s)
  (hn:x≠"__name__":=by decide) (hd:pK x:=by decide):ar (aw X.prog X.w) X.A (bb (.Name x pos) X.env) Q E s:=by
 obtain⟨mb,h1,h2⟩:=I.mod.blt;exact Calls.Name_function_global I.ok.kind hg (Calls.loadGlobal_builtin (by rw[I.ok.glob];exact I.mod.glob.keeps I.bk) hm (by rw[I.ok.blt];exact h1.keeps I.bk) ((h2 x hn).trans hv) h) hd
theorem Xk{x:Str}{v:V}{u:aa}{pos:Pos}(hg:Gl X x)(hm:X.mg x=some u)(r:RelV v u)(hd:pK x:=by decide):PE X (.Name x pos) (tC v) :=
 fun _ _ _ H _ I h=>vd I hg hm ⟨v,H,I,r,h⟩ hd
theorem Xl{x:Str}{v:V}{u:aa}{pos:Pos}(hg:Gl X x) (hm:X.mg x=none) (hv:ic x=some u) (r:RelV v u) (hn:x≠"__name__":=by decide) (hd:pK x:=by decide):PE X (.Name x pos) (tC v) :=
 fun _ _ _ H _ I h=>tM I hg hm hv ⟨v,H,I,r,h⟩ hn hd
variable{a b:ah}{ta tb:TE}{pos:Pos}
noncomputable def tB(t:TE):TT:=fun σ H Q=>t σ H fun x H1=>∃c,x=.bl c/\Q c H1
theorem abk{e:ah}{t:TE}(h:PE X e t)(he:∀whole,isTrue e X.env whole=(do let v <- whole;oa e.pos;gf [v] (truthy v)):=by intro _;rfl):PT X e (tB t):=by intro pins s σ H Q I hw;refine isTrue_plain (gO (h pins s σ H _ I hw) fun v s1 ⟨x,H1,I1,r1,q1⟩=>?_) (he _);obtain⟨d,rfl,q⟩:=q1;cases r1;exact og ⟨H1,I1,q⟩
variable{tA tB':TT}{rest:List ah}
noncomputable def ahc(t u:TT):TT:=fun σ H Q=>t σ H fun c H1=>if c=true then u σ H1 Q else Q false H1
noncomputable def tOr(t u:TT):TT:=fun σ H Q=>t σ H fun c H1=>if c=true then Q true H1 else u σ H1 Q
noncomputable def ahd(t:TT):TT:=fun σ H Q=>t σ H fun c H1=>Q (!c) H1
theorem Xm(ha:PT X a tA):PW X (.BoolOp .And [a] pos) tA:=by
 intro wh pins s σ H Q I h;refine isTrue_and (gO (ha pins s σ H Q I h) fun c s1 e=>?_);cases c with
 |true=>exact isTrue_and_nil e
 |false=>exact e
theorem abl(ha:PT X a tA):PW X (.BoolOp .Or [a] pos) tA:=by
 intro wh pins s σ H Q I h;refine isTrue_or (gO (ha pins s σ H Q I h) fun c s1 e=>?_);cases c with
 |false=>exact isTrue_or_nil e
 |true=>exact e
theorem abm(ha:PT X a tA)(hb:PW X (.BoolOp .And (b::rest) pos) tB'):PW X (.BoolOp .And (a::b::rest) pos) (ahc tA tB'):=by
 intro wh pins s σ H Q I h;refine isTrue_and (gO (ha pins s σ H _ I h) fun c s1 dF=>?_);obtain⟨H1,I1,q1⟩:=dF;cases c with
 |true=>exact hb wh pins s1 σ H1 Q I1 q1
 |false=>exact⟨H1,I1,q1⟩
theorem aes(ha:PT X a tA)(hb:PW X (.BoolOp .Or (b::rest) pos) tB'):PW X (.BoolOp .Or (a::b::rest) pos) (tOr tA tB'):=by
 intro wh pins s σ H Q I h;refine isTrue_or (gO (ha pins s σ H _ I h) fun c s1 dF=>?_);obtain⟨H1,I1,q1⟩:=dF;cases c with
 |true=>exact⟨H1,I1,q1⟩
 |false=>exact hb wh pins s1 σ H1 Q I1 q1
theorem abn(ha:PT X a tA):PT X (.UnaryOp .Not a pos) (ahd tA):=by intro pins s σ H Q I h;exact isTrue_not (ha pins s σ H (fun c H1=>Q (!c) H1) I h)
noncomputable def aeu(ta tb:TE):TE:=fun σ H Q=>ta σ H fun x H1=>∃c,x=.bl c/\if c=true then tb σ H1 Q else Q (.bl false) H1
noncomputable def aev(ta:TE):TE:=fun σ H Q=>ta σ H fun x H1=>∃c,x=.bl c/\Q (.bl (!c)) H1
theorem abo{op}{t:TE}(h:PE X a t):PE X (.BoolOp op [a] pos) t:=fun pins s σ H Q I hw=>BoolOp_one (h pins s σ H Q I hw)
theorem abp(ha:PE X a ta)(hb:PE X (.BoolOp .And (b::rest) pos) tb):PE X (.BoolOp .And (a::b::rest) pos) (aeu ta tb):=by
 intro pins s σ H Q I h;refine BoolOp_and (gO (ha pins s σ H _ I h) fun v s1 dF=>?_);obtain⟨x,H1,I1,r1,q1⟩:=dF;obtain⟨c,rfl,q1⟩:=q1;cases r1;refine og ?_;cases c with
 |true=>exact hb pins s1 σ H1 Q I1 q1
 |false=>exact⟨.bl false,H1,I1,rfl,q1⟩
theorem abq(ha:PE X a ta):PE X (.UnaryOp .Not a pos) (aev ta):=by intro pins s σ H Q I h;refine UnaryOp_ (gO (ha pins s σ H _ I h) fun v s1 dF=>?_);obtain⟨x,H1,I1,r1,q1⟩:=dF;obtain⟨c,rfl,q1⟩:=q1;cases r1;exact not_of (og ⟨.bl (!c),H1,I1,rfl,q1⟩)
end
noncomputable def jz(K:ai)(H:Hp)(a:ae)(xs:List V):Prop :=
 Rd H a (.lst xs) ∨
  ∃(o:Obj) (its:Array aa) (n:Nat),K.lookup a=some o/\o.cls=.type "list"/\o.dict=none/\o.data=.seq its n/\its.size<=sizeLine/\Vals xs its.toList
noncomputable def iV(K:ai)(H:Hp)(a:ae)(xs:List V):Prop :=
 Rd H a (.tup xs) ∨
  ∃(o:Obj) (its:Array aa) (n:Nat),K.lookup a=some o/\o.cls=.type "tuple"/\o.data=.seq its n/\its.size<=sizeLine/\Vals xs its.toList
noncomputable def ahe:aa->Option V
 | .none=>some .non
 | .bool b=>some (.bl b)
 | .int i _=>some (.int i)
 | .str x _=>some (.str x)
 | .bytes b _=>some (.byt b)
 | .float b _=>some (.flt b)
 | .ref a=>some (.ref a)
 | .type n=>some (.ty n)
 |_=>none
theorem RelV.abs{x:V}{u:aa}(r:RelV x u):ahe u=some x:=by
 cases x with
 |non=>cases r;rfl
 |bl _=>cases r;rfl
 |int _=>obtain⟨t,rfl⟩:=r;rfl
 |str _=>obtain⟨t,rfl⟩:=r;rfl
 |byt _=>obtain⟨t,rfl⟩:=r;rfl
 |flt _=>obtain⟨t,rfl⟩:=r;rfl
 |ref _=>cases r;rfl
 |ty _=>cases r;rfl
theorem RelV.inj{x y:V}{u:aa}(r:RelV x u)(q:RelV y u):x=y:=dE (r.abs.symm.trans q.abs)
theorem Vals.inj:∀{xs ys:List V}{us:List aa},Vals xs us->Vals ys us->xs=ys
 |_,_,_,.nil,.nil=>rfl
 |_,_,_,.cons r t,.cons r' t'=>by rw[r.inj r',Vals.inj t t']
section
variable{X:Cx}{pins:List (ae×Obj)}{σ:St}{H:Hp}{s:af}{a:ae}{xs ys:List V}
theorem jz.of{K:ai}(h:H a=some (.lst xs)):jz K H a xs:=.inl (.inl h)
theorem iV.of{K:ai}(h:H a=some (.tup xs)):iV K H a xs:=.inl (.inl h)
theorem Inv.list(I:Inv X pins σ H s)(h:jz X.K H a xs):∃its:List aa,Vals xs its/\PlainL s.heap a its.toArray/\xs.length<=sizeLine:=by
 rcases h with h|⟨o,its,n,hk,hc,hd,hs,hz,r⟩
 ·obtain⟨z,its,n,r,e⟩:=h.ok I.hok;exact⟨its,r,⟨_,n,e,rfl,rfl,rfl⟩,z⟩
 ·refine⟨its.toList,r,⟨o,n,I.DY a o hk,hc,hd,by simpa using hs⟩,?_⟩;have e:=r.length;simp only[ke]at e;lia
theorem Inv.tuple(I:Inv X pins σ H s)(h:iV X.K H a xs):∃its:List aa,Vals xs its/\IsTup s.heap a its.toArray/\xs.length<=sizeLine:=by
 rcases h with h|⟨o,its,n,hk,hc,hs,hz,r⟩
 ·obtain⟨z,its,r,p⟩:=h.ok I.hok;exact⟨its,r,p,z⟩
 ·refine⟨its.toList,r,⟨o,I.DY a o hk,hc,n,by simpa using hs⟩,?_⟩;have e:=r.length;simp only[ke]at e;lia
theorem Inv.rA(I:Inv X pins σ H s)(h:jz X.K H a xs)(h':jz X.K H a ys):xs=ys:=by
 obtain⟨its,r,⟨o,n,e,_,_,d⟩,_⟩:=I.list h;obtain⟨its',r',⟨o',n',e',_,_,d'⟩,_⟩:=I.list h';rw[e]at e';cases e';rw[d]at d';injection d' with d1 _;have:its=its':=by simpa using congrArg Array.toList d1
 subst this;exact r.inj r'
theorem Inv.pL(I:Inv X pins σ H s)(h:iV X.K H a xs)(h':iV X.K H a ys):xs=ys:=by
 obtain⟨its,r,⟨o,e,_,n,d⟩,_⟩:=I.tuple h;obtain⟨its',r',⟨o',e',_,n',d'⟩,_⟩:=I.tuple h';rw[e]at e';cases e';rw[d]at d';injection d' with d1 _;have:its=its':=by simpa using congrArg Array.toList d1
 subst this;exact r.inj r'
end
noncomputable abbrev Cx.wish(X:Cx)(E:aa->af->Prop):Cx:={ X with xe:=E }
noncomputable abbrev Cx.Xn(X:Cx):Cx:=X.wish fun _ _=>False
theorem Cx.Ok.wish{X:Cx}(ok:X.Ok)(E:aa->af->Prop):(X.wish E).Ok :=
 ⟨ok.mod,ok.kind,ok.glob,ok.blt,ok.above,ok.inj,ok.has,ok.cab,ok.hd,ok.frames,ok.stk,ok.exf,ok.bs,ok.bsz,ok.DX,ok.Xj,ok.vM,ok.frf⟩
theorem Cx.Ok.jM{X:Cx}{E:aa->af->Prop}(ok:(X.wish E).Ok):X.Ok :=
 ⟨ok.mod,ok.kind,ok.glob,ok.blt,ok.above,ok.inj,ok.has,ok.cab,ok.hd,ok.frames,ok.stk,ok.exf,ok.bs,ok.bsz,ok.DX,ok.Xj,ok.vM,ok.frf⟩
section
variable{X:Cx}{pins:List (ae×Obj)}{σ:St}{H:Hp}{s:af}{E:aa->af->Prop}
theorem Inv.wish(I:Inv X pins σ H s)(E:aa->af->Prop):Inv (X.wish E) pins σ H s:=⟨I.ok.wish E,I.os,I.bare,I.base,I.loc,I.cell,I.free,I.nM,I.pin,I.hok,I.len⟩
theorem Inv.jM(I:Inv (X.wish E) pins σ H s):Inv X pins σ H s:=⟨I.ok.jM,I.os,I.bare,I.base,I.loc,I.cell,I.free,I.nM,I.pin,I.hok,I.len⟩
theorem SP.jM{D:Ends}{f:Flow}{s':af}(h:SP (X.wish E) pins D f s'):SP X pins D f s':=by
 cases f with
 |next=>obtain⟨σ',H',I,q⟩:=h;exact⟨σ',H',I.jM,q⟩
 |brk=>obtain⟨σ',H',I,q⟩:=h;exact⟨σ',H',I.jM,q⟩
 |cont=>obtain⟨σ',H',I,q⟩:=h;exact⟨σ',H',I.jM,q⟩
 |ret u=>obtain⟨v,σ',H',I,r,q⟩:=h;exact⟨v,σ',H',I.jM,r,q⟩
theorem PE.Xn{e:ah}{t:TE}(h:PE X.Xn e t):PE X e t:=fun pins s σ H Q I hw =>
 eM (h pins s σ H Q (I.wish _) hw) (fun _ _ ⟨v,H',I',r,q⟩=>⟨v,H',I'.jM,r,q⟩) fun _ _ z=>eR z
end
section
variable{X:Cx}{st:bo}{rest:List bo}{t u:TS}{e:ah}{te:TE}{pos:Pos}
noncomputable def aew:TS:=fun D σ H=>D.nx σ H
noncomputable def ahf(t u:TS):TS:=fun D σ H=>t { D with nx:=u D } σ H
theorem Xo:yH X [] aew:=fun _ _ σ H _ I h=>qc ⟨σ,H,I,h⟩
theorem Ec(h1:PS X st t)(h2:yH X rest u):yH X (st::rest) (ahf t u):=by
 intro pins s σ H D I h;refine wpAny_execs_cons (gO (h1 pins s σ H { D with nx:=u D } I h) fun f s1 q=>?_);cases f with
 |next =>
  obtain⟨σ',H',I',q⟩:=q;exact h2 pins s1 σ' H' D I' q
 |ret v=>exact q
 |brk=>exact q
 |cont=>exact q
theorem Kl(h1:PS X st t):yH X [st] t:=by
 intro pins s σ H D I h;refine wpAny_execs_cons (gO (h1 pins s σ H D I h) fun f s1 q=>?_);cases f with
 |next=>exact qc q
 |ret v=>exact q
 |brk=>exact q
 |cont=>exact q
theorem Inv.quiet{pins:List (ae×Obj)}{σ:St}{H:Hp}{s:af}(I:Inv X pins σ H s):interactive X.env=false:=by simp[interactive,I.ok.kind]
noncomputable def aex(te:TE):TS:=fun D σ H=>te σ H fun _ H1=>D.nx σ H1
theorem pN(he:PE X e te)(hs:eD e none pos.line X.env=pure false:=by rfl):PS X (.Expr e pos) (aex te):=by intro pins s σ H D I h;exact wpAny_Expr_any (gO (he pins s σ H _ I h) fun v s1 ⟨x,H1,I1,r1,q1⟩=>⟨σ,H1,I1,q1⟩) I.quiet hs
noncomputable def ahg(te:TE):TS:=fun D σ H=>te σ H D.rt
theorem Av(he:PE X e te):PS X (.Return (some e) pos) (ahg te):=by intro pins s σ H D I h;exact wpAny_Return_some (gO (he pins s σ H _ I h) fun v s1 ⟨x,H1,I1,r1,q1⟩=>⟨x,σ,H1,I1,r1,q1⟩)
noncomputable def ahh(c:TT)(t u:TS):TS:=fun D σ H=>c σ H fun b H1=>if b=true then t D σ H1 else u D σ H1
theorem aey{c:ah}{a b:List bo}{tc:TT}(hc:PT X c tc)(ha:yH X a t)(hb:yH X b u):PS X (.If c a b pos) (ahh tc t u):=by
 intro pins s σ H D I h;refine wpAny_If (gO (hc pins s σ H _ I h) fun d s1 dF=>?_);obtain⟨H1,I1,q1⟩:=dF;cases d with
 |true=>exact ha pins s1 σ H1 D I1 q1
 |false=>exact hb pins s1 σ H1 D I1 q1
noncomputable def abr:TS:=fun _ _ _=>False
theorem Nm{sts:List bo}:yH X sts abr:=fun _ _ _ _ _ _ h=>h.elim
end
noncomputable abbrev TG:=V->St->Hp->(St->Hp->Prop)->Prop
noncomputable abbrev Xp:=List V->St->Hp->(St->Hp->Prop)->Prop
noncomputable def PG(X:Cx)(target:ah)(t:TG):Prop :=
 ∀(pins:List (ae×Obj)) (s:af) (σ:St) (H:Hp) (v:V) (u:aa) (Q:St->Hp->Prop),Inv X pins σ H s->RelV v u->t v σ H Q ->
  ar (aw X.prog X.w) X.A (assign target X.env u) (fun _ s'=>∃σ' H',Inv X pins σ' H' s'/\Q σ' H') X.xe s
noncomputable def Xb(X:Cx)(ts:List ah)(t:Xp):Prop :=
 ∀(pins:List (ae×Obj)) (s:af) (σ:St) (H:Hp) (vs:List V) (us:List aa) (Q:St->Hp->Prop),Inv X pins σ H s->Vals vs us->t vs σ H Q ->
  ar (aw X.prog X.w) X.A (assignInOrder ((f9 ts X.env).map (·.2)) us) (fun _ s'=>∃σ' H',Inv X pins σ' H' s'/\Q σ' H') X.xe s
noncomputable abbrev Xq:=V->V->V->Hp->(Hp->Prop)->Prop
noncomputable def aez(X:Cx)(t:Xq):Prop :=
 ∀(pins:List (ae×Obj)) (s:af) (σ:St) (H:Hp) (o i v:V) (ov iv u:aa) (Q:Hp->Prop),Inv X pins σ H s->RelV o ov->RelV i iv->RelV v u->t o i v H Q ->
  ar (aw X.prog X.w) X.A (setItem ov iv u) (fun _ s'=>∃H',Inv X pins σ H' s'/\Q H') X.xe s
section
variable{X:Cx}{pos:Pos}
noncomputable def aaj(i:Nat):TG:=fun v σ H Q=>Q (σ.set i (some v)) H
theorem Xr{i:Nat}{x:Str}(hN:X.N.Nodup)(hi:X.N[i]?=some x)(hx:Kg X.env.scope x)(hf:X.fn x=true∨X.env.scope.names.lookup x=some .local:=by first|exact .inl rfl|exact .inr rfl|assumption):PG X (.Name x pos) (aaj i):=by intro pins s σ H v u Q I r h;exact wpAny_assign_Name (Eb I hN hi hx r (fun s' I'=>⟨_,H,I',h⟩) hf)
noncomputable def ahi:Xp:=fun vs σ H Q=>vs=[]/\Q σ H
noncomputable def aeA(t:TG)(u:Xp):Xp:=fun vs σ H Q=>∃v r,vs=v::r/\t v σ H fun σ' H'=>u r σ' H' Q
theorem Xu:Xb X [] ahi:=by intro pins s σ H vs us Q I r h;obtain⟨e,h⟩:=h;subst e;cases r;exact assignInOrder_nil ⟨σ,H,I,h⟩
theorem Qk{e:ah}{es:List ah}{t:TG}{u:Xp}(h1:PG X e t)(h2:Xb X es u)
  (hs:(f9 (e::es) X.env).map (·.2)=assign e X.env::(f9 es X.env).map (·.2):=by rfl):Xb X (e::es) (aeA t u):=by
 intro pins s σ H vs us Q I r h;obtain⟨v,vr,e1,h⟩:=h;subst e1;cases r with
 |cons r rr =>
  rw[hs];refine assignInOrder_cons (gO (h1 pins s σ H _ _ _ I r h) fun _ s1 dF=>?_);obtain⟨σ1,H1,I1,q1⟩:=dF;exact h2 pins s1 σ1 H1 _ _ Q I1 rr q1
noncomputable def gq(K:ai)(n:Nat)(t:Xp):TG:=fun v σ H Q=>∃a xs,v=.ref a/\iV K H a xs/\xs.length=n/\t xs σ H Q
theorem abt{es:List ah}{k:Nat}{t:Xp}{n:Nat}(hc:X.calm=true)(h:Xb X es t)
  (hn:(f9 es X.env).length=n:=by rfl) (hst:(f9 es X.env).findIdx? (·.1)=none:=by rfl):PG X (.Tuple es k pos) (gq X.K n t):=by
 intro pins s σ H v u Q I r hw;obtain⟨a,xs,e1,hq,hl,hw⟩:=hw;subst e1;cases r;obtain⟨its,rv,ht,hz⟩:=I.tuple hq;refine assign_Tuple_tuple (I.ok.hd hc) ht (by simp[hn,<- hl,rv.length]) hst fun h' hx=>?_;have I1:Inv X pins σ H { s with heap:=h' }:=I.kept (t':=s.toks) fun b o e=>hx b o (cn (bu e)) e;exact h pins _ σ H xs _ Q I1 (by simpa using rv) hw
noncomputable def iW(to ti:TE)(t:Xq):TG:=fun v σ H Q=>to σ H fun o H1=>ti σ H1 fun i H2=>t o i v H2 fun H3=>Q σ H3
theorem abu{o i:ah}{to ti:TE}{t:Xq}(ho:PE X o to)(hi:PE X i ti)(hs:aez X t)
  (ha:∀v,assign (.Subscript o i pos) X.env v=(do
   let ov <- gf [v] (bb o X.env)
   let iv <- gf [v,ov] (bb i X.env)
   oa pos
   gf [v,ov,iv] (setItem ov iv v)
   release [v,ov,iv] []):=by intro _;rfl):PG X (.Subscript o i pos) (iW to ti t):=by
 intro pins s σ H v u Q I r h;rw[ha];refine ag (f_ (gO (ho pins s σ H _ I h) fun ov s1 dF=>?_));obtain⟨x,H1,I1,r1,q1⟩:=dF;refine ag (f_ (gO (hi pins s1 σ H1 _ I1 q1) fun iv s2 dF=>?_));obtain⟨y,H2,I2,r2,q2⟩:=dF;refine ag (wpAny_standAt (ag (f_ (gO (hs pins s2 σ H2 x y v ov iv u _ I2 r1 r2 r q2) fun _ s3 dF=>?_))));obtain⟨H3,I3,q3⟩:=dF;exact wpAny_release ⟨σ,H3,I3,q3⟩
noncomputable def aeB(te:TE)(g:TG):TS:=fun D σ H=>te σ H fun x H1=>g x σ H1 D.nx
theorem Ql{tg e:ah}{te:TE}{g:TG}(he:PE X e te)(hg:PG X tg g)(hs:oi [tg] e pos.line X.env=pure false:=by rfl)(hw:oj [tg] e X.env=pure none:=by rfl)
  (h1:(f9 [tg] X.env).map (·.2)=[assign tg X.env]:=by rfl):PS X (.Assign [tg] e pos) (aeB te g):=by
 intro pins s σ H D I h;refine wpAny_Assign_stores (gO (he pins s σ H _ I h) fun v s1 ⟨x,H1,I1,r1,q1⟩=>?_) hs hw;rw[h1];exact gO (hg pins s1 σ H1 x v _ I1 r1 q1) fun _ s2 q=>q
theorem vP{i:Nat}{x:Str}{e:ah}{te:TE}{pos':Pos}(hN:X.N.Nodup)(hi:X.N[i]?=some x)(hx:Kg X.env.scope x)(he:PE X e te)(hs:eD e (some (.Name x pos')) pos.line X.env=pure false:=by rfl)(hf:X.fn x=true∨X.env.scope.names.lookup x=some .local:=by first|exact .inl rfl|exact .inr rfl|assumption) :
  PS X (.Assign [.Name x pos'] e pos) (aeB te (aaj i)):=by
 intro pins s σ H D I h;refine wpAny_Assign_Name (gO (he pins s σ H _ I h) fun v s1 ⟨y,H1,I1,r1,q1⟩=>?_) hs;exact Eb I1 hN hi hx r1 (fun s2 I2=>⟨_,H1,I2,q1⟩) hf
end
section
variable{X:Cx}{pos:Pos}
noncomputable def abv(c:TT)(tb:TS):TS:=fun D σ H=>∃W:Nat->St->Hp->Prop,(∃m,W m σ H)/\∀m σ H,W m σ H ->
 c σ H fun b H1=>if b=true then ∃N:St->Hp->Prop,(∀σ' H',N σ' H'->∃m',m' < m/\W m' σ' H')/\tb { D with nx:=N,ct:=N,bk:=D.nx } σ H1 else D.nx σ H1
theorem Qm{c:ah}{body:List bo}{tc:TT}{tb:TS}(hp:kf (aw X.prog X.w) X.A X.env X.xe)(hc:PT X c tc)(hb:yH X body tb):PS X (.While c body [] pos) (abv tc tb):=by
 intro pins s σ H D I h;obtain⟨W,⟨m0,w0⟩,turn⟩:=h;refine wpAny_While (codeAny_whileLoop (fun n s'=>∃σ' H',Inv X pins σ' H' s'/\W n σ' H') ?_ m0 ⟨σ,H,I,w0⟩);rintro n s1 ⟨σ1,H1,I1,w1⟩;refine kT hp (gO (hc pins s1 σ1 H1 _ I1 (turn n σ1 H1 w1)) fun b s2 dF=>?_);obtain⟨H2,I2,q2⟩:=dF;cases b with
 |true =>
  obtain⟨N,hN,q2⟩:=q2;rw[if_pos rfl];refine kT hp (gO (hb pins s2 σ1 H2 _ I2 q2) fun f s3 q3=>?_);cases f with
  |next =>
   obtain⟨σ3,H3,I3,n3⟩:=q3;obtain⟨m',hm,w3⟩:=hN σ3 H3 n3;exact⟨m',hm,σ3,H3,I3,w3⟩
  |cont =>
   obtain⟨σ3,H3,I3,n3⟩:=q3;obtain⟨m',hm,w3⟩:=hN σ3 H3 n3;exact⟨m',hm,σ3,H3,I3,w3⟩
  |brk=>exact q3
  |ret v=>exact q3
 |false =>
  rw[if_neg ui];exact qc ⟨σ1,H2,I2,q2⟩
end
structure It where
 go:Nat->Hp->Prop
 yld:Nat->Hp->V->Hp->Prop
 stop:Nat->Hp->Prop
noncomputable def lu(X:Cx)(pins:List (ae×Obj))(H:Hp)(b:ae):Prop :=
 H b=none/\b≠X.env.locals/\b∉X.fs/\(b∈X.ex∨X.s₀.heap.objs.size<=b)/\(∀x c,X.env.cells.lookup x=some c->c≠b)/\∀p∈X.pn++pins,p.1≠b
theorem Inv.Np{X:Cx}{pins:List (ae×Obj)}{σ:St}{H H':Hp}{s:af}{b:ae}(I:Inv X pins σ H s)(hb:s.heap.objs.size<=b)(hn:H' b=none):lu X pins H' b:=by
 refine⟨hn,i9 (dA I.lt hb),I.aha hb,.inr (dq I.sz hb),fun x c e z=>?_,fun p hp z=>?_⟩
 ·obtain⟨v,q⟩:=I.cell x c e;exact absurd (dA q.lt (by rw[z];exact hb)) (eQ _)
 ·exact absurd (dA (bu (I.pin p hp).1) (by rw[z];exact hb)) (eQ _)
structure Turn (P:aI)(w:az)(K:ai)(tg:ah)(J:It)(fp:List ae)(it:ae)(tn:Nat->ay->Prop):Prop where
  mem:it∈fp
  obj:∀i h,tn i h->∀b∈fp,∃o,h.get? b=some o/\∀v,o.data≠.cell v
  keep:∀i h h',tn i h->(∀b∈fp,∀o,h.get? b=some o->h'.get? b=some o)->tn i h'
  item:∀(X:Cx),X.prog=P->X.w=w->X.K=K->X.calm=true->∀(i:Nat) (pins:List (ae×Obj)) (s:af) (σ:St) (H:Hp) (E:aa->af->Prop),Inv X pins σ H s->(∀b∈fp,lu X pins H b)->tn i s.heap->J.go i H ->
    ar (aw P w) X.A (fy (.ref it)) (fun r s1=>∃u,r=some u /\
      ar (aw P w) X.A (qf tg (.ref it) u) (fun _ s2=>∃x H',Inv X pins σ H' s2/\RelV x u/\J.yld i H x H'/\tn (i + 1) s2.heap/\∀b∈fp,H' b=none) E s1) E s
  done : ∀(X : Cx), X.prog = P -> X.w = w -> X.K = K -> X.calm = true -> ∀(i : Nat) (pins : List (ae × Obj)) (s : af) (σ : St) (H : Hp) (E : aa -> af -> Prop), Inv X pins σ H s -> (∀b ∈ fp, lu X pins H b) -> tn i s.heap -> J.stop i H ->
    ar (aw P w) X.A (fy (.ref it)) (fun r s1=>r=none/\Inv X pins σ H s1) E s
  self:∀(A:aT) (i:Nat) (s:af) (Q:aa->af->Prop) (E:aa->af->Prop),tn i s.heap->Q (.ref it) s->ar (aw P w) A (kU (.ref it)) Q E s
noncomputable abbrev TI:=St->Hp->(It->Hp->Prop)->Prop
noncomputable def PIE(X:Cx)(pins:List (ae×Obj))(σ:St)(tg:ah)(R:It->Hp->Prop)(itv:aa)(s2:af):Prop :=
 ∃(it:ae) (fp:List ae) (tn:Nat->ay->Prop) (J:It) (H':Hp),itv=.ref it/\Inv X pins σ H' s2/\Turn X.prog X.w X.K tg J fp it tn/\tn 0 s2.heap/\(∀b∈fp,lu X pins H' b)/\R J H'
noncomputable def PI(X:Cx)(tg iter:ah)(wi:TI):Prop :=
 ∀(pins:List (ae×Obj)) (s:af) (σ:St) (H:Hp) (R:It->Hp->Prop),Inv X pins σ H s->wi σ H R ->
  ar (aw X.prog X.w) X.A (bb iter X.env) (fun v s1=>ar (aw X.prog X.w) X.A (kU v) (PIE X pins σ tg R) X.xe s1) X.xe s
theorem Qn{M:Model}{A:aT}{E:aa->af->Prop}{s:af}{tg:ah}{it:ae}{u:aa}{o:Obj}{n:String}{vs:Array aa}{Q:Unit->af->Prop}(ho:s.heap.get? it=some o)(hc:o.cls=.type n)(hd:o.data=.fields vs)
    (hn:["enumerate","zip","dict_itemiterator","dict_reverseitemiterator","odict_iterator","itertools.zip_longest","itertools.pairwise"].contains n=false) (hQ:Q () s):ar M A (qf tg (.ref it) u) Q E s:=by
  unfold qf;cases tg <;> first
    |exact aS hQ
    | (cases u <;> first
        |exact aS hQ
        | (refine ag (qh ho ?_)
           rw[hc,hd];show ar M A (if (["enumerate","zip","dict_itemiterator","dict_reverseitemiterator","odict_iterator","itertools.zip_longest","itertools.pairwise"].contains n && vs[0]? == some (cx _))=true then _ else _) Q E s;rw[if_neg (by intro h;rw[hn,Bool.false_and]at h;cases h)];exact aS hQ))
noncomputable def Itl(K:ai)(a:ae):It :=
 ⟨fun i H=>∃xs x,jz K H a xs/\xs[i]?=some x,fun i H x H'=>H'=H/\∀xs,jz K H a xs->xs[i]?=some x,fun i H=>∃xs,jz K H a xs/\xs.length<=i⟩
noncomputable def Itt(K:ai)(a:ae):It :=
 ⟨fun i H=>∃xs x,iV K H a xs/\xs[i]?=some x,fun i H x H'=>H'=H/\∀xs,iV K H a xs->xs[i]?=some x,fun i H=>∃xs,iV K H a xs/\xs.length<=i⟩
noncomputable def Qo(lo:Int)(n:Nat):It:=⟨fun i _=>i < n,fun i H x H'=>H'=H/\x=.int (lo + i),fun i _=>n<=i⟩
theorem Nq{P:aI}{w:az}{K:ai}{tg:ah}(a it:ae):Turn P w K tg (Itl K a) [it] it (fun i h=>h.IsListIter it a i) where
  mem:=by simp
  obj:=fun i h st b hb=>by
    have e:b=it:=by simpa using hb
    subst e;obtain⟨o,e,c,d⟩:=st;exact⟨o,e,fun v z=>by rw[d]at z;cases z⟩
  keep:=fun i h h' st k=>st.at fun o e=>k it (by simp) o e
  item:=by intro X hP hw hK hc i pins s σ H E I hf st hg;subst hP hw hK;obtain⟨xs,x,hq,hx⟩:=hg;obtain⟨its,rv,p,hz⟩:=I.list hq;obtain⟨u,hu,ru⟩:=rv.get hx;obtain⟨f0,f1,f2,f3,f4,f5⟩:=hf it (by simp);refine wpAny_pyNext_list_item st p.isList (x:=u) (by simpa using hu) fun h' st' sb=>?_;have I1:Inv X pins σ H { s with heap:=h' }:=I.turned (t':=s.toks) (fun b o hb e=>(sb.2 b hb).trans e) f0 f1 f3 f4 f5;obtain⟨o,e,c,d⟩:=id st';exact⟨u,rfl,Qn (s:={ s with heap:=h' }) e c d (by decide) ⟨x,H,I1,ru,⟨rfl,fun ys hy=>by rw[I.rA hy hq];exact hx⟩,st',fun b hb=>(hf b hb).1⟩⟩
  done := by
    intro X hP hw hK hc i pins s σ H E I hf st hg;subst hP hw hK;obtain⟨xs,hq,hx⟩:=hg;obtain⟨its,rv,p,hz⟩:=I.list hq;obtain⟨f0,f1,f2,f3,f4,f5⟩:=hf it (by simp);have hl:=rv.length;exact wpAny_pyNext_list_end (I.ok.hd hc) st p.isList (by simp;lia) fun h' eb=>⟨rfl,I.turned (t':=s.toks) (fun b o hb e=>eb b o hb e) f0 f1 f3 f4 f5⟩
  self:=fun _ _ _ _ _ st h=>wpAny_pyIter_listiter st h
theorem HS{P:aI}{w:az}{K:ai}{tg:ah}(a it:ae):Turn P w K tg (Itt K a) [it] it (fun i h=>h.IsTupleIter it a i) where
  mem:=by simp
  obj:=fun i h st b hb=>by
    have e:b=it:=by simpa using hb
    subst e;obtain⟨o,e,c,d⟩:=st;exact⟨o,e,fun v z=>by rw[d]at z;cases z⟩
  keep:=fun i h h' st k=>st.at fun o e=>k it (by simp) o e
  item:=by intro X hP hw hK hc i pins s σ H E I hf st hg;subst hP hw hK;obtain⟨xs,x,hq,hx⟩:=hg;obtain⟨its,rv,p,hz⟩:=I.tuple hq;obtain⟨u,hu,ru⟩:=rv.get hx;obtain⟨f0,f1,f2,f3,f4,f5⟩:=hf it (by simp);refine wpAny_pyNext_tuple_item st (show s.heap.IsTuple a its.toArray from p) (x:=u) (by simpa using hu) fun h' st' sb=>?_;have I1:Inv X pins σ H { s with heap:=h' }:=I.turned (t':=s.toks) (fun b o hb e=>(sb.2 b hb).trans e) f0 f1 f3 f4 f5;obtain⟨o,e,c,d⟩:=id st';exact⟨u,rfl,Qn (s:={ s with heap:=h' }) e c d (by decide) ⟨x,H,I1,ru,⟨rfl,fun ys hy=>by rw[I.pL hy hq];exact hx⟩,st',fun b hb=>(hf b hb).1⟩⟩
  done := by
    intro X hP hw hK hc i pins s σ H E I hf st hg;subst hP hw hK;obtain⟨xs,hq,hx⟩:=hg;obtain⟨its,rv,p,hz⟩:=I.tuple hq;obtain⟨f0,f1,f2,f3,f4,f5⟩:=hf it (by simp);have hl:=rv.length;exact wpAny_pyNext_tuple_end (I.ok.hd hc) st (show s.heap.IsTuple a its.toArray from p) (by simp;lia) fun h' eb=>⟨rfl,I.turned (t':=s.toks) (fun b o hb e=>eb b o hb e) f0 f1 f3 f4 f5⟩
  self:=fun _ _ _ _ _ st h=>wpAny_pyIter_tupleiter st h
theorem HW{P:aI}{w:az}{K:ai}{tg:ah}(it:ae)(lo:Int)(n:Nat):Turn P w K tg (Qo lo n) [it] it (fun i h=>IsRangeIter h it (lo + (i:Nat) * 1) ((n:Int) - (i:Nat)) 1) where
  mem:=by simp
  obj:=fun i h st b hb=>by
    have e:b=it:=by simpa using hb
    subst e;exact⟨_,st,fun v z=>by
      have z':Data.fields _=Data.cell v:=z;cases z'⟩
  keep:=fun i h h' st k=>k it (by simp) _ st
  item:=by intro X hP hw hK hc i pins s σ H E I hf st hg;subst hP hw hK;obtain⟨f0,f1,f2,f3,f4,f5⟩:=hf it (by simp);have W:=Walks.range (prog:=X.prog) (w:=X.w) (I.ok.hd hc) it lo 1 n;refine W.item i s _ _ hg st fun v h' tk hv st' kk=>?_;obtain⟨t,rfl⟩:=hv;have I1:Inv X pins σ H { s with heap:=h',toks:=tk }:=I.turned (fun b o hb e=>kk b o (by simpa using hb) e) f0 f1 f3 f4 f5;refine⟨_,rfl,Qn (s:={ s with heap:=h',toks:=tk }) (n:="range_iterator") st' rfl rfl (by decide) ⟨.int (lo + i),H,I1,⟨t,?_⟩,⟨rfl,rfl⟩,st',fun b hb=>(hf b hb).1⟩⟩;rw[Int.mul_one]
  done := by
    intro X hP hw hK hc i pins s σ H E I hf st hg;subst hP hw hK;obtain⟨f0,f1,f2,f3,f4,f5⟩:=hf it (by simp);exact wpAny_pyNext_range_end (I.ok.hd hc) st (by have:n<=i:=hg;lia) fun h' eb=>⟨rfl,I.turned (t':=s.toks) (fun b o hb e=>eb b o hb e) f0 f1 f3 f4 f5⟩
  self:=fun _ _ _ _ _ st h=>wpAny_pyIter_rangeiter st h
section
variable{X:Cx}{tg:ah}
noncomputable def aeD(K:ai)(tl:TE):TI:=fun σ H R=>tl σ H fun x H1=>∃a,x=.ref a/\(∃xs,jz K H1 a xs)/\R (Itl K a) H1
noncomputable def ahj(K:ai)(tl:TE):TI:=fun σ H R=>tl σ H fun x H1=>∃a,x=.ref a/\(∃xs,iV K H1 a xs)/\R (Itt K a) H1
theorem Ko{l:ah}{tl:TE}(hl:PE X l tl):PI X tg l (aeD X.K tl):=by
 intro pins s σ H R I h;refine gO (hl pins s σ H _ I h) fun v s1 dF=>?_;obtain⟨x,H1,I1,r1,q1⟩:=dF;obtain⟨a,e,⟨xs,hq⟩,q⟩:=q1;subst e;cases r1;obtain⟨its,rv,p,hz⟩:=I1.list hq;refine uj p.isList ?_;refine⟨s1.heap.objs.size,[s1.heap.objs.size],_,_,H1,rfl,I1.kept (t':=s1.toks) fun b o e=>cm _ e,Nq a _,⟨_,cE _ rfl,rfl,rfl⟩,fun b hb=>?_,q⟩;have e:b=s1.heap.objs.size:=by simpa using hb
 subst e;exact I1.Np (bE _) (I1.hok.fresh (bE _))
theorem Qp{l:ah}{tl:TE}(hl:PE X l tl):PI X tg l (ahj X.K tl):=by
 intro pins s σ H R I h;refine gO (hl pins s σ H _ I h) fun v s1 dF=>?_;obtain⟨x,H1,I1,r1,q1⟩:=dF;obtain⟨a,e,⟨xs,hq⟩,q⟩:=q1;subst e;cases r1;obtain⟨its,rv,p,hz⟩:=I1.tuple hq;refine qi (show s1.heap.IsTuple a its.toArray from p) ?_;refine⟨s1.heap.objs.size,[s1.heap.objs.size],_,_,H1,rfl,I1.kept (t':=s1.toks) fun b o e=>cm _ e,HS a _,⟨_,cE _ rfl,rfl,rfl⟩,fun b hb=>?_,q⟩;have e:b=s1.heap.objs.size:=by simpa using hb
 subst e;exact I1.Np (bE _) (I1.hok.fresh (bE _))
theorem Ed{pins:List (ae×Obj)}{σ:St}{H:Hp}{s:af}{R:It->Hp->Prop}{E:aa->af->Prop}{lo hi:Int}{t u v:Tok}{tk:Nat}(I:Inv X pins σ H s)(h1:-(2 ^ 62)<=lo)(h2:lo < 2 ^ 62)(h3:-(2 ^ 62)<=hi)(h4:hi < 2 ^ 62)
  (q:R (Qo lo (hi - lo).toNat) H):ar (aw X.prog X.w) X.A (kU (.ref s.heap.objs.size)) (PIE X pins σ tg R) E { s with heap:=s.heap.push { cls:=.type "range",data:=.fields #[.int lo t,.int hi u,.int 1 v] },toks:=tk }:=by
 refine wpAny_pyIter_range (IsRange.new ..) (small_one h1 h2 h3 h4) ?_;have I1:Inv X pins σ H { s with heap:=s.heap.push { cls:=.type "range",data:=.fields #[.int lo t,.int hi u,.int 1 v] },toks:=tk }:=I.kept fun b o e=>cm _ e;refine⟨(s.heap.push { cls:=.type "range",data:=.fields #[.int lo t,.int hi u,.int 1 v] }).objs.size,[(s.heap.push { cls:=.type "range",data:=.fields #[.int lo t,.int hi u,.int 1 v] }).objs.size],_,_,H,rfl,
  I1.kept (t':=tk) fun b o e=>cm _ e,HW _ lo (hi - lo).toNat,?_,fun b hb=>?_,q⟩
 ·have e1:lo + ((0:Nat):Int) * 1=lo:=by simp
  have e2:(((hi - lo).toNat:Nat):Int) - ((0:Nat):Int)=cz.Range.rangeSize lo hi 1:=by rw[rangeSize_one];split <;> lia
  show IsRangeIter _ _ (lo + ((0:Nat):Int) * 1) ((((hi - lo).toNat:Nat):Int) - ((0:Nat):Int)) 1;rw[e1,e2];exact cE _ rfl
 ·have e:b=(s.heap.push { cls:=.type "range",data:=.fields #[.int lo t,.int hi u,.int 1 v] }).objs.size:=by simpa using hb
  subst e;exact I1.Np (bE _) (I1.hok.fresh (bE _))
noncomputable def aeE(ta:TA):TI:=fun σ H R=>ta σ H fun vs H1=>∃j:Int,vs=[.int j]/\-(2 ^ 62)<=j/\j < 2 ^ 62/\R (Qo 0 j.toNat) H1
noncomputable def aeF(ta:TA):TI:=fun σ H R=>ta σ H fun vs H1=>∃i j:Int,vs=[.int i,.int j]/\(-(2 ^ 62)<=i/\i < 2 ^ 62/\-(2 ^ 62)<=j/\j < 2 ^ 62)/\R (Qo i (j - i).toNat) H1
theorem Nr{a:ah}{ta:TA}{p pos:Pos}(hg:Gl X "range") (hm:X.mg "range"=none) (ha:PA X [a] ta) (hs:ba [a] X.env=[(false,bb a X.env)]:=by rfl):PI X tg (.Call (.Name "range" p) [a] [] pos) (aeE ta):=by
 intro pins s σ H R I h;refine Call_ (tM I hg hm boot_range (qk (gO (ha pos pins s σ H _ I h) fun us s1 ⟨vs,H1,I1,r1,q1⟩=>?_) hs rfl));obtain⟨j,e,q1,q2,q⟩:=q1;subst e;cases r1 with
 |cons r rr =>
  cases rr;obtain⟨t,rfl⟩:=r;exact call_range_1 (Ed I1 (by lia) (by lia) q1 q2 (by simpa using q))
theorem zc{a b:ah}{ta:TA}{p pos:Pos}(hg:Gl X "range") (hm:X.mg "range"=none) (ha:PA X [a,b] ta) (hs:ba [a,b] X.env=[(false,bb a X.env),(false,bb b X.env)]:=by rfl) (hs2:ba [b] X.env=[(false,bb b X.env)]:=by rfl) :
  PI X tg (.Call (.Name "range" p) [a,b] [] pos) (aeF ta):=by
 intro pins s σ H R I h;refine Call_ (tM I hg hm boot_range (qk (gO (ha pos pins s σ H _ I h) fun us s1 ⟨vs,H1,I1,r1,q1⟩=>?_) (by rw[hs,hs2]) (by rw[hs2];rfl)));obtain⟨i,j,e,⟨q1,q2,q3,q4⟩,q⟩:=q1;subst e;cases r1 with
 |cons r rr =>
  cases rr with
  |cons r' rr =>
   cases rr;obtain⟨t,rfl⟩:=r;obtain⟨t',rfl⟩:=r';exact call_range_2 (Ed I1 q1 q2 q3 q4 q)
noncomputable def ahk(wi:TI)(g:TG)(tb:TS):TS:=fun D σ H=>wi σ H fun J H1=>∃W:Nat->Nat->St->Hp->Prop,(∃m,W 0 m σ H1)/\∀i m σ H,W i m σ H ->
 (J.stop i H/\D.nx σ H)∨(J.go i H/\∃N:St->Hp->Prop,(∀σ' H',N σ' H'->∃m',m' < m/\W (i + 1) m' σ' H')/\∀x H',J.yld i H x H'->g x σ H' fun σ2 H2=>tb { D with nx:=N,ct:=N,bk:=D.nx } σ2 H2)
noncomputable def tQ(fp:List ae)(h:ay):List (ae×Obj):=fp.filterMap fun b=>(h.get? b).map fun o=>(b,o)
theorem mJ{fp:List ae}{h:ay}{b:ae}{o:Obj}(hb:b∈fp)(e:h.get? b=some o):(b,o)∈tQ fp h:=kc.mpr ⟨b,hb,by rw[e];rfl⟩
theorem Nt{fp:List ae}{h:ay}{p:ae×Obj}(hp:p∈tQ fp h):p.1∈fp/\h.get? p.1=some p.2:=by
 obtain⟨b,hb,e⟩:=kc.mp hp;cases q:h.get? b with
 |none=>rw[q]at e;cases e
 |some o =>
  rw[q]at e;have e':(b,o)=p:=dE e;subst e';exact⟨hb,q⟩
theorem Inv.pinned{pins:List (ae×Obj)}{σ:St}{H:Hp}{s:af}{fp:List ae}(I:Inv X pins σ H s)(hf:∀b∈fp,lu X pins H b)(ho:∀b∈fp,∃o,s.heap.get? b=some o/\∀v,o.data≠.cell v):Inv X (pins++tQ fp s.heap) σ H s :=
 I.Ao fun p hp=>(du.mp hp).elim (fun z=>I.pin p (fE _ z)) fun z=>by obtain⟨hb,e⟩:=Nt z;obtain⟨f0,f1,f2,_⟩:=hf p.1 hb;obtain⟨o,e',d⟩:=ho p.1 hb;rw[e]at e';cases e';exact⟨e,f0,f1,f2,d⟩
theorem Inv.rB{pins pl:List (ae×Obj)}{σ:St}{H:Hp}{s:af}(I:Inv X (pins++pl) σ H s):Inv X pins σ H s:=I.Ao fun p hp=>I.pin p (fE _ (ie _ hp))
theorem vQ{iter:ah}{body:List bo}{wi:TI}{g:TG}{tb:TS}{pos:Pos}(hp:kf (aw X.prog X.w) X.A X.env X.xe)(hc:X.calm=true)(hi:PI X tg iter wi)(hg:PG X tg g)(hb:yH X body tb)
  (hs:∀x,gi iter X.env x=pure x:=by intro _;rfl):PS X (.For tg iter body [] pos) (ahk wi g tb):=by
 intro pins s σ H D I h;refine wpAny_For (gO (hi pins s σ H _ I h) fun v s1 h1=>gO h1 fun itv s2 h2=>?_) hs;obtain⟨it,fp,tn,J,H2,e,I2,T,st2,f2,W,⟨m0,w0⟩,turn⟩:=h2;subst e;have stat:∀{H':Hp},(∀b∈fp,H' b=none)->∀b∈fp,lu X pins H' b:=fun hn b hb=>⟨hn b hb,(f2 b hb).2⟩
 refine codeAny_forLoop_any (fun n s'=>∃i σ' H',Inv X pins σ' H' s'/\tn i s'.heap/\(∀b∈fp,H' b=none)/\W i n σ' H') ?_ m0 ⟨0,σ,H2,I2,st2,fun b hb=>(f2 b hb).1,w0⟩;rintro n s3 ⟨i,σ3,H3,I3,st3,fr3,w3⟩;rcases turn i n σ3 H3 w3 with ⟨stop,qn⟩|⟨go,N,hN,step⟩
 ·refine kT hp (gO (T.done X rfl rfl rfl hc i pins s3 σ3 H3 X.xe I3 (stat fr3) st3 stop) fun r s4 dF=>?_);obtain⟨hr,I4⟩:=dF;subst hr;exact qc ⟨σ3,H3,I4,qn⟩
 ·refine kT hp (gO (T.item X rfl rfl rfl hc i pins s3 σ3 H3 X.xe I3 (stat fr3) st3 go) fun r s4 dF=>?_);obtain⟨u,hr,h4⟩:=dF;subst hr;refine kT hp (gO h4 fun _ s5 dF=>?_);obtain⟨x,H5,I5,r5,y5,st5,fr5⟩:=dF;have I5':=I5.pinned (stat fr5) (T.obj _ _ st5);refine kT hp (gO (hg _ s5 σ3 H5 x u _ I5' r5 (step x H5 y5)) fun _ s6 dF=>?_);obtain⟨σ6,H6,I6,q6⟩:=dF;refine kT hp (gO (hb _ s6 σ6 H6 _ I6 q6) fun f s7 q7=>?_);have again:∀{σ7:St}{H7:Hp},Inv X (pins++tQ fp s5.heap) σ7 H7 s7->N σ7 H7->∃m,m < n/\∃i σ' H',Inv X pins σ' H' s7/\tn i s7.heap/\(∀b∈fp,H' b=none)/\W i m σ' H':=fun {σ7 H7} I7 n7=>by obtain⟨m',hm,w7⟩:=hN σ7 H7 n7;refine⟨m',hm,i + 1,σ7,H7,I7.rB,T.keep _ _ _ st5 fun b hb o e=>(I7.pin (b,o) (fE _ (fE _ (mJ hb e)))).1,fun b hb=>?_,w7⟩;obtain⟨o,e,d⟩:=T.obj _ _ st5 b hb;exact(I7.pin (b,o) (fE _ (fE _ (mJ hb e)))).2.1
  cases f with
  |next=>obtain⟨σ7,H7,I7,n7⟩:=q7;exact again I7 n7
  |cont=>obtain⟨σ7,H7,I7,n7⟩:=q7;exact again I7 n7
  |brk=>obtain⟨σ7,H7,I7,q7⟩:=q7;exact⟨σ7,H7,I7.rB,q7⟩
  |ret v=>obtain⟨x7,σ7,H7,I7,r7,q7⟩:=q7;exact⟨x7,σ7,H7,I7.rB,r7,q7⟩
end
theorem Qq{K:ai}{a:ae}{xs:List V}{g:TG}{tb:TS}{D:Ends}{σ:St}{H:Hp}(Pv:Nat->St->Hp->Prop)(h0:Pv 0 σ H)(hl:∀i σ H,i<=xs.length->Pv i σ H->jz K H a xs)
  (hs:∀i x σ H,xs[i]?=some x->Pv i σ H->g x σ H fun σ2 H2=>tb { D with nx:=Pv (i + 1),ct:=Pv (i + 1),bk:=D.nx } σ2 H2) (hd:∀σ H,Pv xs.length σ H->D.nx σ H) :
  ∃W:Nat->Nat->St->Hp->Prop,(∃m,W 0 m σ H)/\∀i m σ H,W i m σ H ->
   ((Itl K a).stop i H/\D.nx σ H)∨((Itl K a).go i H/\∃N:St->Hp->Prop,(∀σ' H',N σ' H'->∃m',m' < m/\W (i + 1) m' σ' H')/\∀x H',(Itl K a).yld i H x H'->g x σ H' fun σ2 H2=>tb { D with nx:=N,ct:=N,bk:=D.nx } σ2 H2):=by
 refine⟨fun i m σ H=>m=xs.length - i/\i<=xs.length/\Pv i σ H,⟨xs.length,by simp,d_ _,h0⟩,?_⟩;rintro i m σ H ⟨rfl,hi,p⟩;have q:=hl i σ H hi p;by_cases hlt:i < xs.length
 ·refine .inr ⟨⟨xs,xs[i],q,by simp[hlt]⟩,Pv (i + 1),fun σ' H' p'=>⟨xs.length - (i + 1),by lia,rfl,hlt,p'⟩,fun x H' y=>?_⟩;obtain⟨e,y⟩:=y;subst e;exact hs i x σ _ (y xs q) p
 ·have e:i=xs.length:=by lia
  subst e;exact .inl ⟨⟨xs,q,bE _⟩,hd σ H p⟩
theorem Xv{K:ai}{a:ae}{xs:List V}{g:TG}{tb:TS}{D:Ends}{σ:St}{H:Hp}(Pv:Nat->St->Hp->Prop)(h0:Pv 0 σ H)(hl:∀i σ H,i<=xs.length->Pv i σ H->iV K H a xs)
  (hs:∀i x σ H,xs[i]?=some x->Pv i σ H->g x σ H fun σ2 H2=>tb { D with nx:=Pv (i + 1),ct:=Pv (i + 1),bk:=D.nx } σ2 H2) (hd:∀σ H,Pv xs.length σ H->D.nx σ H) :
  ∃W:Nat->Nat->St->Hp->Prop,(∃m,W 0 m σ H)/\∀i m σ H,W i m σ H ->
   ((Itt K a).stop i H/\D.nx σ H)∨((Itt K a).go i H/\∃N:St->Hp->Prop,(∀σ' H',N σ' H'->∃m',m' < m/\W (i + 1) m' σ' H')/\∀x H',(Itt K a).yld i H x H'->g x σ H' fun σ2 H2=>tb { D with nx:=N,ct:=N,bk:=D.nx } σ2 H2):=by
 refine⟨fun i m σ H=>m=xs.length - i/\i<=xs.length/\Pv i σ H,⟨xs.length,by simp,d_ _,h0⟩,?_⟩;rintro i m σ H ⟨rfl,hi,p⟩;have q:=hl i σ H hi p;by_cases hlt:i < xs.length
 ·refine .inr ⟨⟨xs,xs[i],q,by simp[hlt]⟩,Pv (i + 1),fun σ' H' p'=>⟨xs.length - (i + 1),by lia,rfl,hlt,p'⟩,fun x H' y=>?_⟩;obtain⟨e,y⟩:=y;subst e;exact hs i x σ _ (y xs q) p
 ·have e:i=xs.length:=by lia
  subst e;exact .inl ⟨⟨xs,q,bE _⟩,hd σ H p⟩
theorem Nu{lo:Int}{n:Nat}{g:TG}{tb:TS}{D:Ends}{σ:St}{H:Hp}(Pv:Nat->St->Hp->Prop)(h0:Pv 0 σ H)
  (hs:∀i σ H,i < n->Pv i σ H->g (.int (lo + i)) σ H fun σ2 H2=>tb { D with nx:=Pv (i + 1),ct:=Pv (i + 1),bk:=D.nx } σ2 H2) (hd:∀σ H,Pv n σ H->D.nx σ H) :
  ∃W:Nat->Nat->St->Hp->Prop,(∃m,W 0 m σ H)/\∀i m σ H,W i m σ H ->
   ((Qo lo n).stop i H/\D.nx σ H)∨((Qo lo n).go i H/\∃N:St->Hp->Prop,(∀σ' H',N σ' H'->∃m',m' < m/\W (i + 1) m' σ' H')/\∀x H',(Qo lo n).yld i H x H'->g x σ H' fun σ2 H2=>tb { D with nx:=N,ct:=N,bk:=D.nx } σ2 H2):=by
 refine⟨fun i m σ H=>m=n - i/\i<=n/\Pv i σ H,⟨n,by simp,d_ _,h0⟩,?_⟩;rintro i m σ H ⟨rfl,hi,p⟩;by_cases hlt:i < n
 ·refine .inr ⟨hlt,Pv (i + 1),fun σ' H' p'=>⟨n - (i + 1),by lia,rfl,hlt,p'⟩,fun x H' y=>?_⟩;obtain⟨e,y⟩:=y;subst e y;exact hs i σ _ hlt p
 ·have e:i=n:=by lia
  subst e;exact .inl ⟨bE _,hd σ H p⟩
noncomputable abbrev R2:=V->V->Hp->VK->Prop
noncomputable def qH(X:Cx)(f:aa->aa->Sem aa)(r:R2):Prop :=
 ∀(pins:List (ae×Obj)) (s:af) (σ:St) (H:Hp) (x y:V) (v u:aa) (Q:VK),Inv X pins σ H s->RelV x v->RelV y u->r x y H Q ->
  ar (aw X.prog X.w) X.A (f v u) (EP X pins σ Q) X.xe s
noncomputable def UnR(X:Cx)(f:aa->Sem aa)(r:V->Hp->VK->Prop):Prop :=
 ∀(pins:List (ae×Obj)) (s:af) (σ:St) (H:Hp) (x:V) (v:aa) (Q:VK),Inv X pins σ H s->RelV x v->r x H Q ->
  ar (aw X.prog X.w) X.A (f v) (EP X pins σ Q) X.xe s
noncomputable def eF(X:Cx)(f:aa)(r:List V->Hp->VK->Prop):Prop :=
 ∀(pins:List (ae×Obj)) (s:af) (σ:St) (H:Hp) (xs:List V) (us:List aa) (Q:VK),Inv X pins σ H s->Vals xs us->r xs H Q ->
  ar (aw X.prog X.w) X.A (call f us) (EP X pins σ Q) X.xe s
noncomputable def tOp(r:R2)(ta tb:TE):TE:=fun σ H Q=>ta σ H fun x H1=>tb σ H1 fun y H2=>r x y H2 Q
noncomputable def tUn(r:V->Hp->VK->Prop)(ta:TE):TE:=fun σ H Q=>ta σ H fun x H1=>r x H1 Q
noncomputable def rI(C:Int->Int->Prop)(g:Int->Int->V):R2:=fun x y H Q=>∃i j,x=.int i/\y=.int j/\C i j/\Q (g i j) H
noncomputable def Qs(g:Int->Int->V):R2:=fun x y H Q=>∃i j,x=.int i/\y=.int j/\Q (g i j) H
noncomputable def rU(g:Int->V):V->Hp->VK->Prop:=fun x H Q=>∃i,x=.int i/\Q (g i) H
section
variable{X:Cx}{a b c:ah}{ta tb tc:TE}{pos:Pos}
theorem abx(ha:PE X a ta)(hb:PE X b tb){pins:List (ae×Obj)}{s:af}{σ:St}{H:Hp}{R:V->V->Hp->Prop}(I:Inv X pins σ H s)
  (h:ta σ H fun x H1=>tb σ H1 fun y H2=>R x y H2) {Q:aa->af->Prop}{f:aa->aa->Sem aa}
  (hf:∀v u s2 x y H2,Inv X pins σ H2 s2->RelV x v->RelV y u->R x y H2->ar (aw X.prog X.w) X.A (f v u) Q X.xe s2) :
  ar (aw X.prog X.w) X.A (bb a X.env) (fun v s₁=>ar (aw X.prog X.w) X.A (bb b X.env) (fun u s₂=>ar (aw X.prog X.w) X.A (f v u) Q X.xe s₂) X.xe s₁) X.xe s:=by
 refine gO (ha pins s σ H _ I h) fun v s1 dF=>?_;obtain⟨x,H1,I1,r1,q1⟩:=dF;refine gO (hb pins s1 σ H1 _ I1 q1) fun u s2 dF=>?_;obtain⟨y,H2,I2,r2,q2⟩:=dF;exact hf v u s2 x y H2 I2 r1 r2 q2
theorem aeG{op:Operator}{r:R2}(ho:qH X (gy op) r)(ha:PE X a ta)(hb:PE X b tb):PE X (.BinOp a op b pos) (tOp r ta tb):=by intro pins s σ H Q I h;exact wpAny_BinOp (abx ha hb I h fun v u s2 x y H2 I2 rx ry q=>ho pins s2 σ H2 x y v u Q I2 rx ry q)
theorem aeH{op:UnaryOp}{r:V->Hp->VK->Prop}(ho:UnR X (unaryOp op) r)(ha:PE X a ta):PE X (.UnaryOp op a pos) (tUn r ta):=by intro pins s σ H Q I h;exact UnaryOp_ (gO (ha pins s σ H _ I h) fun v s1 ⟨x,H1,I1,r1,q1⟩=>ho pins s1 σ H1 x v Q I1 r1 q1)
theorem opI{f:aa->aa->Sem aa}{C:Int->Int->Prop}{g:Int->Int->Int}
  (rule:∀(i j:Int) (t u:Tok) (s:af) (Q:aa->af->Prop) (E:aa->af->Prop),C i j->Q (.int (g i j) s.toks) { s with toks:=s.toks + 1 }->ar (aw X.prog X.w) X.A (f (.int i t) (.int j u)) Q E s) :
  qH X f (rI C fun i j=>.int (g i j)):=by
 intro pins s σ H x y v u Q I rx ry h;obtain⟨i,j,rfl,rfl,hc,q⟩:=h;obtain⟨t,rfl⟩:=rx;obtain⟨t',rfl⟩:=ry;exact rule i j t t' s _ _ hc ⟨.int (g i j),H,I.tok _,⟨_,rfl⟩,q⟩
theorem aby{f:aa->aa->Sem aa}{g:Int->Int->Int}
  (rule:∀(i j:Int) (t u:Tok) (s:af) (Q:aa->af->Prop) (E:aa->af->Prop),Q (.int (g i j) s.toks) { s with toks:=s.toks + 1 }->ar (aw X.prog X.w) X.A (f (.int i t) (.int j u)) Q E s) :
  qH X f (Qs fun i j=>.int (g i j)):=by
 intro pins s σ H x y v u Q I rx ry h;obtain⟨i,j,rfl,rfl,q⟩:=h;obtain⟨t,rfl⟩:=rx;obtain⟨t',rfl⟩:=ry;exact rule i j t t' s _ _ ⟨.int (g i j),H,I.tok _,⟨_,rfl⟩,q⟩
theorem abz{f:aa->aa->Sem aa}{g:Int->Int->Bool}
  (rule:∀(i j:Int) (t u:Tok) (s:af) (Q:aa->af->Prop) (E:aa->af->Prop),Q (.bool (g i j)) s->ar (aw X.prog X.w) X.A (f (.int i t) (.int j u)) Q E s) :
  qH X f (Qs fun i j=>.bl (g i j)):=by
 intro pins s σ H x y v u Q I rx ry h;obtain⟨i,j,rfl,rfl,q⟩:=h;obtain⟨t,rfl⟩:=rx;obtain⟨t',rfl⟩:=ry;exact rule i j t t' s _ _ ⟨.bl (g i j),H,I,rfl,q⟩
noncomputable def Qt(i j:Int):Prop:=0<=j/\j<=1000000/\i.natAbs < 2 ^ 64
noncomputable def HX(i j:Int):Prop:=(-(2 ^ 64) < i/\i < 2 ^ 64)∨(-(2 ^ 64) < j/\j < 2 ^ 64)
theorem HX.ok{i j:Int}(h:HX i j):IntMulOk i j:=by
 rcases h with ⟨h1,h2⟩|⟨h1,h2⟩
 ·exact .of_left (intBits_le_64 h1 h2)
 ·exact .of_right (intBits_le_64 h1 h2)
theorem HY(k:Nat):(0:Int)<=2 ^ k:=by rw[two_pow_cast];exact Int.natCast_nonneg _
theorem abA:qH X (gy .Add) (Qs fun i j=>.int (i + j)):=aby fun _ _ _ _ _ _ _ q=>add_int q
theorem abB:qH X (gy .Sub) (Qs fun i j=>.int (i - j)):=aby fun _ _ _ _ _ _ _ q=>sub_int q
theorem abC:qH X (gy .Mult) (rI HX fun i j=>.int (i * j)):=opI fun _ _ _ _ _ _ _ hc q=>mul_int q hc.ok
theorem abD:qH X (gy .Mod) (rI (fun _ j=>0 < j) fun i j=>.int (i % j)):=opI fun i j _ _ _ _ _ hc q=>by have h1:(0:Int) < j:=hc;exact mod_int' (by lia) (by rw[Int.fmod_eq_emod_of_nonneg i (by lia)];exact q)
theorem abE:qH X (gy .Pow) (rI Qt fun i j=>.int (i ^ j.toNat)):=opI fun _ _ _ _ _ _ _ hc q=>pow_int_small hc.1 hc.2.1 hc.2.2 q
theorem abF:qH X (gy .RShift) (rI (fun _ j=>0<=j) fun i j=>.int (i / 2 ^ j.toNat)):=opI fun i j _ _ _ _ _ hc q =>
 rshift_int hc (by rw[uk i (HY _)];exact q)
theorem abG:qH X (gy .BitAnd) (Qs fun i j=>.int (qo i j)):=aby fun _ _ _ _ _ _ _ q=>and_int q
theorem unI{f:aa->Sem aa}{g:Int->Int}
  (rule:∀(i:Int) (t:Tok) (s:af) (Q:aa->af->Prop) (E:aa->af->Prop),Q (.int (g i) s.toks) { s with toks:=s.toks + 1 }->ar (aw X.prog X.w) X.A (f (.int i t)) Q E s) :
  UnR X f (rU fun i=>.int (g i)):=by
 intro pins s σ H x v Q I rx h;obtain⟨i,rfl,q⟩:=h;obtain⟨t,rfl⟩:=rx;exact rule i t s _ _ ⟨.int (g i),H,I.tok _,⟨_,rfl⟩,q⟩
theorem abH:UnR X (unaryOp .USub) (rU fun i=>.int (-i)):=unI fun _ _ _ _ _ q=>neg_int q
end
section
variable{X:Cx}{a b c:ah}{ta tb tc:TE}{pos:Pos}
theorem abI{pins:List (ae×Obj)}{σ:St}{H:Hp}{s:af}{Q:VK}{k k':Bool}(I:Inv X pins σ H s)(q:Q (.bl k) H)(e:k=k'):EP X pins σ Q (.bool k') s:=by subst e;exact⟨.bl k,H,I,rfl,q⟩
theorem aeJ:qH X (gz .Lt) (Qs fun i j=>.bl (decide (i < j))):=abz fun _ _ _ _ _ _ _ q=>lt_int q
theorem aeK:qH X (gz .Gt) (Qs fun i j=>.bl (decide (j < i))):=abz fun _ _ _ _ _ _ _ q=>gt_int q
theorem aeL:qH X (gz .GtE) (Qs fun i j=>.bl (decide (j<=i))):=abz fun _ _ _ _ _ _ _ q=>ge_int q
theorem Qu:qH X (gz .Is) (fun x y H Q=>y=.non/\Q (.bl (decide (x=.non))) H):=by
 intro pins s σ H x y v u Q I rx ry h;obtain⟨rfl,q⟩:=h;cases ry;refine is_none_gen (abI I q ?_);cases x <;> first
  | (cases rx;rfl)
  | (obtain⟨t,rfl⟩:=rx;rfl)
theorem qH.or{f:aa->aa->Sem aa}{r r':R2}(h:qH X f r)(h':qH X f r'):qH X f (fun x y H Q=>r x y H Q∨r' x y H Q):=by
 intro pins s σ H x y v u Q I rx ry q;rcases q with q|q
 ·exact h pins s σ H x y v u Q I rx ry q
 ·exact h' pins s σ H x y v u Q I rx ry q
theorem tR(b:ah){op:kX}(h:op≠.In:=by decide)(h2:op≠.NotIn:=by decide):iF op b=false:=by
 have e1:(op == kX.In)=false:=by cases op <;> first|rfl|exact absurd rfl h
 have e2:(op == kX.NotIn)=false:=by cases op <;> first|rfl|exact absurd rfl h2
 cases b <;> simp[iF,e1,e2]
theorem Xw{op:kX}{r:R2}(ho:qH X (gz op) r)(ha:PE X a ta)(hb:PE X b tb)(hm:iF op b=false):PE X (.Compare a [op] [b] pos) (tOp r ta tb):=by intro pins s σ H Q I h;exact wpAny_Compare1 (abx ha hb I h fun v u s2 x y H2 I2 rx ry q=>ho pins s2 σ H2 x y v u Q I2 rx ry q) hm
noncomputable def aeM(t:TE):TT:=fun σ H Q=>t σ H fun x H'=>∃k,x=.bl k/\Q k H'
theorem Kq{op:kX}{r:R2}(ho:qH X (gz op) r)(ha:PE X a ta)(hb:PE X b tb)(hm:iF op b=false):PT X (.Compare a [op] [b] pos) (aeM (tOp r ta tb)):=by
 intro pins s σ H Q I h;refine wpAny_isTrue_Compare1 (gO (ha pins s σ H _ I h) fun v s1 ⟨x,H1,I1,r1,q1⟩=>gO (hb pins s1 σ H1 _ I1 q1) fun u s2 ⟨y,H2,I2,r2,q2⟩ =>
  gO (ho pins s2 σ H2 x y v u _ I2 r1 r2 q2) fun c s3 ⟨z,H3,I3,r3,k,e,q3⟩=>?_) hm
 subst e;cases r3;exact og ⟨H3,I3,q3⟩
theorem Aw:(sizeLine:Nat) < 2 ^ 63:=by rw[ef];decide
theorem Qv{x:V}{us:List aa}(r:Vals [x] us):∃u,us=[u]/\RelV x u:=by
 cases r with
 |cons r1 r2=>cases r2;exact⟨_,rfl,r1⟩
theorem Ef{x y:V}{us:List aa}(r:Vals [x,y] us):∃u w',us=[u,w']/\RelV x u/\RelV y w':=by
 cases r with
 |cons r1 r2 =>
  cases r2 with
  |cons r3 r4=>cases r4;exact⟨_,_,rfl,r1,r3⟩
theorem Nv(hc:X.calm=true):eF X (.builtin "max") (fun xs H Q=>∃i j,xs=[.int i,.int j]/\Q (.int (if j > i then j else i)) H):=by
 intro pins s σ H xs us Q I r h;obtain⟨i,j,rfl,q⟩:=h;obtain⟨u,w',rfl,⟨t,rfl⟩,⟨t',rfl⟩⟩:=Ef r;refine max_two_ints (I.ok.hd hc) fun h' tk k=>⟨_,H,I.kept k,?_,q⟩
 by_cases hj:j > i
 ·rw[if_pos hj,if_pos hj];exact⟨_,rfl⟩
 ·rw[if_neg hj,if_neg hj];exact⟨_,rfl⟩
theorem Nx(hc:X.calm=true):eF X (.builtin "min") (fun xs H Q=>∃i j,xs=[.int i,.int j]/\Q (.int (if j < i then j else i)) H):=by
 intro pins s σ H xs us Q I r h;obtain⟨i,j,rfl,q⟩:=h;obtain⟨u,w',rfl,⟨t,rfl⟩,⟨t',rfl⟩⟩:=Ef r;refine min_two_ints (I.ok.hd hc) fun h' tk k=>⟨_,H,I.kept k,?_,q⟩
 by_cases hj:j < i
 ·rw[if_pos hj,if_pos hj];exact⟨_,rfl⟩
 ·rw[if_neg hj,if_neg hj];exact⟨_,rfl⟩
end
structure ajs (h:ay)(x dx C:ae)(mA:Str->Option aa):Prop where
 obj:h.get? x=some (PySem.W.instObj C dx)
 ns:h.Ns1 dx mA
 ne:dx≠x
section
variable{prog:aI}{w:az}{A:aT}{E:aa->af->Prop}{s:af}{K:ai}{x dx C f:ae}{mA:Str->Option aa}{name:Str}{v:aa}
end
section
variable{P:aI}{w:az}{H H':Hp}{h h':ay}{a C dx:ae}{fs fs':List (Str×V)}
end
structure Cls (K:ai)(C:ae):Prop where
 pg:PySem.W.plainGet K C Str.empty=true
 hd:PySem.W.hasDictIn K C=true
 po:PySem.W.plainOver K C=true
 sa:om K (.ref C) "__setattr__"=some (some (.builtin "object.__setattr__"))
structure Con (K:ai)(C:ae)(f:Str)(v:V)(u:aa):Prop where
 at_:om K (.ref C) f=some (some u)
 rel:RelV v u
 get:PySem.W.specialIn K u "__get__"=some none
 cp:PySem.W.copiedNames.contains f=false
structure Meth (K:ai)(C:ae)(m:Str)(f:ae):Prop where
 at_:om K (.ref C) m=some (some (.ref f))
 fn:PySem.W.isFn K (.ref f)=true
 kp:ij K (.ref f)=true
section
variable{X:Cx}{pins:List (ae×Obj)}{σ:St}{H:Hp}{s:af}{a C dx:ae}{fs:List (Str×V)}{f:Str}{v:V}{A:aT}{E:aa->af->Prop}
end
section
variable{X:Cx}{o e value:ah}{f:Str}{pos pos' tpos:Pos}{ta tv:TE}
end
section
variable{X:Cx}{pins:List (ae×Obj)}{σ:St}{H:Hp}{s:af}{A:aT}{E:aa->af->Prop}{Q:aa->af->Prop}{c:aa}{b:Bool}
inductive vR (K:ai) (H:Hp):V->aa->Prop where
 |non:vR K H .non (.type "NoneType")
 |bl (x:Bool):vR K H (.bl x) (.type "bool")
 |int (i:Int):vR K H (.int i) (.type "int")
 |str (x:Str):vR K H (.str x) (.type "str")
 |flt (x:UInt64):vR K H (.flt x) (.type "float")
 |lst {a:ae}{xs:List V}(e:H a=some (.lst xs)):vR K H (.ref a) (.type "list")
 |za {a:ae}{o:Obj}{xs:List V}(e:H a=some (.za o (.lst xs))):vR K H (.ref a) (.type "list")
 |tup {a:ae}{xs:List V}(e:H a=some (.tup xs)):vR K H (.ref a) (.type "tuple")
 |dK {a:ae}{kvs:List (DG×V)}(e:H a=some (.dK kvs)):vR K H (.ref a) (.type "dict")
 |dT {a:ae}{kvs:List (List DG×V)}(e:H a=some (.dT kvs)):vR K H (.ref a) (.type "dict")
 |ins {a C dx:ae}{fs:List (Str×V)}(e:H a=some (.ins C dx fs)) (cl:Cls K C) (ha:om K (.ref C) "__class__"=some (some (.builtin "object.__class__")))
   (hn:PySem.W.specialIn K (.builtin "object.__class__") "__get__"=some (some (.builtin "getset_descriptor.__get__"))) (htk:PySem.W.takesIn K (.builtin "object.__class__")=some true)
   (hm:PySem.W.mroIn K C (.type "object")=some true):vR K H (.ref a) (.ref C)
end
structure iB (k:Nat)(A:aT):Prop where
 hd:A.handled=none
 dp:A.depth + 3 * k + 5 < recursionLimit
 un:A.units + 16 * k + 200 < bS
theorem iB.mono{j k:Nat}{A:aT}(r:iB k A)(h:j<=k):iB j A:=⟨r.hd,by have:=r.dp;lia,by have:=r.un;lia⟩
theorem iB.deeper{k:Nat}{A:aT}(r:iB (k + 1) A)(env:Env):iB k (A.deeper env) :=
 ⟨r.hd,by have:=r.dp;show A.depth + 1 + 3 * k + 5 < _;lia,by have:=r.un;show A.units + 3 + 16 * k + 200 < _;lia⟩
theorem iB.depth{k:Nat}{A:aT}(r:iB k A):A.depth < recursionLimit:=by have:=r.dp;lia
noncomputable def abJ:TA:=fun _ H Q=>Q [] H
noncomputable def Qw(ta:TE)(tr:TA):TA:=fun σ H Q=>ta σ H fun x H1=>tr σ H1 fun xs H2=>Q (x::xs) H2
section
variable{X:Cx}{e:ah}{es:List ah}{te:TE}{t:TA}{pos:Pos}
theorem jA:PA X [] abJ:=fun _ _ _ _ H Q I h=>Calls.spliced_nil ⟨[],H,I,.nil,h⟩
theorem eG(ha:PE X e te)(hr:PA X es t)(hs:ba (e::es) X.env=(false,bb e X.env)::ba es X.env:=by rfl):PA X (e::es) (Qw te t):=by
 intro pos pins s σ H Q I h;rw[hs];show ar _ _ (spliced ((false,bb e X.env)::df pos (ba es X.env))) _ _ s;refine Calls.spliced_cons (gO (ha pins s σ H _ I h) fun u s1 dF=>?_);obtain⟨x,H1,I1,r1,q1⟩:=dF;exact gO (hr pos pins s1 σ H1 _ I1 q1) fun us s2 ⟨xs,H2,I2,r2,q2⟩=>⟨x::xs,H2,I2,.cons r1 r2,q2⟩
noncomputable def ahn(t:TA):TE:=fun σ H Q=>t σ H fun xs H1=>xs.length<=sizeLine/\∀p,H1 p=none->Q (.ref p) (upd H1 p (.tup xs))
noncomputable def aho(t:TA):TE:=fun σ H Q=>t σ H fun xs H1=>xs.length<=sizeLine/\∀p,H1 p=none->Q (.ref p) (upd H1 p (.lst xs))
theorem abK{x1}(h:PA X es t):PE X (.Tuple es x1 pos) (ahn t):=by intro pins s σ H Q I hq;refine wpAny_Tuple_spliced (gO (h pos pins s σ H _ I hq) fun us s1 ⟨xs,H1,I1,r,z,q⟩=>⟨by rw[<- r.length];exact z,?_⟩);have hf:H1 s1.heap.objs.size=none:=I1.hok.fresh (bE _);refine⟨.ref s1.heap.objs.size,upd H1 s1.heap.objs.size (.tup xs),I1.laid (t':=s1.toks) (fun b u e=>cm _ e) (bE _) ?_,rfl,q _ hf⟩;exact⟨z,us,r,⟨_,cE _ rfl,rfl,_,rfl⟩⟩
theorem Qx(h:PA X es t):PE X (.List es pos) (aho t):=by intro pins s σ H Q I hq;refine wpAny_List_spliced (gO (h pos pins s σ H _ I hq) fun us s1 ⟨xs,H1,I1,r,z,q⟩=>⟨by rw[<- r.length];exact z,?_⟩);have hf:H1 s1.heap.objs.size=none:=I1.hok.fresh (bE _);refine⟨.ref s1.heap.objs.size,upd H1 s1.heap.objs.size (.lst xs),I1.laid (t':=s1.toks) (fun b u e=>cm _ e) (bE _) ?_,rfl,q _ hf⟩;exact⟨z,us,0,r,cE _ rfl⟩
end
noncomputable abbrev Sp:=List V->Hp->VK->XK->Prop
noncomputable abbrev Qy:=List Env->Hp->af->XK->aa->af->Prop
structure Qz (P:aI)(w:az)(K:ai)(mg:Str->Option aa)(base:ay)(A:aT)(outer:List Env)(s:af)(H:Hp):Prop where
 frames:A.frames=some outer
 mod:Mod K mg base
 bs:∀b o,base.get? b=some o->s.heap.get? b=some o/\H b=none
 bsz:base.objs.size<=s.heap.objs.size
 vM:s.heap.FunFrames base outer
 frf:∀b∈rz outer,H b=none
 hok:uR P w H s.heap
 bare:i8 s.gens
noncomputable def CE(outer:List Env)(P:aI)(w:az)(H:Hp)(s:af)(Q:VK)(u:aa)(s':af):Prop :=
 ∃v H',s'.os=s.os/\i8 s'.gens/\Un (rz outer) [] H H' s.heap s'.heap/\uR P w H' s'.heap/\RelV v u/\Q v H'
noncomputable def CR(CX:Qy)(outer:List Env)(P:aI)(w:az)(H:Hp)(s:af)(Q:VK)(E:XK)(r:Result)(s':af):Prop :=
 match r with
 | .ok (.ret u)=>CE outer P w H s Q u s'
 | .ok _=>False
 | .error e=>CX outer H s E e s'
structure nO (P:aI)(w:az)(K:ai)(mg:Str->Option aa)(base:ay)(CX:Qy)(k:Nat)(f:ae)(fd:dn)(ps:List Str)(sp:Sp):Prop where
 len:∀vs H Q E,sp vs H Q E->vs.length=ps.length
 run:∀(A:aT) (outer:List Env) (s:af) (H:Hp) (args:Args) (us:List aa) (vs:List V) (Q:VK) (E:XK),iB k A->Qz P w K mg base A outer s H->i_ s fd args (ps.zip us)->Vals vs us->sp vs H Q E ->
  ja (aw P w) A (.call (.ref f) args) (CR CX outer P w H s Q E) s
theorem nO.imp{P:aI}{w:az}{K:ai}{mg:Str->Option aa}{base:ay}{CX:Qy}{k:Nat}{f:ae}{fd:dn}{ps:List Str}{sp sp':Sp}(F:nO P w K mg base CX k f fd ps sp)
  (h:∀vs H Q E,sp' vs H Q E->sp vs H Q E):nO P w K mg base CX k f fd ps sp' :=
 ⟨fun vs H Q E q=>F.len vs H Q E (h _ _ _ _ q),fun A outer s H args us vs Q E hr he hb hv hs=>F.run A outer s H args us vs Q E hr he hb hv (h _ _ _ _ hs)⟩
section
variable{X:Cx}{pins:List (ae×Obj)}{σ:St}{H:Hp}{s s':af}
theorem Inv.env0(I:Inv X pins σ H s):Qz X.prog X.w X.K X.mg X.base X.A X.stack s H :=
 ⟨I.ok.frames,I.ok.mod,I.bs,dq I.ok.bsz I.sz,I.stack,I.Am,I.hok,I.bare⟩
theorem Inv.after{Q:VK}{u:aa}(I:Inv X pins σ H s)(h:CE X.stack X.prog X.w H s Q u s'):EP X pins σ Q u s':=by obtain⟨v,H',os,bare,un,hok,r,q⟩:=h;obtain⟨hh,g,d,t,os'⟩:=s';obtain rfl:os'=s.os:=os;exact⟨v,H',I.call (h':=hh) (g':=g) (d':=d) (t':=t) (ch:=[]) un hok bare (fun b z=>absurd z (by simp)),r,q⟩
end
noncomputable def Binds(K:ai)(fd:dn)(ps:List Str)(ds:List aa):Prop :=
 ∀(s:af) (us:List aa),K.In s.heap->(us++ds).length=ps.length->i_ s fd ⟨us,[]⟩ (ps.zip (us++ds))
theorem Binds.all{K:ai}{fd:dn}{ps:List Str}(h:∀us:List aa,us.length=ps.length->bindArgs fd ⟨us,[]⟩=pure (ps.zip us)):Binds K fd ps []:=fun s us _ hl=>by rw[eI]at hl ⊢;exact .of_eq (h us hl)
section
variable{X:Cx}{CX:Qy}{k:Nat}{f C:ae}{fd:dn}{ps:List Str}{sp:Sp}{dvs:List V}{ds:List aa}{E:XK}{x m:Str}{p pos apos:Pos}{e o:ah}{es:List ah}{ta:TE}{t:TA}
structure Mk (K:ai)(C f:ae):Prop where
 makes:PySem.W.makesIn K C=true
 init:om K (.ref C) "__init__"=some (some (.ref f))
 fn:PySem.W.isFn K (.ref f)=true
 kp:ij K (.ref C)=true
end
section
variable{X:Cx}{CX:Qy}{k:Nat}{f C:ae}{fd:dn}{ps ks:List Str}{sp:Sp}{E:XK}{x m:Str}{p pos apos kpos:Pos}{e o:ah}{es:List ah}{kws:List fF}{te ta:TE}{t tk:TA}{nm:Option Str}
structure ahp (K:ai)(fd:dn)(ps ks:List Str)(g:List aa->List aa->List aa)(gV:List V->List V->List V):Prop where
 to:∀(s:af) (us ws:List aa),K.In s.heap->(g us ws).length=ps.length->i_ s fd ⟨us,ks.zip ws⟩ (ps.zip (g us ws))
 rel:∀{vs:List V}{us:List aa}{zs:List V}{ws:List aa},Vals vs us->Vals zs ws->Vals (gV vs zs) (g us ws)
variable{g:List aa->List aa->List aa}{gV:List V->List V->List V}
end
structure bJ (N P:List Str)(sc:Scope):Prop where
 kind:sc.kind=.function
 co:sc.isCoroutine=false
 gen:sc.isGenerator=false
 nd:N.Nodup
 pre:N.take P.length=P
 par:∀x∈P,sc.names.lookup x=some .local∨sc.names.lookup x=some .cell
 abL:∀y∈sc.names,y.2≠.free
theorem zf{kindOf:Str->Option eJ}{x:Str}:∀{binds:List (Str×aa)}{m:Str->Option aa},(∀v,(x,v)∉binds)->kg kindOf binds m x=m x
 | [],_,_=>rfl
 | (n,v)::r,m,h=>by
  unfold kg;rw[zf fun w hw=>h w (fx _ hw)];split
  ·have:x≠n:=by rintro rfl;exact h v e_
   simp[this]
  ·rfl
theorem zj{kindOf:Str->Option eJ}{x:Str}:∀{binds:List (Str×aa)}{m:Str->Option aa},(∀v,(x,v)∉binds)->ki kindOf binds m x=m x
 | [],_,_=>rfl
 | (n,v)::r,m,h=>by
  unfold ki;rw[zj fun w hw=>h w (fx _ hw)];split
  ·rfl
  ·have:x≠n:=by rintro rfl;exact h v e_
   simp[this]
theorem zm{kindOf:Str->Option eJ}{x:Str}{v:aa}:∀{P:List Str}{vs:List aa}{i:Nat}{m:Str->Option aa},P.Nodup->P[i]?=some x->vs[i]?=some v->kindOf x=some .local ->
  kg kindOf (P.zip vs) m x=some v
 | [],_,_,_,_,h,_,_=>by simp at h
 |_::_,[],_,_,_,_,h,_=>by simp at h
 |p::P,w::vs,0,m,nd,h1,h2,hk=>by simp at h1 h2;subst h1;subst h2;show kg kindOf ((p,w)::P.zip vs) m p=_;unfold kg;rw[zf fun v hv=>(gE.mp nd).1 (uv hv).1,if_pos hk];simp
 |p::P,w::vs,i + 1,m,nd,h1,h2,hk=>by show kg kindOf ((p,w)::P.zip vs) m x=_;unfold kg;exact zm (i:=i) (gE.mp nd).2 (by simpa using h1) (by simpa using h2) hk
theorem zp{kindOf:Str->Option eJ}{x:Str}{v:aa}:∀{P:List Str}{vs:List aa}{i:Nat}{m:Str->Option aa},P.Nodup->P[i]?=some x->vs[i]?=some v->kindOf x≠some .local ->
  ki kindOf (P.zip vs) m x=some v
 | [],_,_,_,_,h,_,_=>by simp at h
 |_::_,[],_,_,_,_,h,_=>by simp at h
 |p::P,w::vs,0,m,nd,h1,h2,hk=>by simp at h1 h2;subst h1;subst h2;show ki kindOf ((p,w)::P.zip vs) m p=_;unfold ki;rw[zj fun v hv=>(gE.mp nd).1 (uv hv).1,if_neg hk];simp
 |p::P,w::vs,i + 1,m,nd,h1,h2,hk=>by show ki kindOf ((p,w)::P.zip vs) m x=_;unfold ki;exact zp (i:=i) (gE.mp nd).2 (by simpa using h1) (by simpa using h2) hk
noncomputable def start(N:List Str)(vs:List V):St:=vs.map some++gc (N.length - vs.length) none
noncomputable def nH(CX:Qy)(P:aI)(w:az)(K:ai)(mg:Str->Option aa)(base:ay)(N:List Str)(qual:Str)(scope:Scope)(f:ae)(cd:aa)(A:aT)(outer:List Env)(s:af)(H:Hp)(E:XK):Cx where
 prog:=P
 w:=w
 K:=K
 mg:=mg
 base:=base
 A:=A.deeper (ko qual scope s.heap.objs.size f cd)
 N:=N
 s₀:=s
 H₀:=H
 env:=ko qual scope s.heap.objs.size f cd
 outer:=outer
 stack:=ko qual scope s.heap.objs.size f cd::outer
 ex:=[]
 calm:=true
 fn:=fun _=>true
 pn:=[]
 xe:=fun e s'=>ar (aw P w) (A.deeper (ko qual scope s.heap.objs.size f cd)) (leaving (ko qual scope s.heap.objs.size f cd) e) (fun _ s''=>CX outer H s E e s'') (fun e' s''=>CX outer H s E e' s'') s'
theorem Eh{sc:Scope}{n:Nat}{x:Str}(h:sc.names.lookup x=some .cell):∃c,(cellsFrom n sc.names []).lookup x=some c:=by have q:=PySem.W.cellsFrom_some sc.names n [] (.inl h);exact Option.isSome_iff_exists.mp q
theorem Ny{CX:Qy}{P:aI}{w:az}{K:ai}{mg:Str->Option aa}{base:ay}{N ps:List Str}{qual:Str}{scope:Scope}{f:ae}{cd:aa}{A:aT}{outer:List Env}{s s1:af}{H:Hp}{E:XK}{us:List aa}{vs:List V}
  (S:bJ N ps scope) (hd:A.handled=none) (e0:Qz P w K mg base A outer s H) (hl:vs.length=ps.length) (r:Vals vs us)
  (x:InCallC s s.heap.objs.size (kg (ko qual scope s.heap.objs.size f cd).kindOf (ps.zip us) fun _=>none) (cellsFrom (s.heap.objs.size + 1) scope.names []) (ki (ko qual scope s.heap.objs.size f cd).kindOf (ps.zip us) fun _=>none) s1) :
  Inv (nH CX P w K mg base N qual scope f cd A outer s H E) [] (start N vs) H s1:=by
 have hpl:ps.length<=N.length:=by have:=congrArg jb S.pre;rw[jn]at this;lia
 obtain⟨h1,tk,rfl,hk⟩:=x.done;have Xc:∀b:ae,b∉(nH CX P w K mg base N qual scope f cd A outer s H E).ex:=fun b z=>absurd (show b∈([]:List ae) from z) (by simp);refine⟨⟨e0.mod,S.kind,rfl,rfl,bE _,fun y z c h1 h2=>?_,fun y hy=>?_,fun y c _ h=>?_,fun _=>hd,aT.frames_deeper e0.frames,.inr ⟨rfl,rfl⟩,fun b z=>absurd z (Xc b),e0.bs,e0.bsz,fun b _ _=>Xc b,fun b z=>absurd z (Xc b),e0.vM,e0.frf⟩,
  rfl,e0.bare,Un.kept hk,⟨_,x.toInCall.ns,fun i y v h1 h2 h3=>?_⟩,fun y c h=>⟨_,x.cell y c h⟩,e0.hok.fresh (bE _),fun y c h=>?_,fun p hp=>absurd (show p∈([]:List (ae×Obj)) from hp) (by simp),e0.hok.kept hk,?_⟩
 ·exact name_of_addr x.apart (jv h1) (jv h2)
 ·have hy:scope.names.lookup y=some .cell∨scope.names.lookup y=some .free:=hy;rcases hy with hy|hy
  ·exact Eh hy
  ·exact absurd rfl (S.abL _ (jv hy))
 ·exact gx (x.above y c (jv h))
 ·have hi:i < vs.length:=by
   unfold start at h2;by_cases hi:i < vs.length
   ·exact hi
   ·rw[gL (by simpa using hi)]at h2;rw[kq]at h2;split at h2 <;> cases h2
  have ha:vs[i]?=some v:=by
   unfold start at h2;rw[fg (by simpa using hi),cK]at h2;cases e:vs[i]? with
   |none=>rw[e]at h2;cases h2
   |some a=>rw[e]at h2;cases h2;rfl
  obtain⟨u,hu,rv⟩:=r.get ha;have hp:ps[i]?=some y:=by rw[<- S.pre,mB (by lia)];exact h1
  have ndP:ps.Nodup:=by rw[<- S.pre];exact S.nd.sublist (oo _ _)
  refine⟨u,rv,?_⟩;rcases S.par y (jI hp) with k|k
  ·exact .inl ⟨k,zm ndP hp hu k⟩
  ·obtain⟨c,e⟩:=Eh (n:=s.heap.objs.size + 1) k;refine .inr ⟨.inl k,c,e,?_⟩;have q:=x.cell y c e;rw[zp ndP hp hu (by show scope.names.lookup y≠_;rw[k];decide)]at q;exact q
 ·exact e0.hok.fresh (gx (x.above y c (jv h)))
 ·unfold start;show _=N.length;rw[dy,cw,oq];lia
theorem Kr{CX:Qy}{P:aI}{w:az}{K:ai}{mg:Str->Option aa}{base:ay}{k:Nat}{f:ae}{name qual:Str}{params:Arguments}{body:List bo}{scope:Scope}{dV kV doc pm cdv ct oc:aa}{an od:Option ae}
  {osl:Array (Option aa)}{N ps:List Str}{sp:Sp}(lk:K.lookup f=some ⟨oc,od,.func (iL name qual params body scope dV kV doc pm an cdv ct),osl⟩) (hcd:ox K cdv qual=true) (S:bJ N ps scope)
  (len:∀vs H Q E,sp vs H Q E->vs.length=ps.length)
  (hbody:∀(A:aT) (outer:List Env) (s:af) (H:Hp) (vs:List V) (Q:VK) (E:XK),iB k (A.deeper (ko qual scope s.heap.objs.size f cdv))->uR P w H s.heap->sp vs H Q E ->
   ∃t,yH (nH CX P w K mg base N qual scope f cdv A outer s H E) body t/\t { nx:=fun _ H'=>Q .non H',rt:=Q } (start N vs) H) :
  nO P w K mg base CX (k + 1) f (iL name qual params body scope dV kV doc pm an cdv ct) ps sp:=by
 refine⟨len,fun A outer s H args us vs Q E hr e0 hb r hsp=>?_⟩;have hl:=len _ _ _ _ hsp;have KX:K.In s.heap:=e0.mod.Kf.keeps fun b o e=>(e0.bs b o e).1;have lim:s.heap.NoLimit:=e0.mod.nolimit.keeps fun b o e=>(e0.bs b o e).1;have hkind:∀y∈ps.zip us,scope.names.lookup y.1=some .local∨(scope.names.lookup y.1=some .cell/\((cellsFrom (s.heap.objs.size + 1) scope.names []).lookup y.1).isSome=true):=fun⟨n,v⟩ hy=>by
  rcases S.par n (uv hy).1 with q|q
  ·exact .inl q
  ·exact .inr ⟨q,PySem.W.cellsFrom_some _ _ _ (.inl q)⟩
 refine codeAny_call_function hr.depth (KX _ _ lk) rfl S.co S.gen rfl (PySem.W.codeRec_of KX hcd) (hb _ _ _ _ ?_);refine wpAny_newFunctionEnv_cells S.kind hkind fun env he s1 x=>?_;subst he;refine⟨lim.keeps x.toInCall.keep,codeAny_func ?_⟩;obtain⟨t,ht,hq⟩:=hbody A outer s H vs Q E (hr.deeper _) e0.hok hsp;have I:Inv (nH CX P w K mg base N qual scope f cdv A outer s H E) [] (start N vs) H s1:=Ny S hr.hd e0 hl r x;refine eM (ht [] s1 (start N vs) H _ I hq) (fun fl s' hs=>?_) fun e s' hs=>hs;have dX:∀{σ':St}{H':Hp}{v:V}{u:aa},Inv (nH CX P w K mg base N qual scope f cdv A outer s H E) [] σ' H' s'->RelV v u->Q v H'->CE outer P w H s Q u s' :=
  fun {σ' H' v u} J rv q=>⟨v,H',J.os,J.bare,J.base,J.hok,rv,q⟩
 cases fl with
 |ret u =>
  obtain⟨v,σ',H',J,rv,q⟩:=hs;exact dX J rv q
 |next =>
  obtain⟨σ',H',J,q⟩:=hs;exact dX (v:=V.non) (u:=aa.none) J rfl q
 |brk =>
  obtain⟨_,_,_,q⟩:=hs;exact eR q
 |cont =>
  obtain⟨_,_,_,q⟩:=hs;exact eR q
section
variable{X:Cx}{x:Str}{p pos:Pos}{e:ah}{es:List ah}{t:TA}{id T:String}{r:List V->Hp->VK->Prop}
noncomputable def tCB(r:List V->Hp->VK->Prop)(t:TA):TE:=fun σ H Q=>t σ H fun vs H1=>r vs H1 Q
theorem nP(hc:eF X (.builtin id) r) (hg:Gl X x) (hm:X.mg x=none) (hv:ic x=some (.builtin id)) (ha:PA X (e::es) t) (hn:x≠"__name__":=by decide) (hdb:pK x:=by decide)
  (he:ba (e::es) X.env=(false,bb e X.env)::ba es X.env:=by rfl) (hpl:(df pos (ba es X.env)).any (·.1)=false:=by rfl):PE X (.Call (.Name x p) (e::es) [] pos) (tCB r t):=by
 intro pins s σ H Q I h;refine oy (tM I hg hm hv ?_ hn hdb);exact PyProof.Rows.callWith_builtin1 (gO (ha pos pins s σ H _ I h) fun us s1 ⟨vs,H1,I1,r1,q1⟩=>hc pins s1 σ H1 vs us Q I1 r1 q1) he hpl
theorem zq(hc:eF X (.type T) r) (hg:Gl X x) (hm:X.mg x=none) (hv:ic x=some (.type T)) (ha:PA X (e::es) t) (hn:x≠"__name__":=by decide) (hdb:pK x:=by decide)
  (he:ba (e::es) X.env=(false,bb e X.env)::ba es X.env:=by rfl) (hpl:(df pos (ba es X.env)).any (·.1)=false:=by rfl):PE X (.Call (.Name x p) (e::es) [] pos) (tCB r t):=by
 intro pins s σ H Q I h;refine oy (tM I hg hm hv ?_ hn hdb);exact qk (gO (ha pos pins s σ H _ I h) fun us s1 ⟨vs,H1,I1,r1,q1⟩=>hc pins s1 σ H1 vs us Q I1 r1 q1) he hpl
end
end L2
namespace HT
open PySem PyProof.Rows
section
open PySem.SeqAt
open PySem.AutoSeq1 (wpAny_loadPart')
open PySem.MeetsSeq PySem.MeetsSeq2 PySem.MeetsSeq3
end
section
variable{prog:aI}{w:az}{A:aT}{E:aa->af->Prop}{s:af}
noncomputable def DK(n d:Nat):Option Int->Nat
 |none=>d
 |some v=>if v < 0 then (v + (n:Int)).toNat else min v.toNat n
end
end HT
namespace L2
open PySem PySem.Spec PyProof.Rows
noncomputable abbrev TO:=St->Hp->(Option Int->Hp->Prop)->Prop
noncomputable def PO(X:Cx)(e:Option ah)(t:TO):Prop :=
 ∀(pins:List (ae×Obj)) (s:af) (σ:St) (H:Hp) (Q:Option Int->Hp->Prop),Inv X pins σ H s->t σ H Q ->
  ar (aw X.prog X.w) X.A (evalPart e X.env) (fun u s'=>∃o H',Inv X pins σ H' s'/\IsPart u o/\Q o H') X.xe s
noncomputable def aeN(t:TE):TO:=fun σ H Q=>t σ H fun x H1=>∃i,x=.int i/\Q (some i) H1
theorem Ia{ns:List Int}:∀{us:List aa},Vals (ns.map V.int) us->mE us ns:=by
 induction ns with
 |nil=>intro us r;rw[iN]at r;cases r;exact .nil
 |cons n ns ih =>
  intro us r;rw[bX]at r;cases r with
  |cons r1 r2 =>
   obtain⟨t,e⟩:=r1;subst e;exact .cons n t (ih r2)
section
variable{X:Cx}{e:ah}{te:TE}{lo hi:Option ah}{tl th:TO}{pos p2:Pos}
theorem Xx(h:PE X e te):PO X (some e) (aeN te):=by intro pins s σ H Q I hw;rw[evalPart_some];refine gO (h pins s σ H _ I hw) fun u s1 dF=>?_;obtain⟨x,H1,I1,r1,q1⟩:=dF;obtain⟨i,rfl,q⟩:=q1;obtain⟨t,rfl⟩:=r1;exact⟨some i,H1,I1,.int i t,q⟩
noncomputable def SlR(X:Cx)(r:V->Option Int->Option Int->Hp->VK->Prop):Prop :=
 ∀(pins:List (ae×Obj)) (s:af) (σ:St) (H:Hp) (x:V) (v vl vu:aa) (lo hi:Option Int) (sl:ae) (Q:VK),Inv X pins σ H s->RelV x v->s.heap.IsSliceOf sl vl vu .none->IsPart vl lo->IsPart vu hi->r x lo hi H Q ->
  ∃T id,typeLookup (.type T) "__getitem__"=pure (some (.builtin id))/\s.TypeIs v T/\ar (aw X.prog X.w) X.A (getItem v (.ref sl)) (EP X pins σ Q) X.xe s
noncomputable def tSl(r:V->Option Int->Option Int->Hp->VK->Prop)(te:TE)(tl th:TO):TE:=fun σ H Q=>te σ H fun x H1=>tl σ H1 fun l H2=>th σ H2 fun u H3=>r x l u H3 Q
theorem QB{r:V->Option Int->Option Int->Hp->VK->Prop}(hr:SlR X r)(he:PE X e te)(hl:PO X lo tl)(hu:PO X hi th):PE X (.Subscript e (.Slice lo hi none p2) pos) (tSl r te tl th):=by intro pins s σ H Q I h;refine Subscript_ (gO (he pins s σ H _ I h) fun v s1 dF=>?_);obtain⟨x,H1,I1,r1,q1⟩:=dF;refine wpAny_Slice (gO (hl pins s1 σ H1 _ I1 q1) fun vl s2 ⟨l,H2,I2,pl,q2⟩=>gO (hu pins s2 σ H2 _ I2 q2) fun vu s3 dF=>?_);obtain⟨u,H3,I3,pu,q3⟩:=dF;rw[evalPart_none];refine aS ?_;have I4:Inv X pins σ H3 { s3 with heap:=s3.heap.push { cls:=.type "slice",data:=.fields #[vl,vu,.none] } }:=I3.kept (t':=s3.toks) fun b ob q=>cm _ q;obtain⟨T,id,hT,ht,hg⟩:=hr pins { s3 with heap:=s3.heap.push { cls:=.type "slice",data:=.fields #[vl,vu,.none] } } σ H3 x v vl vu l u s3.heap.objs.size Q I4 r1 (ay.IsSliceOf.new ..) pl pu q3;show ar (aw X.prog X.w) X.A (subscriptTail e (.Slice lo hi none p2) v (.ref s3.heap.objs.size)) (EP X pins σ Q) X.xe { s3 with heap:=s3.heap.push { cls:=.type "slice",data:=.fields #[vl,vu,.none] } };exact tail_any (ops:=[.ref s3.heap.objs.size,v]) ht hT hg (by with_unfolding_all rfl)
noncomputable def Ib(xs:List V)(lo hi:Option Int):List V:=(xs.drop (HT.DK xs.length 0 lo)).take (HT.DK xs.length xs.length hi - HT.DK xs.length 0 lo)
theorem Ei(xs:List V)(lo hi:Option Int):(Ib xs lo hi).length<=xs.length:=by unfold Ib;rw[jn,mI];lia
end
noncomputable def Nz(n:Nat)(i:Int):Option Nat:=if 0<=i then (if i < n then some i.toNat else none) else if-(n:Int)<=i then some (i + n).toNat else none
noncomputable def vU{α:Type}(xs:List α)(i:Int):Option α:=(Nz xs.length i).bind fun j=>xs[j]?
theorem Xy{n:Nat}{i:Int}{j:Nat}(h:Nz n i=some j):seqIndex? i n=some j/\j < n/\-(n:Int)<=i/\i < n:=by
 unfold Nz at h;by_cases h0:0<=i
 ·rw[if_pos h0]at h;by_cases h1:i < n
  ·rw[if_pos h1]at h;have e:i.toNat=j:=dE h;exact⟨by rw[seqIndex_of h0 h1,e],by lia,by lia,h1⟩
  ·rw[if_neg h1]at h;cases h
 ·rw[if_neg h0]at h;by_cases h1:-(n:Int)<=i
  ·rw[if_pos h1]at h;have e:(i + n).toNat=j:=dE h;exact⟨by rw[seqIndex_neg (by lia) h1,e],by lia,h1,by lia⟩
  ·rw[if_neg h1]at h;cases h
theorem Ay{α:Type}{xs:List α}{i:Int}{v:α}(h:vU xs i=some v):∃j,seqIndex? i xs.length=some j/\xs[j]?=some v/\j < xs.length/\-(xs.length:Int)<=i/\i < xs.length:=by
 unfold vU at h;cases e:Nz xs.length i with
 |none=>rw[e]at h;cases h
 |some j =>
  rw[e]at h;obtain⟨h1,h2,h3,h4⟩:=Xy e;exact⟨j,h1,h,h2,h3,h4⟩
noncomputable def Ks(b:ah):Prop:=∀o i,subscripted b false o i=operate [o,i] (getItem o i)
noncomputable def Xz(X:Cx)(r:R2):Prop :=
 ∀(value slice:ah) (pins:List (ae×Obj)) (s:af) (σ:St) (H:Hp) (x y:V) (v u:aa) (Q:VK),Inv X pins σ H s->RelV x v->RelV y u->r x y H Q ->
  subscripted slice false v u=operate [v,u] (getItem v u)->ar (aw X.prog X.w) X.A (subscriptTail value slice v u) (EP X pins σ Q) X.xe s
noncomputable def MtR(X:Cx)(id:String)(r:V->List V->Hp->VK->Prop):Prop :=
 ∀(pins:List (ae×Obj)) (s:af) (σ:St) (H:Hp) (x:V) (xs:List V) (v:aa) (us:List aa) (Q:VK),Inv X pins σ H s->RelV x v->Vals xs us->r x xs H Q ->
  ar (aw X.prog X.w) X.A (call (.builtin id) (v::us)) (EP X pins σ Q) X.xe s
section
variable{X:Cx}{a b:ah}{ta tb:TE}{pos:Pos}
theorem Xz.or{r r':R2}(h:Xz X r)(h':Xz X r'):Xz X (fun x y H Q=>r x y H Q∨r' x y H Q):=by
 intro value slice pins s σ H x y v u Q I rx ry q hs;rcases q with q|q
 ·exact h value slice pins s σ H x y v u Q I rx ry q hs
 ·exact h' value slice pins s σ H x y v u Q I rx ry q hs
theorem aeO{r:R2}(hr:Xz X r)(ha:PE X a ta)(hb:PE X b tb)(hs:Ks b):PE X (.Subscript a b pos) (tOp r ta tb):=by intro pins s σ H Q I h;exact Subscript_ (abx ha hb I h fun v u s2 x y H2 I2 rx ry q=>hr a b pins s2 σ H2 x y v u Q I2 rx ry q (hs _ _))
noncomputable def aeP(K:ai):R2:=fun x y H Q=>∃p xs i v,x=.ref p/\y=.int i/\jz K H p xs/\vU xs i=some v/\Q v H
noncomputable def aeQ(K:ai):R2:=fun x y H Q=>∃p xs i v,x=.ref p/\y=.int i/\iV K H p xs/\vU xs i=some v/\Q v H
noncomputable def aeR:R2:=fun x y H Q=>∃z i c,x=.str z/\y=.int i/\z.length<=sizeLine/\vU z.cps.toList i=some c/\Q (.str ⟨#[c]⟩) H
theorem XC:Xz X (aeP X.K):=by
 intro value slice pins s σ H x y v u Q I rx ry h hs;obtain⟨p,xs,i,z,rfl,rfl,hq,he,q⟩:=h;cases rx;obtain⟨t,rfl⟩:=ry;obtain⟨its,r,pl,hz⟩:=I.list hq;obtain⟨j,h1,h2,h3,h4,h5⟩:=Ay he;obtain⟨w,ew,rw'⟩:=r.get h2;have hl:=r.length;have hn:=Aw;have dX:EP X pins σ Q w s:=⟨z,H,I,rw',q⟩
 by_cases h0:0<=i
 ·have hj:i.toNat=j:=by rw[seqIndex_of h0 h5]at h1;exact dE h1
  exact item_listR pl.isList h0 (by lia) (by rw[hj];simpa using ew) dX hs
 ·have hj:(i + (its.toArray.size:Int)).toNat=j:=by rw[seqIndex_neg (by lia) h4]at h1;rw[cy,<- hl];exact dE h1
  exact subscriptTail_builtinR (x:=w) pl.isList.typeIs slot_list_getitem.lookup
   (wpAny_getItem_list_neg (Q:=fun r s'=>r=w/\EP X pins σ Q r s') pl.isList (by lia) (by rw[cy] <;> lia) (by lia) (by rw[hj];simpa using ew) ⟨rfl,dX⟩) hs
theorem QC:Xz X (aeQ X.K):=by
 intro value slice pins s σ H x y v u Q I rx ry h hs;obtain⟨p,xs,i,z,rfl,rfl,hq,he,q⟩:=h;cases rx;obtain⟨t,rfl⟩:=ry;obtain⟨its,r,pl,hz⟩:=I.tuple hq;obtain⟨j,h1,h2,h3,h4,h5⟩:=Ay he;obtain⟨w,ew,rw'⟩:=r.get h2;have hl:=r.length;have hn:=Aw;have dX:EP X pins σ Q w s:=⟨z,H,I,rw',q⟩
 exact subscriptTail_builtinR (x:=w) pl.typeIs slot_tuple_getitem.lookup
  (getItem_tuple (j:=j) (Q:=fun r s'=>r=w/\EP X pins σ Q r s') pl (by lia) (by lia) (by rw[cy,<- hl];exact h1) (by simpa using ew) ⟨rfl,dX⟩) hs
theorem abN:Xz X aeR:=by
 intro value slice pins s σ H x y v u Q I rx ry h hs;obtain⟨z,i,c,rfl,rfl,hz,he,q⟩:=h;obtain⟨t,rfl⟩:=rx;obtain⟨t',rfl⟩:=ry;obtain⟨j,h1,h2,h3,h4,h5⟩:=Ay he;have hl:z.cps.toList.length=z.length:=by simp[Str.length]
 rw[hl]at h1 h4 h5;have hn:=Aw;exact tail_any (typeIs_str s z t) slot_str_getitem.lookup (getItem_str (c:=c) (by
  have e1:decide (i < -(2 ^ 63:Int))=false:=decide_eq_false (by lia);have e2:decide (i ≥ 2 ^ 63)=false:=decide_eq_false (by lia);rw[e1,e2,Bool.or_false]) (by rw[h1];simpa using h2) ⟨.str ⟨#[c]⟩,H,I.tok _,⟨_,rfl⟩,q⟩) hs
noncomputable def rIx(K:ai):R2:=fun x y H Q=>aeP K x y H Q∨aeQ K x y H Q∨aeR x y H Q
theorem abO:Xz X (rIx X.K):=XC.or (QC.or abN)
theorem Az(lo hi:Option Int)(n:Nat):(k7 lo hi none n).1=((HT.DK n 0 lo:Nat):Int)/\(k7 lo hi none n).2.1=((HT.DK n n hi:Nat):Int)/\(k7 lo hi none n).2.2=1:=by
 refine⟨?_,?_,rfl⟩
 ·cases lo with
  |none=>simp[k7,HT.DK]
  |some i =>
   simp only[k7,HT.DK,Option.getD_none,show(1:Int) > 0 by decide,if_true];by_cases h:i < 0
   ·simp only[h,if_true] <;> lia
   ·simp only[h,if_false] <;> lia
 ·cases hi with
  |none=>simp[k7,HT.DK]
  |some i =>
   simp only[k7,HT.DK,Option.getD_none,show(1:Int) > 0 by decide,if_true];by_cases h:i < 0
   ·simp only[h,if_true] <;> lia
   ·simp only[h,if_false] <;> lia
theorem yI(its:List aa)(lo hi:Option Int):slicePick its.toArray lo hi none=((its.drop (HT.DK its.length 0 lo)).take (HT.DK its.length its.length hi - HT.DK its.length 0 lo)).toArray:=by obtain⟨h1,h2,h3⟩:=Az lo hi its.toArray.size;unfold slicePick;rw[h1,h2,h3];simp only[sliceRange_one,pick_run,cy] <;> rfl
noncomputable def aeS(K:ai):V->Option Int->Option Int->Hp->VK->Prop:=fun x lo hi H Q=>∃a xs,x=.ref a/\jz K H a xs/\∀p,H p=none->Q (.ref p) (upd H p (.lst (Ib xs lo hi)))
theorem XD:SlR X (aeS X.K):=by intro pins s σ H x v vl vu lo hi sl Q I rx hs pl pu h;obtain⟨a,xs,rfl,hx,q⟩:=h;cases rx;obtain⟨its,r,ht,hz⟩:=I.list hx;have hlen:=r.length;refine⟨"list",_,slot_list_getitem.lookup,ht.isList.typeIs,?_⟩;refine wpAny_getItem_list_slice ht.isList hs pl pu .none (by simp) ?_ (by rw[cy] <;> lia);rw[yI,<- hlen];refine⟨.ref s.heap.objs.size,_,I.laid (t':=s.toks) (o:=.lst (Ib xs lo hi)) (fun b ob q=>cm _ q) (bE _) ?_,rfl,q _ (I.hok.fresh (bE _))⟩;exact⟨dq (Ei xs lo hi) hz,_,0,(r.drop (HT.DK xs.length 0 lo)).take (HT.DK xs.length xs.length hi - HT.DK xs.length 0 lo),cE _ rfl⟩
theorem Ba:eF X (.builtin "len") (fun xs H Q=>∃p ys,xs=[.ref p]/\(jz X.K H p ys∨iV X.K H p ys)/\Q (.int ys.length) H):=by
 intro pins s σ H xs us Q I r h;obtain⟨p,ys,rfl,hq,q⟩:=h;obtain⟨u,rfl,rx⟩:=Qv r;cases rx;have hn:=Aw;rcases hq with hq|hq
 ·obtain⟨its,r',pl,hz⟩:=I.list hq;have hlen:=r'.length;exact Calls.call_len_list pl.isList (by simp only[cy] <;> lia) ⟨.int ys.length,H,I.tok _,⟨s.toks + 1,by rw[cy,hlen]⟩,q⟩
 ·obtain⟨its,r',pl,hz⟩:=I.tuple hq;have hlen:=r'.length;exact len_tuple pl (by simp only[cy] <;> lia) ⟨.int ys.length,H,I.tok _,⟨s.toks + 1,by rw[cy,hlen]⟩,q⟩
theorem Bc:eF X (.type "list") (fun xs H Q=>∃p ys,xs=[.ref p]/\(jz X.K H p ys∨iV X.K H p ys)/\∀l,H l=none->Q (.ref l) (upd H l (.lst ys))):=by
 intro pins s σ H xs us Q I r h;obtain⟨p,ys,rfl,hq,q⟩:=h;obtain⟨u,rfl,rx⟩:=Qv r;cases rx;have dX:∀(its:List aa),Vals ys its->ys.length<=sizeLine->∀(h':ay) (c':Nat),(∀b o',s.heap.get? b=some o'->h'.get? b=some o') ->
   h'.get? s.heap.objs.size=some { cls:=.type "list",dict:=none,data:=.seq its.toArray c',slots:=#[] }->EP X pins σ Q (.ref s.heap.objs.size) { s with heap:=h' }:=fun its r' hz h' c' kp e =>
  ⟨.ref s.heap.objs.size,_,I.laid (t':=s.toks) kp (bE _) (show dD X.prog X.w _ h' _ (.lst ys) from⟨hz,its,c',r',e⟩),rfl,q _ (I.hok.fresh (bE _))⟩
 rcases hq with hq|hq
 ·obtain⟨its,r',pl,hz⟩:=I.list hq;have hlen:=r'.length;obtain⟨o,ho,hc,n,hd⟩:=pl.isList;exact call_list_seq p (.inl rfl) ho hc hd (fun h' c' kp e=>dX its r' hz h' c' kp e) (by simp only[cy] <;> lia)
 ·obtain⟨its,r',pl,hz⟩:=I.tuple hq;have hlen:=r'.length;obtain⟨o,ho,hc,n,hd⟩:=pl;exact call_list_seq p (.inr rfl) ho hc hd (fun h' c' kp e=>dX its r' hz h' c' kp e) (by simp only[cy] <;> lia)
theorem yJ:eF X (.type "tuple") (fun xs H Q=>∃p ys,xs=[.ref p]/\((jz X.K H p ys/\∀l,H l=none->Q (.ref l) (upd H l (.tup ys)))∨(iV X.K H p ys/\Q (.ref p) H))):=by
 intro pins s σ H xs us Q I r h;obtain⟨p,ys,rfl,h⟩:=h;obtain⟨u,rfl,rx⟩:=Qv r;cases rx;rcases h with ⟨hq,q⟩|⟨hq,q⟩
 ·obtain⟨its,r',pl,hz⟩:=I.list hq;have hlen:=r'.length;refine call_tuple_list pl.isList (fun h' kp=>?_) (by simp only[cy] <;> lia);have I1:Inv X pins σ H { s with heap:=h' }:=I.kept (t':=s.toks) kp;have I2:Inv X pins σ (upd H h'.objs.size (.tup ys)) { s with heap:=h'.push { cls:=.type "tuple",data:=.seq its.toArray } } :=
   I1.laid (t':=s.toks) (fun b o e=>cm _ e) (bE _) (show dD X.prog X.w _ _ _ (.tup ys) from⟨hz,its,r',IsTup.new _ _⟩)
  exact⟨.ref h'.objs.size,_,I2,rfl,q _ (I1.hok.fresh (bE _))⟩
 ·obtain⟨its,r',pl,hz⟩:=I.tuple hq;exact call_tuple_same pl ⟨.ref p,H,I,rfl,q⟩
noncomputable def tyV(K:ai)(T:String)(x:V)(H:Hp):Prop:=match x with
 | .str _=>T="str"
 | .int _=>T="int"
 | .ref p=>(T="list"/\∃xs,jz K H p xs)∨(T="tuple"/\∃o,K.lookup p=some o/\o.cls=.type "tuple"/\o.dict=none) ∨
   (T="dict"/\((∃kvs,H p=some (.dK kvs))∨∃kvs,H p=some (.dT kvs)))∨(T="set"/\∃S n,H p=some (.set S n))
 |_=>False
theorem abP{pins:List (ae×Obj)}{σ:St}{H:Hp}{s:af}{T:String}{x:V}{v:aa}(I:Inv X pins σ H s)(r:RelV x v)(ty:tyV X.K T x H) :
  s.TypeIs v T/\∀a,v=.ref a->∃ob,s.heap.get? a=some ob/\ob.dict=none:=by
 cases x with
 |str z =>
  obtain⟨t,rfl⟩:=r;cases (show T="str" from ty);exact⟨typeIs_str s z t,fun _ e=>nomatch e⟩
 |int i =>
  obtain⟨t,rfl⟩:=r;cases (show T="int" from ty);exact⟨typeIs_int s i t,fun _ e=>nomatch e⟩
 |ref p =>
  cases r;rcases ty with ⟨rfl,xs,hq⟩|⟨rfl,o,hk,hc,hd⟩|⟨rfl,hk⟩|⟨rfl,S,n,hk⟩
  ·obtain⟨its,_,pl,_⟩:=I.list hq;refine⟨pl.isList.typeIs,fun a e=>?_⟩;cases e;obtain⟨o,n,e,c,hd,_⟩:=pl;exact⟨o,e,hd⟩
  ·refine⟨⟨o,I.DY p o hk,hc⟩,fun a e=>?_⟩;cases e;exact⟨o,I.DY _ o hk,hd⟩
  ·have z:∃o,s.heap.get? p=some o/\o.ExactDict:=by
    rcases hk with ⟨kvs,hk⟩|⟨kvs,hk⟩
    ·obtain⟨_,_,_,_,o,_,_,e,ex,_⟩:=I.hok p _ hk;exact⟨o,e,ex⟩
    ·obtain⟨_,_,_,_,o,_,_,e,ex,_⟩:=I.hok p _ hk;exact⟨o,e,ex⟩
   obtain⟨o,e,ex⟩:=z;refine⟨⟨o,e,ex.1⟩,fun a e2=>?_⟩;cases e2;exact⟨o,e,ex.2.1⟩
  ·obtain⟨o,_,_,_,e,ex,_⟩:=I.hok p _ hk;refine⟨⟨o,e,ex.1⟩,fun a e2=>?_⟩;cases e2;exact⟨o,e,ex.2.1⟩
 |_=>exact eR ty
noncomputable def tBM(K:ai)(T:String)(r:V->List V->Hp->VK->Prop)(to:TE)(t:TA):TE:=fun σ H Q=>to σ H fun x H1=>tyV K T x H1/\t σ H1 fun xs H2=>r x xs H2 Q
variable{o e:ah}{es:List ah}{to:TE}{t:TA}{name:Str}{apos cpos:Pos}{T id:String}{r:V->List V->Hp->VK->Prop}
theorem QD(pa:PlainAttrs T) (slot:Slot T name id) (hty:typeOf (.builtin id)=pure (.type "method_descriptor")) (hm:MtR X id r) (ho:PE X o to) (ha:PA X (e::es) t)
  (hbase:k9 o name X.env (bb o X.env)=bb o X.env:=by rfl)
  (hfew:((df cpos (ba (e::es) X.env)).all (fun x=>!x.1) && (k_ cpos (lh [] X.env)).all (fun x=>x.1.isSome)
   && decide ((e::es).length + ([]:List fF).length + (if ([]:List fF).isEmpty then 0 else 1) < 30))=true:=by rfl)
  (hline:(apos.endLine == cpos.line)=true:=by rfl) (hs:ba (e::es) X.env=(false,bb e X.env)::ba es X.env:=by rfl) (hplain:(df cpos (ba es X.env)).any (·.1)=false:=by rfl) :
  PE X (.Call (.Attribute o name apos) (e::es) [] cpos) (tBM X.K T r to t):=by
 intro pins s σ H Q I h;refine wpAny_Call_method_late hbase hfew hline rfl (gO (ho pins s σ H _ I h) fun v s1 dF=>?_);obtain⟨x,H1,I1,r1,ty,q1⟩:=dF;obtain⟨h1,h2⟩:=abP I1 r1 ty;refine⟨T,id,pa,slot,hty,h1,h2,?_⟩;have hA:=ha cpos pins s1 σ H1 _ I1 q1;rw[hs]at hA ⊢;refine Calls.callWith_builtin (by show(false || (df cpos (ba es X.env)).any (·.1))=false;rw[hplain] <;> rfl) (uA ?_);exact gO hA fun us s2 ⟨vs,H2,I2,r2,q2⟩=>hm pins s2 σ H2 x vs v us Q I2 r1 r2 q2
end
noncomputable def MtM(X:Cx)(id:String)(r:V->List V->Hp->VK->Prop):Prop :=
 ∀(pins:List (ae×Obj)) (s:af) (σ:St) (H:Hp) (x:V) (xs:List V) (v:aa) (us:List aa) (Q:VK),Inv X pins σ H s->RelV x v->Vals xs us->r x xs H Q ->
  ar (aw X.prog X.w) X.A (call (.builtin id) (v::us)) (EP X pins σ Q) X.xe s
theorem Vals.one:∀{x:V}{us:List aa},Vals [x] us->∃u,us=[u]/\RelV x u
 |_,_,.cons r .nil=>⟨_,rfl,r⟩
section
variable{X:Cx}{pins:List (ae×Obj)}{σ:St}{H:Hp}{s:af}{l b:ae}{xs ys zs:List V}
theorem Inv.aeT{its its':List aa}{n:Nat}{f:Array aa->Array aa}{t':Nat}(I:Inv X pins σ H s)(hH:H l=some (.lst xs))
  (e:s.heap.get? l=some { cls:=.type "list",data:=.seq its.toArray n }) (hf:f its.toArray=its'.toArray) (hv:Vals ys its') (hz:ys.length<=sizeLine) :
  Inv X pins σ (upd H l (.lst ys)) { s with heap:=s.heap.update l (eA f),toks:=t' }:=by
 have q:=PySem.IsL.update e f;rw[hf]at q;refine I.write (x:=l) (e:=l) (by rw[hH];exact trivial) (.inl rfl) (fun b' u hb hu=>(jS s.heap (eA f) (bz hb)).trans hu) ⟨_,q⟩ ?_;exact⟨hz,its',_,hv,q⟩
theorem Inv.aeU{its:List aa}{t':Nat}(I:Inv X pins σ H s)(hv:Vals ys its)(hz:ys.length<=sizeLine) :
  Inv X pins σ (upd H s.heap.objs.size (.lst ys)) { s with heap:=s.heap.push { cls:=.type "list",data:=.seq its.toArray },toks:=t' } :=
 I.laid (fun _ _ q=>cm _ q) (bE _) ⟨hz,its,0,hv,cE _ rfl⟩
theorem Inv.fresh(I:Inv X pins σ H s):H s.heap.objs.size=none:=I.hok.fresh (bE _)
theorem Inv.aeV(I:Inv X pins σ H s)(hH:H l=some (.lst xs)):xs.length<=sizeLine/\∃(its:List aa) (n:Nat),Vals xs its/\xs.length=its.length/\s.heap.get? l=some { cls:=.type "list",data:=.seq its.toArray n }:=by obtain⟨z,its,n,r,e⟩:=I.hok l _ hH;exact⟨z,its,n,r,r.length,e⟩
theorem QF{n:Nat}(h:n<=sizeLine):qq n=false:=by unfold qq;exact decide_eq_false (by lia)
end
section
variable{X:Cx}
noncomputable def Ku:V->List V->Hp->VK->Prop:=fun x vs H Q=>∃l xs y,x=.ref l/\vs=[y]/\H l=some (.lst xs)/\xs.length < sizeLine/\Q .non (upd H l (.lst (xs++[y])))
theorem tU:MtM X "list.append" Ku:=by intro pins s σ H x vs v us Q I rx rv h;obtain⟨l,xs,y,rfl,rfl,hH,hz,q⟩:=h;cases rx;obtain⟨u,rfl,ru⟩:=rv.one;obtain⟨z,its,n,r,hl,e⟩:=I.aeV hH;refine call_meets F.slot_list_append ⟨_,e,rfl⟩ F.entry_list_append (F.args_list_append_2 _ _) (PySem.list_append l its.toArray n u (by rw[cy];lia)) ⟨e,?_⟩;refine⟨.non,_,I.aeT (its':=its++[u]) hH e (by simp) (r.append (.cons ru .nil)) ?_,rfl,q⟩;rw[dy,List.length_singleton];lia
end
section
variable{prog:aI}{w:az}{A:aT}{E:aa->af->Prop}{s:af}
end
section
variable{X:Cx}
end
end L2
namespace Att
open PySem PySem.W PySem.Calls PyProof.Rows
theorem uT{P:Params}{h:ay}:∀(ns:List Int) (vs:List aa),WellAll P h vs (ns.map WData.int)->mE vs ns:=by
 intro ns
 induction ns with
 |nil =>
  intro vs w;rw[iN]at w;cases w;exact .nil
 |cons n ns ih =>
  intro vs w;rw[bX]at w;cases w with
  |cons a b =>
   cases a;exact .cons _ _ (ih _ b)
theorem NK{l:mM}{n:Nat}(hn:l.most=some n){P:Params}{h:ay}{args:List WData}{vals:List aa}
  (hpre:l.row.toRowW.claim.pre args=true) (hwl:WellAll P h vals args) :
  ∃a vs ns,vals=[aa.ref a]/\args=[WData.list (ns.map WData.int)]/\h.get? a=some { cls:=.type "list",data:=.seq vs.toArray }/\mE vs ns/\ns.length<=n:=by
 have hsh:WShape.hasAll [] args [.list .int]=true:=(pre_splitW hpre).1;have hc:l.pre.holds [] { args:=args }=true:=(pre_splitW hpre).2;obtain⟨d,r,rfl,h1,h2⟩:=hasAllW_cons hsh;obtain rfl:=hasAllW_nil h2;obtain⟨xs,rfl,h3⟩:=hasW_list h1;obtain⟨ns,rfl⟩:=items_int h3;have hlen:ns.length<=n:=by
  unfold mM.pre at hc;have h4:(WTm.not (.lt (.lit (.int (n:Int))) (.len (.arg 0)))).holds [] { args:=[.list (ns.map .int)] }=true:=by have h4:=(holds_andW hc).1;rw[hn]at h4;exact h4
  have h5:=condW_of h4 (w_not (w_lt w_lit (w_len_list (w_arg rfl))));rw[cw]at h5;refine Nat.le_of_not_lt fun q=>?_;have q':(n:Int) < ((ns.length:Nat):Int):=by lia
  first
   | (rw[decide_eq_true q']at h5;exact absurd h5 (by decide))
   | (simp at h5;lia)
 cases hwl with
 |cons w1 w2 =>
  cases w2;cases w1 with
  |list ho hall=>exact⟨_,_,ns,rfl,rfl,ho,uT ns _ hall,hlen⟩
theorem NP(l:mM)(args:List WData):l.row.toRowW.claim.post args (.bool true) args=true :=
 postW_of (r:=l.row.toRowW) (X:=(true == true))
  (show WShape.has [] (.bool true) .bool=true by first|rfl|decide|simp[WShape.has,WShape.arms,WShape.armsAll])
  (show(WTm.eq .res (.lit (.bool true))).value [] { args:=args,res:=some (.bool true),after:=args }=some (.bool (true == true)) from w_eq_bool (w_res rfl) w_lit) rfl
theorem Ej{l:mM}{n:Nat}{q:aI}{loose:List Str}{XP:(Str->Option aa)->ay->Prop}{YP:az->ay->Prop}{d:DefRec}
  (hn:l.most=some n) (hdf:d.params.defaults=[])
  (call:∀(w:az) (s₀ s₁:af) (mg mb:Str->Option aa) (fa:ae) (o:Obj) (pm cd doc:aa) (a:ae) (vs:List aa) (ns:List Int),
   Ground q loose [] XP w s₀ mg mb s₁.heap->YP w s₁.heap ->
   s₁.heap.get? fa=some o->o.data=.func (docDef d.name d.params d.body d.scope pm cd doc)->s₁.heap.CodeRec cd d.name->mg d.name=some (.ref fa) ->
   s₁.heap.get? a=some { cls:=.type "list",data:=.seq vs.toArray }->mE vs ns->ns.length<=n->s₁.gens=#[] ->
   ja (aw l.prog w) ku (.call (.ref fa) ⟨[.ref a],[]⟩) (fun r s'=>r=.ok (.ret (.bool true))/\OldK s₁.heap s'.heap/\s'.os=s₁.os/\i8 s'.gens) s₁) :
  WalkO q loose XP YP l.row.toRowW d [] (fun f vs=>PySem.call f vs):=by
 intro w s₀ s₁ mg mb G Y fa o pm cd doc dV kV ho hd hcd hD hmg hg args vals as hpre hlay hrd hwl hlo;obtain rfl:dV=.none:=Dflts.none hD hdf;obtain rfl:kV=.none:=Dflts.noKw hD;obtain⟨a,vs,ns,rfl,rfl,hobj,hints,hlen⟩:=NK hn hpre hwl;refine enter_call (lj (call w s₀ s₁ mg mb fa o pm cd doc a vs ns G Y ho (fd_plain hd) hcd hmg hobj hints hlen hg) fun r s' hq=>?_);obtain⟨rfl,h2,h3,h4⟩:=hq;exact⟨.inl ⟨.bool true,.bool true,[],rfl,fun _=>rfl,.bool true,NP l _,fun _=>⟨qr.nil,fun _ hm=>(nomatch hm)⟩⟩,h2,h3,h4⟩
section
variable{prog:aI}{w:az}{A:aT}{E:aa->af->Prop}{s:af}{K:di}
noncomputable def ahr(h:ay)(L d:ae):List (ae×Obj):=(b_ h.objs.size).filterMap fun a=>if a=L∨a=d then none else (h.get? a).map fun o=>(a,o)
end
end Att
namespace L2
open PySem PySem.Spec PyProof.Rows
theorem pO:∀{vs:List aa}{ns:List Int},mE vs ns->Vals (ns.map V.int) vs
 |_,_,.nil=>.nil
 |_,_,.cons n t h=>.cons ⟨t,rfl⟩ (pO h)
noncomputable def abQ(H:Hp):Prop:=∀b,H b=none∨∃o xs,H b=some (.za o (.lst xs))
theorem QG{P:aI}{w:az}{K:ai}{mg mb:Str->Option aa}{CX:Qy}{k:Nat}{fa a:ae}{fd:dn}{x:Str}{sp:Sp}{s₁:af}{vs:List aa}{ns:List Int}
  (KX:K.In s₁.heap) (hns:s₁.heap.Ns cq mg) (hb:s₁.heap.Ns builtinsNs mb) (hbb:∀x:Str,x≠"__name__"->mb x=ic x) (hlim:s₁.heap.NoLimit) (hbm:∃bm ob,mg "__builtins__"=some (.ref bm)/\bm≠builtinsNs/\s₁.heap.get? bm=some ob/\ob.cls=.type "module"/\ob.dict=some builtinsNs/\ob.data=.plain) (hg:s₁.gens=#[])
  (ha:s₁.heap.get? a=some { cls:=.type "list",data:=.seq vs.toArray }) (hi:mE vs ns) (hl:ns.length<=sizeLine) (hr:iB k ku)
  (F:∀base:ay,K.In base->base.Ns cq mg->nO P w K mg base CX k fa fd [x] sp) (hbind:∀(s:af) (u:aa),i_ s fd ⟨[u],[]⟩ [(x,u)])
  (hsp:∀H:Hp,abQ H->jz K H a (ns.map V.int)->sp [.ref a] H (fun v _=>v=.bl true) fun _ _ _=>False)
  (hCX:∀H e s',CX [] H s₁ (fun _ _ _=>False) e s'->False) :
  ja (aw P w) ku (.call (.ref fa) ⟨[.ref a],[]⟩) (fun r s'=>r=.ok (.ret (.bool true))/\OldK s₁.heap s'.heap/\s'.os=s₁.os/\i8 s'.gens) s₁:=by
 have rv:=pO hi;have lenV:=hi.length;have core:∀H:Hp,abQ H->jz K H a (ns.map V.int)->uR P w H s₁.heap->(∀b,H b≠none->b=a)->(H a≠none->K.lookup a=none) ->
   ja (aw P w) ku (.call (.ref fa) ⟨[.ref a],[]⟩) (fun r s'=>r=.ok (.ret (.bool true))/\OldK s₁.heap s'.heap/\s'.os=s₁.os/\i8 s'.gens) s₁:=by
  intro H hO hS hok hA hK;have Bg:∀{b:ae}{o:Obj},s₁.heap.get? b=some o->H b=none->(Al s₁.heap H).get? b=some o:=fun e n=>Qj e n;have Xc:∀{b:ae}{o:Obj}{es:Array mP}{ep:Nat},s₁.heap.get? b=some o->o.data=.dict es ep->H b=none:=fun {b o es ep} e d=>by
   cases q:H b with
   |none=>rfl
   |some u =>
    have e':b=a:=hA b (by rw[q];simp);subst e';rw[ha]at e;cases e;have d':Data.seq vs.toArray _=Data.dict es ep:=d;cases d'
  have nsK:∀{b:ae}{m:Str->Option aa},s₁.heap.Ns b m->(Al s₁.heap H).Ns b m:=fun {b m} ⟨o,es,ep,e,d,r⟩=>⟨o,es,ep,Bg e (Xc e d),d,r⟩
  have hKb:K.In (Al s₁.heap H):=fun b o e=>Bg (KX b o e) (by
   cases q:H b with
   |none=>rfl
   |some u =>
    have e':b=a:=hA b (by rw[q];simp);subst e';rw[hK (by rw[q];simp)]at e;cases e)
  have hM:Mod K mg (Al s₁.heap H):=⟨hKb,nsK hns,⟨mb,nsK hb,hbb⟩,let ⟨mc,h1,h2⟩:=hlim;⟨mc,nsK h1,h2⟩,let ⟨bm,ob,e1,e2,e3,e4,e5,e6⟩:=hbm;⟨bm,ob,e1,e2,Bg e3 (by
   cases q:H bm with
   |none=>rfl
   |some u =>
    have e':bm=a:=hA bm (by rw[q];simp);subst e';rw[ha]at e3;cases e3;cases e6),e4,e5,e6⟩⟩
  have e0:Qz P w K mg (Al s₁.heap H) ku [] s₁ H:=⟨rfl,hM,fun b o e=>Xi e,uB (Nj _ _),trivial,fun b hb=>absurd (show b∈([]:List ae) from hb) (by simp),hok,.of_eq hg⟩
  refine lj ((F _ hKb (nsK hns)).run ku [] s₁ H ⟨[.ref a],[]⟩ [.ref a] [.ref a] _ _ hr e0 (hbind s₁ (.ref a)) (.cons rfl .nil) (hsp H hO hS)) fun r s' h=>?_;cases r with
  |error e=>exact(hCX H e s' h).elim
  |ok fl =>
   cases fl with
   |next=>exact eR h
   |brk=>exact eR h
   |cont=>exact eR h
   |ret u =>
    obtain⟨v,H',os,bare,un,hok',r',q⟩:=h;have q':v=.bl true:=q;subst q';obtain rfl:u=aa.bool true:=r';refine⟨rfl,OldK.of_keep fun b o e=>?_,os,bare⟩;cases q:H b with
    |none=>exact un.keep b o e q (by intro z;exact absurd (show b∈([]:List ae) from z) (by simp)) (by simp)
    |some u =>
     rcases hO b with z|⟨ob,xs,z⟩
     ·rw[q]at z;cases z
     ·have z2:=un.vK b ob _ z;obtain⟨e1,_⟩:=hok b _ z;obtain⟨e2,_⟩:=hok' b _ z2;rw[e]at e1;cases e1;exact e2
 cases hk:K.lookup a with
 |some o =>
  have e:=KX a o hk;rw[ha]at e;cases e;refine core (fun _=>none) (fun _=>.inl rfl) (.inr ⟨_,vs.toArray,_,hk,rfl,rfl,rfl,by rw[cy,lenV];exact hl,by simpa using rv⟩) (fun b u z=>by have z':(none:Option HO)=some u:=z;cases z') (fun b z=>absurd rfl z) fun z=>absurd rfl z
 |none =>
  refine core (fun b=>if b=a then some (.za { cls:=.type "list",data:=.seq vs.toArray } (.lst (ns.map V.int))) else none) (fun b=>?_) (.inl (.inr ⟨{ cls:=.type "list",data:=.seq vs.toArray },if_pos rfl⟩)) (fun b u z=>?_) (fun b z=>?_) fun _=>hk
  ·by_cases hb:b=a
   ·exact .inr ⟨_,_,if_pos hb⟩
   ·exact .inl (if_neg hb)
  ·by_cases hb:b=a
   ·have z':=(if_pos hb).symm.trans z;cases z';subst hb;exact⟨ha,by rw[cw];exact hl,vs,_,rv,ha⟩
   ·have z':=(if_neg hb).symm.trans z;cases z'
  ·by_cases hb:b=a
   ·exact hb
   ·exact absurd (if_neg hb) z
noncomputable abbrev KOf{K:ai}{h:ay}(_:K.In h):ai:=K
theorem XF{l:PySem.W.OpenLaw}{n k:Nat}{q:aI}{loose:List Str}{XP:(Str->Option aa)->ay->Prop}{YP:az->ay->Prop}{d:DefRec}{K:Params->ai}{CX:az->Qy}{sp:az->Sp}{x:Str}
  (hn:l.most=some n) (hn2:n<=sizeLine) (hdf:d.params.defaults=[]) (hr:iB k ku)
  (hY:∀(w:az) (h:ay),YP w h->(K w.params).In h)
  (F:∀(w:az) (mg:Str->Option aa) (fa:ae) (h:ay),(K w.params).In h->h.Ns cq mg->mg d.name=some (.ref fa) ->
   ∃fd:dn,(∀(s:af) (u:aa),i_ s fd ⟨[u],[]⟩ [(x,u)]) /\
    ∀base:ay,(K w.params).In base->base.Ns cq mg->nO l.prog w (K w.params) mg base (CX w) k fa fd [x] (sp w))
  (hsp:∀(w:az) (H:Hp) (a:ae) (ns:List Int),ns.length<=n->abQ H->jz (K w.params) H a (ns.map V.int)->sp w [.ref a] H (fun v _=>v=.bl true) fun _ _ _=>False)
  (hCX:∀(w:az) (H:Hp) (s:af) (e:aa) (s':af),CX w [] H s (fun _ _ _=>False) e s'->False) :
  PySem.W.WalkO q loose XP YP l.row.toRowW d [] (fun f vs=>PySem.call f vs):=by
 refine Att.Ej hn hdf fun w s₀ s₁ mg mb fa o pm cd doc a vs ns G Y ho hd hcd hmg hobj hints hlen hg=>?_;have KX:=hY w _ Y;obtain⟨fd,hb,hF⟩:=F w mg fa _ KX G.T.g hmg;exact QG KX G.T.g G.T.b G.T.builtins G.T.nolimit G.T.bmain hg hobj hints (dq hlen hn2) hr hF hb (fun H hO hS=>hsp w H a ns hlen hO hS) fun H e s'=>hCX w H s₁ e s'
noncomputable def fO(s:bo):Arguments:=match s with
 | .FunctionDef _ a _ _ _ _ _ _ _ _=>a
 |_=>{ posonlyargs:=[],args:=[],vararg:=none,kwonlyargs:=[],kw_defaults:=[],kwarg:=none,defaults:=[] }
noncomputable def cu(s:bo):List bo:=match s with
 | .FunctionDef _ _ b _ _ _ _ _ _ _=>b
 |_=>[]
noncomputable def aF(s:bo):Scope:=match s with
 | .FunctionDef _ _ _ _ _ _ sc _ _ _=>sc
 |_=>{ kind:=.function,names:=[],isGenerator:=false,isCoroutine:=false }
structure Fun (K:ai)(x qual:Str)(st:bo)(f:ae)(fd:dn):Prop where
 ex:∃(oc:aa) (od:Option ae) (kV doc pm:aa) (an:Option ae) (cdv ct:aa) (osl:Array (Option aa)),
  fd=iL x qual (fO st) (cu st) (aF st) .none kV doc pm an cdv ct/\K.lookup f=some ⟨oc,od,.func fd,osl⟩/\ox K cdv qual=true
 kp:ij K (.ref f)=true
section
variable{P:aI}{w:az}{K:ai}{mg:Str->Option aa}{base:ay}
theorem Fun.binds{x qual:Str}{st:bo}{f:ae}{fd:dn}{ps:List Str}(F:Fun K x qual st f fd)
  (h:∀(kV doc pm:aa) (an:Option ae) (cdv ct:aa) (us:List aa),us.length=ps.length->bindArgs (iL x qual (fO st) (cu st) (aF st) .none kV doc pm an cdv ct) ⟨us,[]⟩=pure (ps.zip us)):Binds K fd ps []:=by
 obtain⟨oc,od,kV,doc,pm,an,cdv,ct,osl,rfl,lk,hcd⟩:=F.ex;exact .all (h kV doc pm an cdv ct)
theorem QH{x qual:Str}{st:bo}{f:ae}{oc:aa}{od an:Option ae}{osl:Array (Option aa)}{kV doc pm cdv ct:aa}(l:K.lookup f=some ⟨oc,od,.func (iL x qual (fO st) (cu st) (aF st) .none kV doc pm an cdv ct),osl⟩)
  (c:ox K cdv qual=true) (k:ij K (.ref f)=true):Fun K x qual st f (iL x qual (fO st) (cu st) (aF st) .none kV doc pm an cdv ct):=⟨⟨oc,od,kV,doc,pm,an,cdv,ct,osl,rfl,l,c⟩,k⟩
end
theorem NQ{n:Nat}(h:n<=1000):n < sizeLine:=iO h (by decide)
section
variable{X:Cx}
theorem pv(i:Nat){x:Str}{pos:Pos}(hN:X.N[i]?=some x:=by rfl)(hv:DW X.env.scope x:=by first|exact Or.inl rfl|exact Or.inr (Or.inl rfl)|exact Or.inr (Or.inr rfl))(hd:pK x:=by decide)
  (hcd:HF x:=by decide):PE X (.Name x pos) (Aq i):=gP hN hv hd hcd
end
noncomputable def Same(H H':Hp):Prop:=∀b o,H b=some o->H' b=some o
theorem Same.refl(H:Hp):Same H H:=fun _ _ h=>h
theorem Same.trans{H H1 H2:Hp}(a:Same H H1)(b:Same H1 H2):Same H H2:=fun c o h=>b c o (a c o h)
theorem Same.free{H H':Hp}(e:Same H H'){l:ae}(h:H' l=Option.none):H l=Option.none:=by
 cases q:H l with
 |none=>rfl
 |some o =>
  rw[e l o q]at h;cases h
theorem Same.seq{K:ai}{H H':Hp}{a:ae}{xs:List V}(e:Same H H')(h:jz K H a xs):jz K H' a xs:=by
 rcases h with (h|⟨o,h⟩)|h
 ·exact .inl (.inl (e _ _ h))
 ·exact .inl (.inr ⟨o,e _ _ h⟩)
 ·exact .inr h
end L2
namespace Vl
open PySem PySem.Spec L2
inductive D where
 |non|bl (b:Bool)|int (i:Int)|str (x:Str)|tup (xs:List D)|lst (xs:List D)|zu (c:Str) (n:Int)|zx (ks:LL) (ds:List D)|fn (x:Str)|obj (c:Str) (ns:List Str) (ds:List D)
noncomputable def aal(a C:ae)(dx:Option ae):ay->Prop:=fun h=>∃o vs,h.get? a=some o/\o.cls=.ref C/\o.data=.fields vs/\∀d,dx=some d->o.dict=some d
noncomputable def QJ(c:Str):Str:=if c="NoText" then "at" else "place"
noncomputable def QK(G:Hp)(c:Str)(dx:Option ae)(n:Int):Prop:=n=0∨∃d i,n=2 * i + 1/\dx=some d/\G d=some (.xd [(QJ c,.int i)])
theorem QK.mono{G G':Hp}(e:Same G G'){c:Str}{dx:Option ae}{n:Int}(h:QK G c dx n):QK G' c dx n:=h.imp id fun⟨d,i,h1,h2,h3⟩=>⟨d,i,h1,h2,e _ _ h3⟩
noncomputable def UG(K:ai)(G:Hp):ae->List Int->Prop:=fun b ks=>iV K G b (ks.map V.int)
noncomputable def XH(ks:List Int):Int:=reduceHash (cz.Tuple.tupleHashOf (ks.map hashInt))
noncomputable def iy(U:ae->List Int->Prop)(a:ae)(kvs:List (List Int×V)):ay->Prop:=fun h=>∃(o:Obj) (es:Array mP) (ep:Nat) (xs:List (List Int×ae×aa)),h.get? a=some o/\o.ExactDict/\o.data=.dict es ep/\(a == iE)=false /\
 es.toList=xs.map (fun x=>⟨XH x.1,.ref x.2.1,x.2.2⟩)/\(xs.map (·.1)).Nodup/\Paired (fun(p:List Int×V) (q:List Int×ae×aa)=>p.1=q.1/\U q.2.1 q.1/\RelV p.2 q.2.2) kvs xs
noncomputable def Kw(H:Hp)(d:ae)(U:ae->List Int->Prop)(bw:List (List Int×V)):Prop:=∃φ:ay->Prop,H d=some (.ext φ)/\∀h,φ h->iy U d bw h
theorem Ek{H:Hp}{d:ae}{U:ae->List Int->Prop}{bw:List (List Int×V)}(h:H d=some (.ext (iy U d bw))):Kw H d U bw:=⟨_,h,fun _ z=>z⟩
noncomputable def El(G:Hp)(a:ae)(U:ae->List Int->Prop)(bw:List (List Int×V)):Prop:=∃o,G a=some (.ext fun h=>h.get? a=some o/\iy U a bw h)
theorem El.mono{G G':Hp}{a:ae}{U:ae->List Int->Prop}{bw:List (List Int×V)}(e:Same G G')(h:El G a U bw):El G' a U bw:=let ⟨o,q⟩:=h;⟨o,e _ _ q⟩
mutual
noncomputable def Rep(K:ai)(G:Hp):D->V->Prop
 | .non,v=>v=.non
 | .bl b,v=>v=.bl b
 | .int i,v=>v=.int i
 | .str x,v=>v=.str x
 | .tup ds,v=>∃a vs,v=.ref a/\iV K G a vs/\bA K G ds vs
 | .lst ds,v=>∃a vs,v=.ref a/\jz K G a vs/\bA K G ds vs
 | .zu c n,v=>∃a C dx,v=.ref a/\j0 K cq c=some (some (.ref C))/\G a=some (.ext (aal a C dx))/\QK G c dx n
 | .zx ks ds,v=>∃a U bw,v=.ref a/\El G a U bw/\(∀b js,U b js->UG K G b js)/\bw.map (·.1)=ks/\bA K G ds (bw.map (·.2))
 | .fn x,v=>∃a o fd,v=.ref a/\j0 K cq x=some (some (.ref a))/\K.lookup a=some o/\o.data=.func fd
 | .obj c ns ds,v=>∃a C dx us,v=.ref a/\j0 K cq c=some (some (.ref C))/\G a=some (.ins C dx (ns.zip us))/\G dx=some (.own a)/\us.length=ns.length/\bA K G ds us
noncomputable def bA(K:ai)(G:Hp):List D->List V->Prop
 | [],vs=>vs=[]
 |d::ds,vs=>∃v vs',vs=v::vs'/\Rep K G d v/\bA K G ds vs'
end
theorem Same.dU{K:ai}{H H':Hp}{a:ae}{xs:List V}(e:Same H H')(h:iV K H a xs):iV K H' a xs:=by
 rcases h with (h|⟨o,h⟩)|h
 ·exact .inl (.inl (e _ _ h))
 ·exact .inl (.inr ⟨o,e _ _ h⟩)
 ·exact .inr h
mutual
theorem Rep.mono{K:ai}{G G':Hp}(e:Same G G'):∀{d:D}{v:V},Rep K G d v->Rep K G' d v
 | .non,_,h=>by simp only[Rep]at h ⊢;exact h
 | .bl _,_,h=>by simp only[Rep]at h ⊢;exact h
 | .int _,_,h=>by simp only[Rep]at h ⊢;exact h
 | .str _,_,h=>by simp only[Rep]at h ⊢;exact h
 | .tup ds,_,h=>by simp only[Rep]at h ⊢;obtain⟨a,vs,e1,h1,h2⟩:=h;exact⟨a,vs,e1,Same.dU e h1,bA.mono e h2⟩
 | .lst ds,_,h=>by simp only[Rep]at h ⊢;obtain⟨a,vs,e1,h1,h2⟩:=h;exact⟨a,vs,e1,e.seq h1,bA.mono e h2⟩
 | .zu c n,_,h=>by simp only[Rep]at h ⊢;obtain⟨a,C,dx,e1,h1,h2,h3⟩:=h;exact⟨a,C,dx,e1,h1,e _ _ h2,h3.mono e⟩
 | .fn x,_,h=>by simp only[Rep]at h ⊢;exact h
 | .obj c ns ds,_,h=>by simp only[Rep]at h ⊢;obtain⟨a,C,dx,us,e1,h1,h2,h3,h4,h5⟩:=h;exact⟨a,C,dx,us,e1,h1,e _ _ h2,e _ _ h3,h4,bA.mono e h5⟩
 | .zx ks ds,_,h=>by simp only[Rep]at h ⊢;obtain⟨a,U,bw,e1,h1,h2,h3,h4⟩:=h;exact⟨a,U,bw,e1,h1.mono e,fun b js q=>Same.dU e (h2 b js q),h3,bA.mono e h4⟩
theorem bA.mono{K:ai}{G G':Hp}(e:Same G G'):∀{ds:List D}{vs:List V},bA K G ds vs->bA K G' ds vs
 | [],_,h=>by simp only[bA]at h ⊢;exact h
 |d::ds,_,h=>by simp only[bA]at h ⊢;obtain⟨v,vs',e1,h1,h2⟩:=h;exact⟨v,vs',e1,Rep.mono e h1,bA.mono e h2⟩
end
section
variable{K:ai}{G:Hp}
theorem aU{i:Int}{v:V}:Rep K G (.int i) v↔v=.int i:=by simp only[Rep]
theorem cB{i:Bool}{v:V}:Rep K G (.bl i) v↔v=.bl i:=by simp only[Rep]
theorem jh{v:V}:Rep K G .non v↔v=.non:=by simp only[Rep]
theorem mK{x:Str}{v:V}:Rep K G (.str x) v↔v=.str x:=by simp only[Rep]
theorem bD{ds:List D}{v:V}:Rep K G (.tup ds) v↔∃a vs,v=.ref a/\iV K G a vs/\bA K G ds vs:=by simp only[Rep]
theorem bh{ds:List D}{v:V}:Rep K G (.lst ds) v↔∃a vs,v=.ref a/\jz K G a vs/\bA K G ds vs:=by simp only[Rep]
theorem Bh{c:Str}{n:Int}{v:V}:Rep K G (.zu c n) v↔∃a C dx,v=.ref a/\j0 K cq c=some (some (.ref C))/\G a=some (.ext (aal a C dx))/\QK G c dx n:=by simp only[Rep]
theorem vV{x:Str}{v:V}:Rep K G (.fn x) v↔∃a o fd,v=.ref a/\j0 K cq x=some (some (.ref a))/\K.lookup a=some o/\o.data=.func fd:=by simp only[Rep]
theorem Bj{c:Str}{ns:List Str}{ds:List D}{v:V}:Rep K G (.obj c ns ds) v↔∃a C dx us,v=.ref a/\j0 K cq c=some (some (.ref C))/\G a=some (.ins C dx (ns.zip us))/\G dx=some (.own a)/\us.length=ns.length/\bA K G ds us:=by simp only[Rep]
theorem Bk{ks:LL}{ds:List D}{v:V}:Rep K G (.zx ks ds) v↔∃a U bw,v=.ref a/\El G a U bw/\(∀b js,U b js->UG K G b js)/\bw.map (·.1)=ks/\bA K G ds (bw.map (·.2)):=by simp only[Rep]
theorem aZ{vs:List V}:bA K G [] vs↔vs=[]:=by simp only[bA]
theorem aG{d:D}{ds:List D}{vs:List V}:bA K G (d::ds) vs↔∃v vs',vs=v::vs'/\Rep K G d v/\bA K G ds vs':=by simp only[bA]
theorem bA.length:∀{ds:List D}{vs:List V},bA K G ds vs->ds.length=vs.length
 | [],_,h=>by rw[aZ.mp h];rfl
 |d::ds,_,h=>by obtain⟨v,vs',rfl,_,h2⟩:=aG.mp h;simp[bA.length h2]
theorem bA.get:∀{ds:List D}{vs:List V}{i:Nat}{d:D},bA K G ds vs->ds[i]?=some d->∃v,vs[i]?=some v/\Rep K G d v
 | [],_,_,_,h,e=>by simp at e
 |d::ds,_,i,x,h,e=>by
  obtain⟨v,vs',rfl,h1,h2⟩:=aG.mp h;cases i with
  |zero=>simp at e;subst e;exact⟨v,by simp,h1⟩
  |succ i=>obtain⟨u,q1,q2⟩:=bA.get (i:=i) h2 (by simpa using e);exact⟨u,by simpa using q1,q2⟩
theorem bA.get':∀{ds:List D}{vs:List V}{i:Nat}{v:V},bA K G ds vs->vs[i]?=some v->∃d,ds[i]?=some d/\Rep K G d v
 | [],_,_,_,h,e=>by rw[aZ.mp h]at e;simp at e
 |d::ds,_,i,x,h,e=>by
  obtain⟨v,vs',rfl,h1,h2⟩:=aG.mp h;cases i with
  |zero=>simp at e;subst e;exact⟨d,by simp,h1⟩
  |succ i=>obtain⟨u,q1,q2⟩:=bA.get' (i:=i) h2 (by simpa using e);exact⟨u,by simpa using q1,q2⟩
theorem bA.append:∀{ds es:List D}{vs us:List V},bA K G ds vs->bA K G es us->bA K G (ds++es) (vs++us)
 | [],_,_,_,h,h'=>by rw[aZ.mp h];exact h'
 |d::ds,_,_,_,h,h'=>by obtain⟨v,vs',rfl,h1,h2⟩:=aG.mp h;exact aG.mpr ⟨v,_,rfl,h1,bA.append h2 h'⟩
theorem bA.one{d:D}{v:V}(h:Rep K G d v):bA K G [d] [v]:=aG.mpr ⟨v,[],rfl,h,aZ.mpr rfl⟩
theorem bA.drop:∀{ds:List D}{vs:List V}(n:Nat),bA K G ds vs->bA K G (ds.drop n) (vs.drop n)
 |ds,vs,0,h=>by simpa using h
 | [],_,n + 1,h=>by rw[aZ.mp h];simpa using aZ.mpr rfl
 |d::ds,_,n + 1,h=>by obtain⟨v,vs',rfl,h1,h2⟩:=aG.mp h;simpa using bA.drop n h2
theorem bA.take:∀{ds:List D}{vs:List V}(n:Nat),bA K G ds vs->bA K G (ds.take n) (vs.take n)
 |ds,vs,0,h=>by simpa using aZ.mpr rfl
 | [],_,n + 1,h=>by rw[aZ.mp h];simpa using aZ.mpr rfl
 |d::ds,_,n + 1,h=>by obtain⟨v,vs',rfl,h1,h2⟩:=aG.mp h;simpa using aG.mpr ⟨v,_,rfl,h1,bA.take n h2⟩
theorem tV(ns:List Int):bA K G (ns.map D.int) (ns.map V.int):=by
 induction ns with
 |nil=>exact aZ.mpr rfl
 |cons n ns ih=>exact aG.mpr ⟨_,_,rfl,aU.mpr rfl,ih⟩
end
inductive Rs (α:Type) where
 |ok (a:α)|ex (c:Str) (n:Int)|no
noncomputable def Rs.bind{α β:Type}:Rs α->(α->Rs β)->Rs β
 | .ok a,k=>k a
 | .ex c n,_=>.ex c n
 | .no,_=>.no
inductive Sl where
 |no|fz (d:D)|ow (ds:List D)|od (kvs:List (List Int×D))|op (ds:List D)|oe (kvs:List (List Int×D))
noncomputable def Sl.lnt:Sl->Bool
 | .op _=>true
 | .oe _=>true
 |_=>false
noncomputable def Sl.own:Sl->Bool
 | .ow _=>true
 | .od _=>true
 | .op _=>true
 | .oe _=>true
 |_=>false
theorem Sl.vf{z:Sl}(h:z.lnt=true):z.own=true:=by cases z <;> first|rfl|cases h
inductive cg (K:ai) (G:Hp):List (List Int×D)->List (List Int×V)->Prop
 |nil:cg K G [] []
 |cons {k:List Int}{d:D}{v:V}{kvs:List (List Int×D)}{bw:List (List Int×V)}:Rep K G d v->cg K G kvs bw->cg K G ((k,d)::kvs) ((k,v)::bw)
theorem cg.mono{K:ai}{G G':Hp}(e:Same G G'){kvs:List (List Int×D)}{bw:List (List Int×V)}(h:cg K G kvs bw):cg K G' kvs bw:=by
 induction h with
 |nil=>exact .nil
 |cons r _ ih=>exact .cons (r.mono e) ih
noncomputable def nQ(K:ai)(G:Hp)(a:ae):Sl->HO->Prop
 | .ow ds,o=>∃vs,o=.lst vs/\bA K G ds vs
 | .op ds,o=>∃vs,o=.lst vs/\bA K G ds vs
 | .od kvs,o=>∃U bw,o=.ext (iy U a bw)/\(∀b ks,U b ks->UG K G b ks)/\cg K G kvs bw
 | .oe kvs,o=>∃U bw,o=.ext (iy U a bw)/\(∀b ks,U b ks->UG K G b ks)/\cg K G kvs bw
 |_,_=>False
theorem nQ.mono{K:ai}{G G':Hp}(e:Same G G'){a:ae}{z:Sl}{o:HO}(h:nQ K G a z o):nQ K G' a z o:=by
 cases z with
 |ow ds=>obtain⟨vs,h1,h2⟩:=h;exact⟨vs,h1,h2.mono e⟩
 |od kvs=>obtain⟨U,bw,h1,h2,h3⟩:=h;exact⟨U,bw,h1,fun b ks q=>Same.dU e (h2 b ks q),h3.mono e⟩
 |op ds=>obtain⟨vs,h1,h2⟩:=h;exact⟨vs,h1,h2.mono e⟩
 |oe kvs=>obtain⟨U,bw,h1,h2,h3⟩:=h;exact⟨U,bw,h1,fun b ks q=>Same.dU e (h2 b ks q),h3.mono e⟩
 |_=>exact h.elim
theorem nQ.tup{K:ai}{G:Hp}{a:ae}{z:Sl}{xs:List V}(h:nQ K G a z (.tup xs)):False:=by
 cases z with
 |ow ds=>obtain⟨vs,h1,h2⟩:=h;cases h1
 |od kvs=>obtain⟨U,bw,h1,h2,h3⟩:=h;cases h1
 |op ds=>obtain⟨vs,h1,h2⟩:=h;cases h1
 |oe kvs=>obtain⟨U,bw,h1,h2,h3⟩:=h;cases h1
 |_=>exact h
noncomputable abbrev ak:=List Sl
structure Bs where
 g:Hp
 h:Hp
 p:ae
noncomputable abbrev Wi:=Str->Int->St->Hp->Prop
noncomputable def XJ(fd:dn):Bool:=match fd.body with
 | .stmts ss=>(match ss.getLast? with
  |some (.Return (some (.Call _ _ (k::_) _)) _)=>(match k.value with|.Lambda _ _ _ _=>true|_=>false)
  |_=>false)
 |_=>false
noncomputable def abS(K:ai):List (ae×Str):=K.filterMap fun p=>match p.2.data with
 | .func fd=>if XJ fd then (match fd.code with
  | .ref c=>(match K.lookup c with
   |some oc=>(match oc.data with|.fields vs=>(match (vs[11]?:Option aa) with|some (.ref P)=>some (P,fd.qualname++(".<locals>.<lambda>":Str))|_=>none)|_=>none)
   |none=>none)
  |_=>none) else none
 |_=>none
noncomputable def Cok(K:ai)(H:Hp):Prop:=∀x∈abS K,H x.1=some (.tab x.2)
theorem Cok.same{K:ai}{H H':Hp}(h:Cok K H)(e:Same H H'):Cok K H':=fun x m=>e _ _ (h x m)
theorem Cok.upd{K:ai}{H:Hp}{a:ae}{o u:HO}(h:Cok K H)(e:H a=some u)(n:∀q,u≠.tab q):Cok K (upd H a o):=fun x m=>by have:=h x m;rw[aL (fun z=>by subst z;rw[e]at this;exact n _ (dE this))];exact this
theorem nQ.tab{K:ai}{G:Hp}{a:ae}{z:Sl}{o:HO}(h:nQ K G a z o):∀q,o≠.tab q:=fun q e=>by
 subst e;cases z with
 |ow ds=>obtain⟨vs,h1,h2⟩:=h;cases h1
 |od kvs=>obtain⟨U,bw,h1,h2,h3⟩:=h;cases h1
 |op ds=>obtain⟨vs,h1,h2⟩:=h;cases h1
 |oe kvs=>obtain⟨U,bw,h1,h2,h3⟩:=h;cases h1
 |_=>exact h
structure Ext (G H G' H':Hp):Prop where
 gg:Same G G'
 hh:Same H H'
 gh:Same G' H'
 tp:∀a xs,H' a=some (.tup xs)->G' a=some (.tup xs)
 nw:∀b o,H b=some o->G b=none->G' b=none
theorem Ext.trans{G H G1 H1 G2 H2:Hp}(a:Ext G H G1 H1)(b:Ext G1 H1 G2 H2):Ext G H G2 H2 :=
 ⟨a.gg.trans b.gg,a.hh.trans b.hh,b.gh,b.tp,fun c o h n=>b.nw c o (a.hh c o h) (a.nw c o h n)⟩
theorem Ext.refl{G H:Hp}(gh:Same G H)(tp:∀a xs,H a=some (.tup xs)->G a=some (.tup xs)):Ext G H G H:=⟨.refl _,.refl _,gh,tp,fun _ _ _ n=>n⟩
structure SR (K:ai)(B:Bs)(σ:St)(H:Hp)(ρ:ak)(G:Hp):Prop where
 en:Ext B.1 B.2 G H
 len:ρ.length=σ.length
 fz:∀(i:Nat) (d:D),ρ[i]?=some (.fz d)->∃v,σ[i]?=some (some v)/\Rep K G d v
 own:∀(i:Nat) (z:Sl),ρ[i]?=some z->z.own=true->∃a o,σ[i]?=some (some (.ref a))/\H a=some o/\G a=none/\B.2 a=none/\nQ K G a z o
 ap:∀(i j:Nat) (z z':Sl) (a:ae),ρ[i]?=some z->z.own=true->ρ[j]?=some z'->z'.own=true->σ[i]?=some (some (.ref a))->σ[j]?=some (some (.ref a))->i=j
 tie:∀(i:Nat) (z:Sl) (a:ae),ρ[i]?=some z->z.lnt=true->σ[i]?=some (some (.ref a))->a=B.3
 co:Cok K H
structure Ex0 (K:ai)(G H:Hp):Prop extends Ext G H G H where
 co:Cok K H
section
variable{K:ai}{B:Bs}{σ:St}{H H' G G':Hp}{ρ:ak}
theorem SR.yK(h:SR K B σ H ρ G):Ext G H G H:=.refl h.en.gh h.en.tp
theorem SR.ext(h:SR K B σ H ρ G)(e:Ext G H G' H'):SR K B σ H' ρ G' where
 en:=h.en.trans e
 len:=h.len
 fz:=fun i d q=>let ⟨v,h1,h2⟩:=h.fz i d q;⟨v,h1,h2.mono e.gg⟩
 own:=fun i z q w=>let ⟨a,o,h1,h2,h3,h4,h5⟩:=h.own i z q w;⟨a,o,h1,e.hh _ _ h2,e.nw _ _ h2 h3,h4,h5.mono e.gg⟩
 ap:=h.ap
 tie:=h.tie
 co:=h.co.same e.hh
theorem SR.ex0(h:SR K B σ H ρ G):Ex0 K G H:=⟨h.yK,h.co⟩
theorem SR.set(h:SR K B σ H ρ G){i:Nat}{d:D}{v:V}(r:Rep K G d v):SR K B (σ.set i (some v)) H (ρ.set i (.fz d)) G where
 en:=h.en
 len:=by simp[h.len]
 fz:=fun j d' q=>by
  by_cases e:i=j
  ·subst e;have hl:i < ρ.length:=by have:=(dm.mp q).1;simpa using this
   rw[dC hl]at q;cases q;exact⟨v,dC (by rw[<- h.len];exact hl),r⟩
  ·rw[de e]at q;rw[de e];exact h.fz j d' q
 own:=fun j z q w=>by
  by_cases e:i=j
  ·subst e;have hl:i < ρ.length:=by have:=(dm.mp q).1;simpa using this
   rw[dC hl]at q;cases q;cases w
  ·rw[de e]at q;rw[de e];exact h.own j z q w
 ap:=fun j k z z' a q1 w1 q2 w2 q3 q4=>by
  have ne:∀(l:Nat) (z:Sl),(ρ.set i (.fz d))[l]?=some z->z.own=true->i≠l:=fun l z q w e=>by
   subst e;have hl:i < ρ.length:=by have:=(dm.mp q).1;simpa using this
   rw[dC hl]at q;cases q;cases w
  have n1:=ne j z q1 w1;have n2:=ne k z' q2 w2;rw[de n1]at q1 q3;rw[de n2]at q2 q4;exact h.ap j k z z' a q1 w1 q2 w2 q3 q4
 tie:=fun j z a q1 w q2=>by
  have e:i≠j:=fun e=>by
   subst e;have hl:i < ρ.length:=by have:=(dm.mp q1).1;simpa using this
   rw[dC hl]at q1;cases q1;cases w
  rw[de e]at q1 q2;exact h.tie j z a q1 w q2
 co:=h.co
theorem SR.ow(h:SR K B σ H ρ G)(i:Nat)(ds:List D)(q:ρ[i]?=some (.ow ds)):∃a vs,σ[i]?=some (some (.ref a))/\H a=some (.lst vs)/\G a=none/\B.2 a=none/\bA K G ds vs:=by obtain⟨a,o,h1,h2,h3,h4,vs,rfl,h5⟩:=h.own i _ q rfl;exact⟨a,vs,h1,h2,h3,h4,h5⟩
theorem rC(gh:Same G H)(tp:∀a xs,H a=some (.tup xs)->G a=some (.tup xs)){p:ae}{xs:List V}(hp:H p=none):Ext G H (upd G p (.tup xs)) (upd H p (.tup xs)) where
 gg:=fun b o e=>by rw[aL (aM (gh _ _ e) hp)];exact e
 hh:=fun b o e=>by rw[aL (aM e hp)];exact e
 gh:=fun b o e=>by
  by_cases q:b=p
  ·subst q;rw[aQ]at e ⊢;exact e
  ·rw[aL q]at e ⊢;exact gh _ _ e
 tp:=fun b ys e=>by
  by_cases q:b=p
  ·subst q;rw[aQ]at e ⊢;exact e
  ·rw[aL q]at e ⊢;exact tp _ _ e
 nw:=fun b o e n=>by rw[aL (aM e hp)];exact n
theorem ji(gh:Same G H)(tp:∀a xs,H a=some (.tup xs)->G a=some (.tup xs)){p:ae}{xs:List V}(hp:H p=none):Ext G H (upd G p (.lst xs)) (upd H p (.lst xs)) where
 gg:=fun b o e=>by rw[aL (aM (gh _ _ e) hp)];exact e
 hh:=fun b o e=>by rw[aL (aM e hp)];exact e
 gh:=fun b o e=>by
  by_cases q:b=p
  ·subst q;rw[aQ]at e ⊢;exact e
  ·rw[aL q]at e ⊢;exact gh _ _ e
 tp:=fun b ys e=>by
  by_cases q:b=p
  ·subst q;rw[aQ]at e;cases e
  ·rw[aL q]at e ⊢;exact tp _ _ e
 nw:=fun b o e n=>by rw[aL (aM e hp)];exact n
theorem XM(gh:Same G H)(tp:∀a xs,H a=some (.tup xs)->G a=some (.tup xs)){p:ae}{o:HO}(ho:∀xs,o≠.tup xs)(hp:H p=none):Ext G H G (upd H p o) where
 gg:=.refl _
 hh:=fun b o e=>by rw[aL (aM e hp)];exact e
 gh:=fun b o e=>by rw[aL (aM (gh _ _ e) hp)];exact gh _ _ e
 tp:=fun b ys e=>by
  by_cases q:b=p
  ·subst q;rw[aQ]at e;cases e;exact absurd rfl (ho ys)
  ·rw[aL q]at e;exact tp _ _ e
 nw:=fun b o e n=>n
theorem Ky(gh:Same G H)(tp:∀a xs,H a=some (.tup xs)->G a=some (.tup xs)){p:ae}{xs:List V}(hp:H p=none):Ext G H G (upd H p (.lst xs)) where
 gg:=.refl _
 hh:=fun b o e=>by rw[aL (aM e hp)];exact e
 gh:=fun b o e=>by rw[aL (aM (gh _ _ e) hp)];exact gh _ _ e
 tp:=fun b ys e=>by
  by_cases q:b=p
  ·subst q;rw[aQ]at e;cases e
  ·rw[aL q]at e;exact tp _ _ e
 nw:=fun b o e n=>n
end
noncomputable def Post(K:ai)(W:Wi)(σ:St)(G H:Hp)(r:Rs D)(Q:VK):Prop :=
 match r with
 | .ok d=>∀v H' G',Ext G H G' H'->Rep K G' d v->Q v H'
 | .ex c n=>∀H' G',Ext G H G' H'->W c n σ H'
 | .no=>False
noncomputable def tF(K:ai)(B:Bs)(W:Wi)(f:ak->Rs D):TE:=fun σ H Q=>∃ρ G,SR K B σ H ρ G/\Post K W σ G H (f ρ) Q
noncomputable def SE(X:Cx)(B:Bs)(W:Wi)(e:ah)(f:ak->Rs D):Prop:=PE X e (tF X.K B W f)
theorem PE.imp{X:Cx}{e:ah}{t t':TE}(h:PE X e t)(i:∀σ H Q,t' σ H Q->t σ H Q):PE X e t':=fun pins s σ H Q I q=>h pins s σ H Q I (i σ H Q q)
theorem PT.imp{X:Cx}{e:ah}{t t':TT}(h:PT X e t)(i:∀σ H Q,t' σ H Q->t σ H Q):PT X e t':=fun pins s σ H Q I q=>h pins s σ H Q I (i σ H Q q)
theorem PA.imp{X:Cx}{e:List ah}{t t':TA}(h:PA X e t)(i:∀σ H Q,t' σ H Q->t σ H Q):PA X e t':=fun pos pins s σ H Q I q=>h pos pins s σ H Q I (i σ H Q q)
theorem PS.imp{X:Cx}{e:bo}{t t':TS}(h:PS X e t)(i:∀De σ H,t' De σ H->t De σ H):PS X e t':=fun pins s σ H De I q=>h pins s σ H De I (i De σ H q)
theorem yH.imp{X:Cx}{e:List bo}{t t':TS}(h:yH X e t)(i:∀De σ H,t' De σ H->t De σ H):yH X e t':=fun pins s σ H De I q=>h pins s σ H De I (i De σ H q)
section
variable{X:Cx}{K:ai}{B:Bs}{W:Wi}{σ:St}{G H:Hp}{ρ:ak}{Q Q':VK}
theorem Post.mono{r:Rs D}(h:Post K W σ G H r Q)(i:∀v H',Q v H'->Q' v H'):Post K W σ G H r Q':=by
 cases r with
 |ok d=>exact fun v H' G' e r=>i _ _ (h v H' G' e r)
 |ex c n=>exact h
 |no=>exact h
theorem Post.ext{r:Rs D}{G' H':Hp}(e:Ext G H G' H')(h:Post K W σ G H r Q):Post K W σ G' H' r Q:=by
 cases r with
 |ok d=>exact fun v Kz G'' e' r=>h v Kz G'' (e.trans e') r
 |ex c n=>exact fun Kz G'' e'=>h Kz G'' (e.trans e')
 |no=>exact h
theorem Post.bind{r:Rs D}{k:D->Rs D}(h:Post K W σ G H (r.bind k) Q) :
  Post K W σ G H r fun v H1=>∃G1 d,Ext G H G1 H1/\Rep K G1 d v/\Post K W σ G1 H1 (k d) Q:=by
 cases r with
 |ok d=>exact fun v H' G' e r=>⟨G',d,e,r,Post.ext e h⟩
 |ex c n=>exact h
 |no=>exact h
theorem Post.ok{d:D}{v:V}(s:SR K B σ H ρ G)(h:Post K W σ G H (.ok d) Q)(r:Rep K G d v):Q v H:=h v H G s.yK r
theorem pP{f:ak->Rs D}{k:ak->D->Rs D}(h:tF K B W (fun ρ=>(f ρ).bind (k ρ)) σ H Q) :
  tF K B W f σ H fun v H1=>∃ρ G1 d,SR K B σ H1 ρ G1/\Rep K G1 d v/\Post K W σ G1 H1 (k ρ d) Q:=by
 obtain⟨ρ,G,s,p⟩:=h;exact⟨ρ,G,s,p.bind.mono fun v H1 ⟨G1,d,e,r,q⟩=>⟨ρ,G1,d,s.ext e,r,q⟩⟩
theorem QL{f:ak->Rs D}{k:D->D->Rs D}{v:V}(h:∃ρ G1 d,SR K B σ H ρ G1/\Rep K G1 d v/\Post K W σ G1 H ((f ρ).bind (k d)) Q) :
  tF K B W f σ H fun u H1=>∃ρ G1 d d',SR K B σ H1 ρ G1/\Rep K G1 d v/\Rep K G1 d' u/\Post K W σ G1 H1 (k d d') Q:=by
 obtain⟨ρ,G,d,s,r,p⟩:=h;exact⟨ρ,G,s,p.bind.mono fun u H1 ⟨G1,d',e,r',q⟩=>⟨ρ,G1,d,d',s.ext e,r.mono e.gg,r',q⟩⟩
noncomputable def ao(i:Nat):ak->Rs D:=fun ρ=>match ρ[i]? with|some (.fz d)=>.ok d|_=>.no
noncomputable def fC(d:D):ak->Rs D:=fun _=>.ok d
theorem abT{e:ah}{i:Nat}(h:PE X e (Aq i)):SE X B W e (ao i):=PE.imp h fun σ H Q ⟨ρ,G,s,p⟩=>by
 unfold ao at p;cases q:ρ[i]? with
 |none=>rw[q]at p;exact p.elim
 |some x =>
  rw[q]at p;cases x with
  |no=>exact p.elim
  |ow _=>exact p.elim
  |od _=>exact p.elim
  |op _=>exact p.elim
  |oe _=>exact p.elim
  |fz d =>
   obtain⟨v,h1,h2⟩:=s.fz i d q;exact⟨v,h1,Post.ok s p h2⟩
theorem sv(i:Nat){x:Str}{pos:Pos}(hN:X.N[i]?=some x:=by rfl)(hv:DW X.env.scope x:=by first|exact Or.inl rfl|exact Or.inr (Or.inl rfl)|exact Or.inr (Or.inr rfl))(hd:pK x:=by decide)
  (hcd:HF x:=by decide):SE X B W (.Name x pos) (ao i):=abT (gP hN hv hd hcd)
theorem QM{e:ah}{v:V}{d:D}(h:PE X e (tC v))(r:∀G,Rep X.K G d v):SE X B W e (fC d):=PE.imp h fun σ H Q ⟨ρ,G,s,p⟩=>Post.ok s p (r G)
theorem au{i:Int}{j pos}:SE X B W (.Constant (.int i) j pos) (fC (.int i)):=QM abg fun _=>aU.mpr rfl
theorem nC{b:Bool}{j pos}:SE X B W (.Constant (.bool b) j pos) (fC (.bl b)):=QM aer fun _=>cB.mpr rfl
theorem QS{j pos}:SE X B W (.Constant .none j pos) (fC .non):=QM abh fun _=>jh.mpr rfl
theorem QT{x j pos}:SE X B W (.Constant (.str x) j pos) (fC (.str x)):=QM abj fun _=>mK.mpr rfl
noncomputable def aV(g:D->D->Rs D)(fa fb:ak->Rs D):ak->Rs D:=fun ρ=>(fa ρ).bind fun x=>(fb ρ).bind fun y=>g x y
noncomputable def Qf(K:ai)(r:R2)(g:D->D->Rs D):Prop :=
 ∀(B:Bs) (W:Wi) (σ:St) (ρ:ak) (G H:Hp) (x y:D) (v u:V) (Q:VK),SR K B σ H ρ G->Rep K G x v->Rep K G y u->Post K W σ G H (g x y) Q->r v u H Q
theorem Bl{r:R2}{g:D->D->Rs D}{fa fb:ak->Rs D}(ho:Qf K r g)(h:tF K B W (aV g fa fb) σ H Q):tOp r (tF K B W fa) (tF K B W fb) σ H Q:=by obtain⟨ρ,G,s,p⟩:=pP (k:=fun ρ x=>(fb ρ).bind fun y=>g x y) h;refine⟨ρ,G,s,p.mono fun v H1 h1=>?_⟩;obtain⟨ρ,G,s,p⟩:=QL (k:=g) h1;exact⟨ρ,G,s,p.mono fun u H2 ⟨ρ2,G2,d,d',s2,r1,r2,p2⟩=>ho B W σ ρ2 G2 H2 d d' v u Q s2 r1 r2 p2⟩
theorem uJ{a b:ah}{op:Operator}{pos:Pos}{r:R2}{g:D->D->Rs D}{fa fb:ak->Rs D}(ho:qH X (gy op) r)(hg:Qf X.K r g)(ha:SE X B W a fa)(hb:SE X B W b fb):SE X B W (.BinOp a op b pos) (aV g fa fb) :=
 PE.imp (aeG ho ha hb) fun _ _ _ h=>Bl hg h
noncomputable def gI(C:Int->Int->Prop)[∀i j,Decidable (C i j)](g:Int->Int->D):D->D->Rs D
 | .int i,.int j=>if C i j then .ok (g i j) else .no
 |_,_=>.no
theorem Em{C:Int->Int->Prop}[∀i j,Decidable (C i j)]{gv:Int->Int->V}{g:Int->Int->D}(hg:∀G i j,Rep K G (g i j) (gv i j)):Qf K (rI C gv) (gI C g):=by
 intro B W σ ρ G H x y v u Q s rx ry p;cases x <;> first|exact p.elim|skip
 rename_i i;cases y <;> first|exact p.elim|skip
 rename_i j;simp only[gI]at p;by_cases c:C i j
 ·rw[if_pos c]at p;exact⟨i,j,aU.mp rx,aU.mp ry,c,Post.ok s p (hg G i j)⟩
 ·rw[if_neg c]at p;exact p.elim
noncomputable def gI0(g:Int->Int->D):D->D->Rs D
 | .int i,.int j=>.ok (g i j)
 |_,_=>.no
theorem vW{gv:Int->Int->V}{g:Int->Int->D}(hg:∀G i j,Rep K G (g i j) (gv i j)):Qf K (Qs gv) (gI0 g):=by
 intro B W σ ρ G H x y v u Q s rx ry p;cases x <;> first|exact p.elim|skip
 rename_i i;cases y <;> first|exact p.elim|skip
 rename_i j;exact⟨i,j,aU.mp rx,aU.mp ry,Post.ok s p (hg G i j)⟩
end
mutual
noncomputable def lR:D->D->Bool
 | .tup a,.tup b=>tW a b
 | .lst a,.lst b=>tW a b
 | .non,.non=>true
 | .bl a,.bl b=>a == b
 | .bl a,.int b=>(if a then 1 else 0) == b
 | .int a,.bl b=>a == (if b then 1 else 0)
 | .int a,.int b=>a == b
 | .str a,.str b=>a == b
 | .zu a b,.zu c d=>a == c && b == d
 | .zx _ _,.zx _ _=>true
 | .fn a,.fn b=>a == b
 | .obj _ _ _,.obj _ _ _=>true
 |_,_=>false
noncomputable def tW:List D->List D->Bool
 | [],[]=>true
 |a::as,b::bs=>lR a b && tW as bs
 |_,_=>false
end
mutual
noncomputable def fW:D->Nat
 | .tup a=>eU a + 1
 | .lst a=>eU a + 1
 | .zu _ _=>bS
 | .zx _ _=>bS
 | .fn _=>bS
 | .obj _ _ _=>bS
 |_=>0
noncomputable def eU:List D->Nat
 | []=>0
 |a::as=>Nat.max (fW a) (eU as)
end
mutual
theorem vX:∀d:D,lR d d=true
 | .non=>by simp[lR]
 | .bl _=>by simp[lR]
 | .int _=>by simp[lR]
 | .str _=>by simp[lR]
 | .tup a=>by simp[lR,tY a]
 | .lst a=>by simp[lR,tY a]
 | .zu _ _=>by simp[lR]
 | .zx _ _=>by simp[lR]
 | .fn _=>by simp[lR]
 | .obj _ _ _=>by simp[lR]
theorem tY:∀d:List D,tW d d=true
 | []=>by simp[tW]
 |a::as=>by simp[tW,vX a,tY as]
end
theorem cU:∀(a b:List D),((b_ (min a.length b.length)).all (fun j=>lR (a.getD j .non) (b.getD j .non)) && a.length == b.length)=tW a b
 | [],[]=>by simp[tW]
 | [],b::bs=>by simp[tW]
 |a::as,[]=>by simp[tW]
 |a::as,b::bs=>by have ih:=cU as bs;rw[tW,<- ih];rw[show min (a::as).length (b::bs).length=min as.length bs.length + 1 by simp];rw[mS,uC,List.all_map];simp[qs,Bool.and_assoc]
theorem rD{d:D}:∀{ds:List D},d∈ds->fW d<=eU ds
 | [],h=>by cases h
 |x::xs,h=>by
  rw[eU];rcases br.mp h with rfl|h
  ·exact Nat.le_max_left _ _
  ·exact dq (rD h) (uS _ _)
section
variable{X:Cx}{pins:List (ae×Obj)}{σ:St}{H:Hp}{s:af}
theorem En(I:Inv X pins σ H s){a:ae}{xs ys:List V}(h:jz X.K H a xs)(h':iV X.K H a ys):False:=by obtain⟨_,_,⟨o,n,e,c,_,_⟩,_⟩:=I.list h;obtain⟨_,_,⟨o',e',c',_⟩,_⟩:=I.tuple h';rw[e]at e';cases e';rw[c]at c';exact absurd c' (by decide)
theorem Eo(I:Inv X pins σ H s){a:ae}{xs:List V}{φ:ay->Prop}(h:iV X.K H a xs)(h':H a=some (.ext φ)):False:=by
 rcases h with (h|⟨o,h⟩)|⟨o,its,n,hk,_⟩
 ·rw[h']at h;cases h
 ·rw[h']at h;cases h
 ·have:=(I.bs a o (I.mod.Kf a o hk)).2;rw[h']at this;cases this
theorem Ep(I:Inv X pins σ H s){a:ae}{xs:List V}{φ:ay->Prop}(h:jz X.K H a xs)(h':H a=some (.ext φ)):False:=by
 rcases h with (h|⟨o,h⟩)|⟨o,its,n,hk,_⟩
 ·rw[h']at h;cases h
 ·rw[h']at h;cases h
 ·have:=(I.bs a o (I.mod.Kf a o hk)).2;rw[h']at this;cases this
theorem XQ{a:ae}{xs:List V}{o:Obj}{fd:dn}(I:Inv X pins σ H s)(h:iV X.K H a xs)(hk:X.K.lookup a=some o)(hd:o.data=.func fd):False:=by
 have hn:=(I.bs a o (I.mod.Kf a o hk)).2;rcases h with (h|⟨o',h⟩)|⟨o',its,n,hk',hs⟩
 ·rw[hn]at h;cases h
 ·rw[hn]at h;cases h
 ·rw[hk]at hk';cases hk';rcases hs with ⟨_,hs,_⟩;rw[hd]at hs;cases hs
theorem XR{a:ae}{xs:List V}{o:Obj}{fd:dn}(I:Inv X pins σ H s)(h:jz X.K H a xs)(hk:X.K.lookup a=some o)(hd:o.data=.func fd):False:=by
 have hn:=(I.bs a o (I.mod.Kf a o hk)).2;rcases h with (h|⟨o',h⟩)|⟨o',its,n,hk',hs⟩
 ·rw[hn]at h;cases h
 ·rw[hn]at h;cases h
 ·rw[hk]at hk';cases hk';rcases hs with ⟨_,_,hs,_⟩;rw[hd]at hs;cases hs
theorem QV(I:Inv X pins σ H s){a C dx:ae}{xs:List V}{fs:List (Str×V)}(h:iV X.K H a xs)(h':H a=some (.ins C dx fs)):False:=by
 rcases h with (h|⟨o,h⟩)|⟨o,its,n,hk,_⟩
 ·rw[h']at h;cases h
 ·rw[h']at h;cases h
 ·have:=(I.bs a o (I.mod.Kf a o hk)).2;rw[h']at this;cases this
theorem QW(I:Inv X pins σ H s){a C dx:ae}{xs:List V}{fs:List (Str×V)}(h:jz X.K H a xs)(h':H a=some (.ins C dx fs)):False:=by
 rcases h with (h|⟨o,h⟩)|⟨o,its,n,hk,_⟩
 ·rw[h']at h;cases h
 ·rw[h']at h;cases h
 ·have:=(I.bs a o (I.mod.Kf a o hk)).2;rw[h']at this;cases this
mutual
theorem Rep.inj(I:Inv X pins σ H s):∀{d d':D}{v:V},fW d < bS->Rep X.K H d v->Rep X.K H d' v->d=d'
 | .non,d',v,_,h,h'=>by
  rw[jh.mp h]at h';cases d' <;> simp only[Rep]at h' <;> first|rfl|(obtain⟨a,vs,e,_⟩:=h';cases e;done)|(obtain⟨a,U,bw,e,_⟩:=h';cases e;done)|(obtain⟨a,C,dx,us,e,_⟩:=h';cases e;done)|(cases h';rfl)|cases h'
 | .bl _,d',v,_,h,h'=>by
  rw[cB.mp h]at h';cases d' <;> simp only[Rep]at h' <;> first|rfl|(obtain⟨a,vs,e,_⟩:=h';cases e;done)|(obtain⟨a,U,bw,e,_⟩:=h';cases e;done)|(obtain⟨a,C,dx,us,e,_⟩:=h';cases e;done)|(cases h';rfl)|cases h'
 | .int _,d',v,_,h,h'=>by
  rw[aU.mp h]at h';cases d' <;> simp only[Rep]at h' <;> first|rfl|(obtain⟨a,vs,e,_⟩:=h';cases e;done)|(obtain⟨a,U,bw,e,_⟩:=h';cases e;done)|(obtain⟨a,C,dx,us,e,_⟩:=h';cases e;done)|(cases h';rfl)|cases h'
 | .str _,d',v,_,h,h'=>by
  rw[mK.mp h]at h';cases d' <;> simp only[Rep]at h' <;> first|rfl|(obtain⟨a,vs,e,_⟩:=h';cases e;done)|(obtain⟨a,U,bw,e,_⟩:=h';cases e;done)|(obtain⟨a,C,dx,us,e,_⟩:=h';cases e;done)|(cases h';rfl)|cases h'
 | .tup ds,d',v,hd,h,h'=>by
  obtain⟨a,vs,rfl,q,r⟩:=bD.mp h;cases d' with
  |tup es =>
   obtain⟨b,us,e,q',r'⟩:=bD.mp h';cases e;rw[I.pL q' q]at r';rw[bA.inj I (by simp only[fW]at hd;lia) r r']
  |lst es =>
   obtain⟨b,us,e,q',r'⟩:=bh.mp h';cases e;exact(En I q' q).elim
  |zu c n =>
   obtain⟨b,C,_,e,_,q',_⟩:=Bh.mp h';cases e;exact(Eo I q q').elim
  |fn c =>
   obtain⟨b,o,fd,e,_,q1,q2⟩:=vV.mp h';cases e;exact(XQ I q q1 q2).elim
  |obj c ns es =>
   obtain⟨b,C,dx,us,e,_,q',_⟩:=Bj.mp h';cases e;exact(QV I q q').elim
  |zx c n =>
   obtain⟨b,U,bw,e,⟨_,q'⟩,_⟩:=Bk.mp h';cases e;exact(Eo I q q').elim
  |_=>simp only[Rep]at h';cases h'
 | .lst ds,d',v,hd,h,h'=>by
  obtain⟨a,vs,rfl,q,r⟩:=bh.mp h;cases d' with
  |lst es =>
   obtain⟨b,us,e,q',r'⟩:=bh.mp h';cases e;rw[I.rA q' q]at r';rw[bA.inj I (by simp only[fW]at hd;lia) r r']
  |tup es =>
   obtain⟨b,us,e,q',r'⟩:=bD.mp h';cases e;exact(En I q q').elim
  |zu c n =>
   obtain⟨b,C,_,e,_,q',_⟩:=Bh.mp h';cases e;exact(Ep I q q').elim
  |fn c =>
   obtain⟨b,o,fd,e,_,q1,q2⟩:=vV.mp h';cases e;exact(XR I q q1 q2).elim
  |obj c ns es =>
   obtain⟨b,C,dx,us,e,_,q',_⟩:=Bj.mp h';cases e;exact(QW I q q').elim
  |zx c n =>
   obtain⟨b,U,bw,e,⟨_,q'⟩,_⟩:=Bk.mp h';cases e;exact(Ep I q q').elim
  |_=>simp only[Rep]at h';cases h'
 | .zu _ _,d',v,hd,h,h'=>by simp only[fW]at hd;exact absurd hd (eQ _)
 | .zx _ _,d',v,hd,h,h'=>by simp only[fW]at hd;exact absurd hd (eQ _)
 | .fn _,d',v,hd,h,h'=>by simp only[fW]at hd;exact absurd hd (eQ _)
 | .obj _ _ _,d',v,hd,h,h'=>by simp only[fW]at hd;exact absurd hd (eQ _)
theorem bA.inj(I:Inv X pins σ H s):∀{ds es:List D}{vs:List V},eU ds < bS->bA X.K H ds vs->bA X.K H es vs->ds=es
 | [],es,vs,_,h,h'=>by
  rw[aZ.mp h]at h';cases es with
  |nil=>rfl
  |cons e es=>obtain⟨v,vs',e1,_⟩:=aG.mp h';cases e1
 |d::ds,es,vs,hd,h,h'=>by
  obtain⟨v,vs',rfl,r1,r2⟩:=aG.mp h;simp only[eU]at hd;cases es with
  |nil=>have:=aZ.mp h';cases this
  |cons e es =>
   obtain⟨v',vs'',e1,r1',r2'⟩:=aG.mp h';cases e1;rw[Rep.inj I (iO (Nat.le_max_left _ _) hd) r1 r1',bA.inj I (iO (uS _ _) hd) r2 r2']
end
theorem vY(I:Inv X pins σ H s){m:Nat}{A:aT}{ds es:List D}{vs us:List V}{its its2:List aa}
  (ih:∀{d d':D}{v v':V}{u u':aa}{A:aT},fW d<=m->fW d'<=m->A.units + m < bS->Rep X.K H d v->Rep X.K H d' v'->RelV v u->RelV v' u'->my A s u u' (lR d d'))
  (hn:eU ds<=m) (hn':eU es<=m) (hu:A.in1.units + m < bS) (r1:bA X.K H ds vs) (r2:bA X.K H es us) (a1:Vals vs its) (a2:Vals us its2) :
  ∀j (h1:j < its.toArray.size) (h2:j < its2.toArray.size),my A.in1 s its.toArray[j] its2.toArray[j] (lR (ds.getD j .non) (es.getD j .non)):=by
 intro j h1 h2;have l1:j < ds.length:=by rw[r1.length,a1.length];simpa using h1
 have l2:j < es.length:=by rw[r2.length,a2.length];simpa using h2
 obtain⟨x,hx,rx⟩:=r1.get (i:=j) (d:=ds[j]) (by simp[l1]);obtain⟨y,hy,ry⟩:=r2.get (i:=j) (d:=es[j]) (by simp[l2]);obtain⟨p,hp,rp⟩:=a1.get hx;obtain⟨q,hq,rq⟩:=a2.get hy;have e1:its.toArray[j]=p:=by have:=(dm.mp hp).2;simpa using this
 have e2:its2.toArray[j]=q:=by have:=(dm.mp hq).2;simpa using this
 rw[e1,e2,gm,gm,cS l1,cS l2];exact ih (dq (rD (fI l1)) hn) (dq (rD (fI l2)) hn') hu rx ry rp rq
inductive Kd (X:Cx) (H:Hp) (s:af):D->aa->Prop
 |n:Kd X H s .non .none
 |b (x:Bool):Kd X H s (.bl x) (.bool x)
 |i (x:Int) (t:Tok):Kd X H s (.int x) (.int x t)
 |s (x:Str) (t:Tok):Kd X H s (.str x) (.str x t)
 |t {a:ae}{its:List aa}(ds:List D):s.heap.IsTuple a its.toArray->Kd X H s (.tup ds) (.ref a)
 |l {a:ae}{its:List aa}(ds:List D):s.heap.IsList a its.toArray->Kd X H s (.lst ds) (.ref a)
theorem uK(I:Inv X pins σ H s){n:Nat}{d:D}{v:V}{u:aa}(hd:fW d<=n)(hn:n < bS)(r:Rep X.K H d v)(e:RelV v u):Kd X H s d u:=by
 cases d with
 |non=>rw[jh.mp r]at e;cases e;exact .n
 |bl x=>rw[cB.mp r]at e;cases e;exact .b x
 |int x=>rw[aU.mp r]at e;obtain⟨t,rfl⟩:=e;exact .i x t
 |str x=>rw[mK.mp r]at e;obtain⟨t,rfl⟩:=e;exact .s x t
 |tup ds=>obtain⟨a,vs,rfl,q,_⟩:=bD.mp r;cases e;obtain⟨its,_,t,_⟩:=I.tuple q;exact .t ds t
 |lst ds=>obtain⟨a,vs,rfl,q,_⟩:=bh.mp r;cases e;obtain⟨its,_,t,_⟩:=I.list q;exact .l ds t.isList
 |_=>simp only[fW]at hd;exact absurd hn (by lia)
noncomputable def sk:D->D->Bool
 | .tup _,.tup _=>true
 | .lst _,.lst _=>true
 |_,_=>false
open SeqAt in
theorem Er{d d':D}{u u':aa}{A:aT}(k:Kd X H s d u)(k':Kd X H s d' u')(hu:A.units < bS)(hs:sk d d'=false):EqAt A s u u' (lR d d'):=by
 cases k with
 |n =>
  cases k' with
  |n=>exact EqAt.same _
  |b y=>exact EqAt.none_bool y
  |i y r=>exact EqAt.none_int y r
  |s y r=>exact EqAt.none_str y r
  |t es g=>exact EqAt.none_tuple g hu
  |l es g=>exact EqAt.none_list g hu
 |b x =>
  cases k' with
  |n=>exact EqAt.bool_none x
  |b y=>exact EqAt.bool_bool x y
  |i y r=>exact EqAt.bool_int x y r
  |s y r=>exact EqAt.bool_str x y r
  |t es g=>exact EqAt.bool_tuple x g hu
  |l es g=>exact EqAt.bool_list x g hu
 |i x t =>
  cases k' with
  |n=>exact EqAt.int_none x t
  |b y=>exact EqAt.int_bool x t y
  |i y r=>exact EqAt.int_int x t y r
  |s y r=>exact EqAt.int_str x t y r
  |t es g=>exact EqAt.int_tuple x t g hu
  |l es g=>exact EqAt.int_list x t g hu
 |s x t =>
  cases k' with
  |n=>exact EqAt.str_none x t
  |b y=>exact EqAt.str_bool x t y
  |i y r=>exact EqAt.str_int x t y r
  |s y r=>exact EqAt.str_str x t y r
  |t es g=>exact EqAt.str_tuple x t g hu
  |l es g=>exact EqAt.str_list x t g hu
 |t ds h =>
  cases k' with
  |n=>exact EqAt.tuple_none h hu
  |b y=>exact EqAt.tuple_bool y h hu
  |i y r=>exact EqAt.tuple_int y r h hu
  |s y r=>exact EqAt.tuple_str y r h hu
  |t es g=>cases hs
  |l es g=>exact EqAt.tuple_list h g hu
 |l ds h =>
  cases k' with
  |n=>exact EqAt.list_none h hu
  |b y=>exact EqAt.list_bool y h hu
  |i y r=>exact EqAt.list_int y r h hu
  |s y r=>exact EqAt.list_str y r h hu
  |t es g=>exact EqAt.list_tuple h g hu
  |l es g=>cases hs
open SeqAt in
theorem QX(I:Inv X pins σ H s):∀(n:Nat) {d d':D}{v v':V}{u u':aa}{A:aT},fW d<=n->fW d'<=n->A.units + n < bS->Rep X.K H d v->Rep X.K H d' v'->RelV v u->RelV v' u'->EqAt A s u u' (lR d d'):=by
 intro n
 induction n with
 |zero =>
  intro d d' v v' u u' A hd hd' hu r r' e e';exact Er (uK I hd (by lia) r e) (uK I hd' (by lia) r' e') (by lia) (by cases d <;> cases d' <;> first|rfl|(simp only[fW]at hd;lia))
 |succ m ih =>
  intro d d' v v' u u' A hd hd' hu r r' e e';have hu0:A.units < bS:=by lia
  cases hs:sk d d' with
  |false=>exact Er (uK I hd (by lia) r e) (uK I hd' (by lia) r' e') hu0 hs
  |true =>
   cases d with
   |tup ds =>
    cases d' with
    |tup es =>
     obtain⟨a,vs,rfl,q,rr⟩:=bD.mp r;cases e;obtain⟨its,av,t,_⟩:=I.tuple q;obtain⟨b,us,rfl,q',rr'⟩:=bD.mp r';cases e';obtain⟨its2,zy,t2,_⟩:=I.tuple q';have hn:eU ds<=m:=by simp only[fW]at hd;lia
     have hn':eU es<=m:=by simp only[fW]at hd';lia
     by_cases hab:a=b
     ·subst hab;rw[Rep.inj I (by lia) r r',vX];exact EqAt.same _
     have items:=vY I ih hn hn' (show A.in1.units + m < bS by show A.units + 1 + m < _;lia) rr rr' av zy;have h:=RcAt.tuples (A:=A) t t2 hu0 items;rw[cy,cy,<- av.length,<- zy.length,<- rr.length,<- rr'.length,cU]at h;exact EqAt.of_refs hab h
    |_=>cases hs
   |lst ds =>
    cases d' with
    |lst es =>
     obtain⟨a,vs,rfl,q,rr⟩:=bh.mp r;cases e;obtain⟨its,av,t1,_⟩:=I.list q;have t:=t1.isList;obtain⟨b,us,rfl,q',rr'⟩:=bh.mp r';cases e';obtain⟨its2,zy,t3,_⟩:=I.list q';have t2:=t3.isList;have hn:eU ds<=m:=by simp only[fW]at hd;lia
     have hn':eU es<=m:=by simp only[fW]at hd';lia
     by_cases hab:a=b
     ·subst hab;rw[Rep.inj I (by lia) r r',vX];exact EqAt.same _
     have items:=vY I ih hn hn' (show A.in1.units + m < bS by show A.units + 1 + m < _;lia) rr rr' av zy;by_cases hl:its.toArray.size=its2.toArray.size
     ·have h:=RcAt.lists (A:=A) t t2 hl hu0 items;rw[cy,<- av.length,<- rr.length]at h;have hl':ds.length=es.length:=by rw[rr.length,rr'.length,av.length,zy.length];simpa using hl
      have e1:=cU ds es;rw[hl',u5]at e1;simp only[beq_self_eq_true,qv]at e1;rw[hl',e1]at h;exact EqAt.of_refs hab h
     ·have h:=RcAt.lists_lengths (A:=A) t t2 (by simpa using hl) hu0;have hl':ds.length≠es.length:=by rw[rr.length,rr'.length,av.length,zy.length];simpa using hl
      have e1:=cU ds es;rw[show(ds.length == es.length)=false by simpa using hl',oz]at e1;rw[show lR (.lst ds) (.lst es)=false by rw[lR,<- e1]];exact EqAt.of_refs hab h
    |_=>cases hs
   |_=>cases d' <;> cases hs
end
section
variable{X:Cx}{pins:List (ae×Obj)}{σ:St}{H:Hp}{s:af}
theorem rE(I:Inv X pins σ H s){m:Nat}{A:aT}{ds es:List D}{vs us:List V}{its its2:List aa}(hn:eU ds<=m)(hn':eU es<=m)(hu:A.in1.units + m < bS)(r1:bA X.K H ds vs)(r2:bA X.K H es us)(a1:Vals vs its)(a2:Vals us its2) :
  ∀j (h1:j < its.toArray.size) (h2:j < its2.toArray.size),my A.in1 s its.toArray[j] its2.toArray[j] (lR (ds.getD j .non) (es.getD j .non)) :=
 vY I (fun a b c d e f g=>QX I m a b c d e f g) hn hn' hu r1 r2 a1 a2
open SeqAt in
theorem XS{d d':D}{u u':aa}{A:aT}(k:Kd X H s d u)(k':Kd X H s d' u')(hu:A.units < bS)(hs:sk d d'=false):RcAt A s u u' (lR d d'):=by
 cases k with
 |n =>
  cases k' with
  |n=>exact RcAt.none_none
  |b y=>exact RcAt.none_bool y
  |i y r=>exact RcAt.none_int y r
  |s y r=>exact RcAt.none_str y r
  |t es g=>exact RcAt.none_tuple g hu
  |l es g=>exact RcAt.none_list g hu
 |b x =>
  cases k' with
  |n=>exact RcAt.bool_none x
  |b y=>exact RcAt.bool_bool x y
  |i y r=>exact RcAt.bool_int x y r
  |s y r=>exact RcAt.bool_str x y r
  |t es g=>exact RcAt.bool_tuple x g hu
  |l es g=>exact RcAt.bool_list x g hu
 |i x t =>
  cases k' with
  |n=>exact RcAt.int_none x t
  |b y=>exact RcAt.int_bool x t y
  |i y r=>exact RcAt.int_int x t y r
  |s y r=>exact RcAt.int_str x t y r
  |t es g=>exact RcAt.int_tuple x t g hu
  |l es g=>exact RcAt.int_list x t g hu
 |s x t =>
  cases k' with
  |n=>exact RcAt.str_none x t
  |b y=>exact RcAt.str_bool x t y
  |i y r=>exact RcAt.str_int x t y r
  |s y r=>exact RcAt.str_str x t y r
  |t es g=>exact RcAt.str_tuple x t g hu
  |l es g=>exact RcAt.str_list x t g hu
 |t ds h =>
  cases k' with
  |n=>exact RcAt.tuple_none h hu
  |b y=>exact RcAt.tuple_bool y h hu
  |i y r=>exact RcAt.tuple_int y r h hu
  |s y r=>exact RcAt.tuple_str y r h hu
  |t es g=>cases hs
  |l es g=>exact RcAt.tuple_list h g hu
 |l ds h =>
  cases k' with
  |n=>exact RcAt.list_none h hu
  |b y=>exact RcAt.list_bool y h hu
  |i y r=>exact RcAt.list_int y r h hu
  |s y r=>exact RcAt.list_str y r h hu
  |t es g=>exact RcAt.list_tuple h g hu
  |l es g=>cases hs
open SeqAt in
theorem abV(I:Inv X pins σ H s){n:Nat}{d d':D}{v v':V}{u u':aa}{A:aT}(hd:fW d<=n)(hd':fW d'<=n)(hu:A.units + n < bS)(r:Rep X.K H d v)(r':Rep X.K H d' v')(e:RelV v u)(e':RelV v' u'):RcAt A s u u' (lR d d'):=by
 have hu0:A.units < bS:=by lia
 cases hs:sk d d' with
 |false=>exact XS (uK I hd (by lia) r e) (uK I hd' (by lia) r' e') hu0 hs
 |true =>
  obtain⟨m,rfl⟩:∃m,n=m + 1:=⟨n - 1,by cases d <;> first|(simp only[fW]at hd;lia)|(cases d' <;> cases hs)⟩
  cases d with
  |tup ds =>
   cases d' with
   |tup es =>
    obtain⟨a,vs,rfl,q,rr⟩:=bD.mp r;cases e;obtain⟨its,av,t,_⟩:=I.tuple q;obtain⟨b,us,rfl,q',rr'⟩:=bD.mp r';cases e';obtain⟨its2,zy,t2,_⟩:=I.tuple q';have hn:eU ds<=m:=by simp only[fW]at hd;lia
    have hn':eU es<=m:=by simp only[fW]at hd';lia
    have items:=rE I hn hn' (show A.in1.units + m < bS by show A.units + 1 + m < _;lia) rr rr' av zy;have h:=RcAt.tuples (A:=A) t t2 hu0 items;rw[cy,cy,<- av.length,<- zy.length,<- rr.length,<- rr'.length,cU]at h;exact h
   |_=>cases hs
  |lst ds =>
   cases d' with
   |lst es =>
    obtain⟨a,vs,rfl,q,rr⟩:=bh.mp r;cases e;obtain⟨its,av,t1,_⟩:=I.list q;have t:=t1.isList;obtain⟨b,us,rfl,q',rr'⟩:=bh.mp r';cases e';obtain⟨its2,zy,t3,_⟩:=I.list q';have t2:=t3.isList;have hn:eU ds<=m:=by simp only[fW]at hd;lia
    have hn':eU es<=m:=by simp only[fW]at hd';lia
    have items:=rE I hn hn' (show A.in1.units + m < bS by show A.units + 1 + m < _;lia) rr rr' av zy;by_cases hl:its.toArray.size=its2.toArray.size
    ·have h:=RcAt.lists (A:=A) t t2 hl hu0 items;rw[cy,<- av.length,<- rr.length]at h;have hl':ds.length=es.length:=by rw[rr.length,rr'.length,av.length,zy.length];simpa using hl
     have e1:=cU ds es;rw[hl',u5]at e1;simp only[beq_self_eq_true,qv]at e1;rw[hl',e1]at h;exact h
    ·have h:=RcAt.lists_lengths (A:=A) t t2 (by simpa using hl) hu0;have hl':ds.length≠es.length:=by rw[rr.length,rr'.length,av.length,zy.length];simpa using hl
     have e1:=cU ds es;rw[show(ds.length == es.length)=false by simpa using hl',oz]at e1;rw[show lR (.lst ds) (.lst es)=false by rw[lR,<- e1]];exact h
   |_=>cases hs
  |_=>cases d' <;> cases hs
open SeqAt in
theorem NT{d d':D}{u u':aa}{A:aT}(k:Kd X H s d u)(k':Kd X H s d' u')(hu:A.units < bS)(hs:sk d d'=false):RcNeAt A s u u' (!lR d d'):=by
 cases k with
 |n =>
  cases k' with
  |n=>exact RcNeAt.none_none
  |b y=>exact RcNeAt.none_bool y
  |i y r=>exact RcNeAt.none_int y r
  |s y r=>exact RcNeAt.none_str y r
  |t es g=>exact RcNeAt.none_tuple g hu
  |l es g=>exact RcNeAt.none_list g hu
 |b x =>
  cases k' with
  |n=>exact RcNeAt.bool_none x
  |b y=>exact RcNeAt.bool_bool x y
  |i y r=>exact RcNeAt.bool_int x y r
  |s y r=>exact RcNeAt.bool_str x y r
  |t es g=>exact RcNeAt.bool_tuple x g hu
  |l es g=>exact RcNeAt.bool_list x g hu
 |i x t =>
  cases k' with
  |n=>exact RcNeAt.int_none x t
  |b y=>exact RcNeAt.int_bool x t y
  |i y r=>exact RcNeAt.int_int x t y r
  |s y r=>exact RcNeAt.int_str x t y r
  |t es g=>exact RcNeAt.int_tuple x t g hu
  |l es g=>exact RcNeAt.int_list x t g hu
 |s x t =>
  cases k' with
  |n=>exact RcNeAt.str_none x t
  |b y=>exact RcNeAt.str_bool x t y
  |i y r=>exact RcNeAt.str_int x t y r
  |s y r=>exact RcNeAt.str_str x t y r
  |t es g=>exact RcNeAt.str_tuple x t g hu
  |l es g=>exact RcNeAt.str_list x t g hu
 |t ds h =>
  cases k' with
  |n=>exact RcNeAt.tuple_none h hu
  |b y=>exact RcNeAt.tuple_bool y h hu
  |i y r=>exact RcNeAt.tuple_int y r h hu
  |s y r=>exact RcNeAt.tuple_str y r h hu
  |t es g=>cases hs
  |l es g=>exact RcNeAt.tuple_list h g hu
 |l ds h =>
  cases k' with
  |n=>exact RcNeAt.list_none h hu
  |b y=>exact RcNeAt.list_bool y h hu
  |i y r=>exact RcNeAt.list_int y r h hu
  |s y r=>exact RcNeAt.list_str y r h hu
  |t es g=>exact RcNeAt.list_tuple h g hu
  |l es g=>cases hs
open SeqAt in
theorem QZ(I:Inv X pins σ H s){n:Nat}{d d':D}{v v':V}{u u':aa}{A:aT}(hd:fW d<=n)(hd':fW d'<=n)(hu:A.units + n < bS)(r:Rep X.K H d v)(r':Rep X.K H d' v')(e:RelV v u)(e':RelV v' u'):RcNeAt A s u u' (!lR d d'):=by
 have hu0:A.units < bS:=by lia
 cases hs:sk d d' with
 |false=>exact NT (uK I hd (by lia) r e) (uK I hd' (by lia) r' e') hu0 hs
 |true =>
  obtain⟨m,rfl⟩:∃m,n=m + 1:=⟨n - 1,by cases d <;> first|(simp only[fW]at hd;lia)|(cases d' <;> cases hs)⟩
  cases d with
  |tup ds =>
   cases d' with
   |tup es =>
    obtain⟨a,vs,rfl,q,rr⟩:=bD.mp r;cases e;obtain⟨its,av,t,_⟩:=I.tuple q;obtain⟨b,us,rfl,q',rr'⟩:=bD.mp r';cases e';obtain⟨its2,zy,t2,_⟩:=I.tuple q';have hn:eU ds<=m:=by simp only[fW]at hd;lia
    have hn':eU es<=m:=by simp only[fW]at hd';lia
    have items:=rE I hn hn' (show A.in1.units + m < bS by show A.units + 1 + m < _;lia) rr rr' av zy;have h:=RcNeAt.tuples (A:=A) t t2 hu0 items;rw[cy,cy,<- av.length,<- zy.length,<- rr.length,<- rr'.length,cU]at h;exact h
   |_=>cases hs
  |lst ds =>
   cases d' with
   |lst es =>
    obtain⟨a,vs,rfl,q,rr⟩:=bh.mp r;cases e;obtain⟨its,av,t1,_⟩:=I.list q;have t:=t1.isList;obtain⟨b,us,rfl,q',rr'⟩:=bh.mp r';cases e';obtain⟨its2,zy,t3,_⟩:=I.list q';have t2:=t3.isList;have hn:eU ds<=m:=by simp only[fW]at hd;lia
    have hn':eU es<=m:=by simp only[fW]at hd';lia
    have items:=rE I hn hn' (show A.in1.units + m < bS by show A.units + 1 + m < _;lia) rr rr' av zy;by_cases hl:its.toArray.size=its2.toArray.size
    ·have h:=RcNeAt.lists (A:=A) t t2 hl hu0 items;rw[cy,<- av.length,<- rr.length]at h;have hl':ds.length=es.length:=by rw[rr.length,rr'.length,av.length,zy.length];simpa using hl
     have e1:=cU ds es;rw[hl',u5]at e1;simp only[beq_self_eq_true,qv]at e1;rw[hl',e1]at h;exact h
    ·have h:=RcNeAt.lists_lengths (A:=A) t t2 (by simpa using hl) hu0;have hl':ds.length≠es.length:=by rw[rr.length,rr'.length,av.length,zy.length];simpa using hl
     have e1:=cU ds es;rw[show(ds.length == es.length)=false by simpa using hl',oz]at e1;rw[show lR (.lst ds) (.lst es)=false by rw[lR,<- e1]];exact h
   |_=>cases hs
  |_=>cases d' <;> cases hs
end
noncomputable def qt(W:Wi)(σ:St)(G H:Hp)(r:Rs Bool)(Q:Bool->Hp->Prop):Prop :=
 match r with
 | .ok b=>∀H' G',Ext G H G' H'->Q b H'
 | .ex c n=>∀H' G',Ext G H G' H'->W c n σ H'
 | .no=>False
noncomputable def tT(K:ai)(B:Bs)(W:Wi)(f:ak->Rs Bool):TT:=fun σ H Q=>∃ρ G,SR K B σ H ρ G/\qt W σ G H (f ρ) Q
noncomputable def ST(X:Cx)(B:Bs)(W:Wi)(e:ah)(f:ak->Rs Bool):Prop:=PT X e (tT X.K B W f)
noncomputable def SW(X:Cx)(B:Bs)(W:Wi)(e:ah)(f:ak->Rs Bool):Prop:=PW X e (tT X.K B W f)
noncomputable def aao(K:ai)(W:Wi)(σ:St)(G H:Hp)(r:Rs (List D))(Q:List V->Hp->Prop):Prop :=
 match r with
 | .ok ds=>∀vs H' G',Ext G H G' H'->bA K G' ds vs->Q vs H'
 | .ex c n=>∀H' G',Ext G H G' H'->W c n σ H'
 | .no=>False
noncomputable def tAF(K:ai)(B:Bs)(W:Wi)(f:ak->Rs (List D)):TA:=fun σ H Q=>∃ρ G,SR K B σ H ρ G/\aao K W σ G H (f ρ) Q
noncomputable def SA(X:Cx)(B:Bs)(W:Wi)(es:List ah)(f:ak->Rs (List D)):Prop:=PA X es (tAF X.K B W f)
theorem PW.imp{X:Cx}{e:ah}{t t':TT}(h:PW X e t)(i:∀σ H Q,t' σ H Q->t σ H Q):PW X e t':=fun wh pins s σ H Q I q=>h wh pins s σ H Q I (i σ H Q q)
noncomputable def toB:D->Rs Bool
 | .bl b=>.ok b
 |_=>.no
noncomputable def fT(f:ak->Rs D):ak->Rs Bool:=fun ρ=>(f ρ).bind toB
noncomputable def qj(a b:ak->Rs Bool):ak->Rs Bool:=fun ρ=>(a ρ).bind fun x=>if x=true then b ρ else .ok false
noncomputable def Ra(a b:ak->Rs Bool):ak->Rs Bool:=fun ρ=>(a ρ).bind fun x=>if x=true then .ok true else b ρ
noncomputable def rF(a:ak->Rs Bool):ak->Rs Bool:=fun ρ=>(a ρ).bind fun x=>.ok (!x)
noncomputable def aj(a:ak->Rs D)(r:ak->Rs (List D)):ak->Rs (List D):=fun ρ=>(a ρ).bind fun x=>(r ρ).bind fun xs=>.ok (x::xs)
noncomputable def aO:ak->Rs (List D):=fun _=>.ok []
noncomputable def fA(a:ak->Rs (List D))(g:List D->Rs D):ak->Rs D:=fun ρ=>(a ρ).bind g
section
variable{X:Cx}{K:ai}{B:Bs}{W:Wi}{σ:St}{G H:Hp}{ρ:ak}
theorem qt.ext{r:Rs Bool}{Q:Bool->Hp->Prop}{G' H':Hp}(e:Ext G H G' H')(h:qt W σ G H r Q):qt W σ G' H' r Q:=by
 cases r with
 |ok d=>exact fun Kz G'' e'=>h Kz G'' (e.trans e')
 |ex c n=>exact fun Kz G'' e'=>h Kz G'' (e.trans e')
 |no=>exact h
theorem Rb{f:ak->Rs D}{Q:Bool->Hp->Prop}(h:tT K B W (fT f) σ H Q):tF K B W f σ H fun x H1=>∃c,x=.bl c/\Q c H1:=by
 obtain⟨ρ,G,s,p⟩:=h;refine⟨ρ,G,s,?_⟩;unfold fT at p;cases e:f ρ with
 |ok d =>
  rw[e]at p;cases d with
  |bl b=>exact fun v H' G' e r=>⟨b,cB.mp r,p H' G' e⟩
  |_=>exact p.elim
 |ex c n=>rw[e]at p;exact p
 |no=>rw[e]at p;exact p
theorem jB{e:ah}{f:ak->Rs D}(h:SE X B W e f)(he:∀whole,isTrue e X.env whole=(do let v <- whole;oa e.pos;gf [v] (truthy v)):=by intro _;rfl):ST X B W e (fT f) :=
 PT.imp (abk h he) fun _ _ _ h=>Rb h
theorem qI{a b:ah}{op:kX}{pos:Pos}{r:R2}{g:D->D->Rs D}{fa fb:ak->Rs D}(ho:qH X (gz op) r)(hg:Qf X.K r g)(ha:SE X B W a fa)(hb:SE X B W b fb)(hm:iF op b=false) :
  ST X B W (.Compare a [op] [b] pos) (fT (aV g fa fb)):=by
 refine PT.imp (Kq ho ha hb hm) fun σ H Q h=>?_;exact Bl hg (Rb h)
theorem Rf{a b:ah}{op:kX}{pos:Pos}{r:R2}{g:D->D->Rs D}{fa fb:ak->Rs D}(ho:qH X (gz op) r)(hg:Qf X.K r g)(ha:SE X B W a fa)(hb:SE X B W b fb)(hm:iF op b=false) :
  SE X B W (.Compare a [op] [b] pos) (aV g fa fb):=PE.imp (Xw ho ha hb hm) fun _ _ _ h=>Bl hg h
theorem rG{a:ah}{pos:Pos}{fa:ak->Rs Bool}(ha:ST X B W a fa):SW X B W (.BoolOp .And [a] pos) fa:=Xm ha
theorem Rg{a:ah}{pos:Pos}{fa:ak->Rs Bool}(ha:ST X B W a fa):SW X B W (.BoolOp .Or [a] pos) fa:=abl ha
theorem vZ{a b:ah}{rest:List ah}{pos:Pos}{fa fb:ak->Rs Bool}(ha:ST X B W a fa)(hb:SW X B W (.BoolOp .And (b::rest) pos) fb):SW X B W (.BoolOp .And (a::b::rest) pos) (qj fa fb):=by
 refine PW.imp (abm ha hb) fun σ H Q ⟨ρ,G,s,p⟩=>⟨ρ,G,s,?_⟩
 unfold qj at p;cases e:fa ρ with
 |ok x =>
  rw[e]at p;intro H' G' ee;cases x with
  |true=>rw[if_pos rfl];exact⟨ρ,G',s.ext ee,qt.ext ee (show qt W σ G H (fb ρ) Q from p)⟩
  |false=>rw[if_neg (by simp)];exact(show qt W σ G H (.ok false) Q from p) H' G' ee
 |ex c n=>rw[e]at p;exact p
 |no=>rw[e]at p;exact p
theorem aap{a b:ah}{rest:List ah}{pos:Pos}{fa fb:ak->Rs Bool}(ha:ST X B W a fa)(hb:SW X B W (.BoolOp .Or (b::rest) pos) fb):SW X B W (.BoolOp .Or (a::b::rest) pos) (Ra fa fb):=by
 refine PW.imp (aes ha hb) fun σ H Q ⟨ρ,G,s,p⟩=>⟨ρ,G,s,?_⟩
 unfold Ra at p;cases e:fa ρ with
 |ok x =>
  rw[e]at p;intro H' G' ee;cases x with
  |true=>rw[if_pos rfl];exact(show qt W σ G H (.ok true) Q from p) H' G' ee
  |false=>rw[if_neg (by simp)];exact⟨ρ,G',s.ext ee,qt.ext ee (show qt W σ G H (fb ρ) Q from p)⟩
 |ex c n=>rw[e]at p;exact p
 |no=>rw[e]at p;exact p
theorem Ie{e:ah}{f:ak->Rs Bool}(h:SW X B W e f):ST X B W e f:=PW.pt h
theorem tZ{a:ah}{pos:Pos}{fa:ak->Rs Bool}(ha:ST X B W a fa):ST X B W (.UnaryOp .Not a pos) (rF fa):=by
 refine PT.imp (abn ha) fun σ H Q ⟨ρ,G,s,p⟩=>⟨ρ,G,s,?_⟩
 unfold rF at p;cases e:fa ρ with
 |ok x=>rw[e]at p;exact p
 |ex c n=>rw[e]at p;exact p
 |no=>rw[e]at p;exact p
noncomputable def nR(a b:ak->Rs D):ak->Rs D:=fun ρ=>(a ρ).bind fun x=>(toB x).bind fun c=>if c=true then b ρ else .ok (.bl false)
noncomputable def abW(a b:ak->Rs D):ak->Rs D:=fun ρ=>(a ρ).bind fun x=>(toB x).bind fun c=>if c=true then .ok (.bl true) else b ρ
noncomputable def Es(a:ak->Rs D):ak->Rs D:=fun ρ=>(a ρ).bind fun x=>(toB x).bind fun c=>.ok (.bl !c)
theorem Bm{op}{a:ah}{pos:Pos}{fa:ak->Rs D}(ha:SE X B W a fa):SE X B W (.BoolOp op [a] pos) fa:=abo ha
theorem wg{a b:ah}{rest:List ah}{pos:Pos}{fa fb:ak->Rs D}(ha:SE X B W a fa)(hb:SE X B W (.BoolOp .And (b::rest) pos) fb):SE X B W (.BoolOp .And (a::b::rest) pos) (nR fa fb):=by
 refine PE.imp (abp ha hb) fun σ H Q h=>?_;obtain⟨ρ,G,s,p⟩:=pP (k:=fun ρ x=>(toB x).bind fun c=>if c=true then fb ρ else .ok (.bl false)) h;refine⟨ρ,G,s,p.mono fun v H1 ⟨ρ1,G1,d,s1,r,q⟩=>?_⟩;cases d with
 |bl c =>
  refine⟨c,cB.mp r,?_⟩;cases c with
  |true=>rw[if_pos rfl];exact⟨ρ1,G1,s1,q⟩
  |false=>rw[if_neg (by simp)];exact Post.ok s1 q (cB.mpr rfl)
 |_=>exact q.elim
theorem abX{a:ah}{pos:Pos}{fa:ak->Rs D}(ha:SE X B W a fa):SE X B W (.UnaryOp .Not a pos) (Es fa):=by
 refine PE.imp (abq ha) fun σ H Q h=>?_;obtain⟨ρ,G,s,p⟩:=pP (k:=fun ρ x=>(toB x).bind fun c=>.ok (.bl !c)) h;refine⟨ρ,G,s,p.mono fun v H1 ⟨ρ1,G1,d,s1,r,q⟩=>?_⟩;cases d with
 |bl c=>exact⟨c,cB.mp r,Post.ok s1 q (cB.mpr rfl)⟩
 |_=>exact q.elim
theorem aR:SA X B W [] aO:=PA.imp jA fun σ H Q ⟨ρ,G,s,p⟩=>p [] H G s.yK (aZ.mpr rfl)
theorem aD{e:ah}{es:List ah}{fe:ak->Rs D}{fs:ak->Rs (List D)}(ha:SE X B W e fe)(hr:SA X B W es fs)(hs:ba (e::es) X.env=(false,bb e X.env)::ba es X.env:=by rfl):SA X B W (e::es) (aj fe fs):=by
 refine PA.imp (eG ha hr hs) fun σ H Q ⟨ρ,G,s,p⟩=>⟨ρ,G,s,?_⟩
 unfold aj at p;cases e1:fe ρ with
 |ok d =>
  rw[e1]at p;intro v H1 G1 x1 r1;refine⟨ρ,G1,s.ext x1,?_⟩;have p':aao X.K W σ G H ((fs ρ).bind fun xs=>.ok (d::xs)) Q:=p;cases e2:fs ρ with
  |ok ds =>
   rw[e2]at p';intro vs H2 G2 x2 r2;exact p' (v::vs) H2 G2 (x1.trans x2) (aG.mpr ⟨v,vs,rfl,r1.mono x2.gg,r2⟩)
  |ex c n=>rw[e2]at p';exact fun H2 G2 x2=>p' H2 G2 (x1.trans x2)
  |no=>rw[e2]at p';exact p'
 |ex c n=>rw[e1]at p;exact p
 |no=>rw[e1]at p;exact p
noncomputable def nD(K:ai)(r:List V->Hp->VK->Prop)(g:List D->Rs D):Prop :=
 ∀(B:Bs) (W:Wi) (σ:St) (ρ:ak) (G H:Hp) (ds:List D) (vs:List V) (Q:VK),SR K B σ H ρ G->bA K G ds vs->Post K W σ G H (g ds) Q->r vs H Q
theorem KC{t:ak->Rs (List D)}{g:List D->Rs D}{r:List V->Hp->VK->Prop}{Q:VK}(hg:nD K r g)(h:tF K B W (fA t g) σ H Q):tAF K B W t σ H fun vs H1=>r vs H1 Q:=by
 obtain⟨ρ,G,s,p⟩:=h;refine⟨ρ,G,s,?_⟩;unfold fA at p;cases e:t ρ with
 |ok ds=>rw[e]at p;exact fun vs H1 G1 x r=>hg B W σ ρ G1 H1 ds vs Q (s.ext x) r (Post.ext x p)
 |ex c n=>rw[e]at p;exact p
 |no=>rw[e]at p;exact p
noncomputable def gq:List D->Rs D:=fun ds=>if ds.length<=1000 then .ok (.tup ds) else .no
noncomputable def qJ:List D->Rs D:=fun ds=>if ds.length<=1000 then .ok (.lst ds) else .no
theorem Bo{n:Nat}(h:n<=1000):n<=sizeLine:=gx (NQ h)
theorem fX{es:List ah}{x1}{pos:Pos}{f:ak->Rs (List D)}(h:SA X B W es f):SE X B W (.Tuple es x1 pos) (fA f gq):=by
 refine PE.imp (abK h) fun σ H Q q=>KC (r:=fun xs H1 Q=>xs.length<=sizeLine/\∀p,H1 p=none->Q (.ref p) (upd H1 p (.tup xs))) ?_ q;intro B W σ ρ G H ds vs Q s r p;unfold gq at p;by_cases hl:ds.length<=1000
 ·rw[if_pos hl]at p;refine⟨by rw[<- r.length];exact Bo hl,fun a ha=>?_⟩;have x:=rC (xs:=vs) s.en.gh s.en.tp ha;exact p _ _ _ x (bD.mpr ⟨a,vs,rfl,.of aQ,r.mono x.gg⟩)
 ·rw[if_neg hl]at p;exact p.elim
theorem uc{es:List ah}{pos:Pos}{f:ak->Rs (List D)}(h:SA X B W es f):SE X B W (.List es pos) (fA f qJ):=by
 refine PE.imp (Qx h) fun σ H Q q=>KC (r:=fun xs H1 Q=>xs.length<=sizeLine/\∀p,H1 p=none->Q (.ref p) (upd H1 p (.lst xs))) ?_ q;intro B W σ ρ G H ds vs Q s r p;unfold qJ at p;by_cases hl:ds.length<=1000
 ·rw[if_pos hl]at p;refine⟨by rw[<- r.length];exact Bo hl,fun a ha=>?_⟩;have x:=ji (xs:=vs) s.en.gh s.en.tp ha;exact p _ _ _ x (bh.mpr ⟨a,vs,rfl,.of aQ,r.mono x.gg⟩)
 ·rw[if_neg hl]at p;exact p.elim
noncomputable def iY:D->D->Rs D
 | .tup ds,.int i=>match vU ds i with|some d=>.ok d|none=>.no
 | .lst ds,.int i=>match vU ds i with|some d=>.ok d|none=>.no
 |_,_=>.no
theorem Et{ds:List D}{vs:List V}{i:Int}{d:D}(r:bA K G ds vs)(h:vU ds i=some d):∃v,vU vs i=some v/\Rep K G d v:=by
 unfold vU at h ⊢;rw[<- r.length];cases e:Nz ds.length i with
 |none=>rw[e]at h;cases h
 |some j=>rw[e]at h;exact r.get (i:=j) h
theorem abY:Qf K (rIx K) iY:=by
 intro B W σ ρ G H x y v u Q s rx ry p;cases y <;> first|(cases x <;> exact p.elim)|skip
 rename_i i;cases x with
 |tup ds =>
  simp only[iY]at p;obtain⟨a,vs,rfl,q,rr⟩:=bD.mp rx;cases e:vU ds i with
  |none=>rw[e]at p;exact p.elim
  |some d =>
   rw[e]at p;obtain⟨w,e2,rw'⟩:=Et rr e;exact .inr (.inl ⟨a,vs,i,w,rfl,aU.mp ry,Same.dU s.en.gh q,e2,Post.ok s p rw'⟩)
 |lst ds =>
  simp only[iY]at p;obtain⟨a,vs,rfl,q,rr⟩:=bh.mp rx;cases e:vU ds i with
  |none=>rw[e]at p;exact p.elim
  |some d =>
   rw[e]at p;obtain⟨w,e2,rw'⟩:=Et rr e;exact .inl ⟨a,vs,i,w,rfl,aU.mp ry,s.en.gh.seq q,e2,Post.ok s p rw'⟩
 |_=>exact p.elim
theorem eV{a b:ah}{pos:Pos}{fa fb:ak->Rs D}(ha:SE X B W a fa)(hb:SE X B W b fb)(hs:Ks b:=by intro _ _;rfl):SE X B W (.Subscript a b pos) (aV iY fa fb) :=
 PE.imp (aeO abO ha hb hs) fun _ _ _ h=>Bl abY h
instance (i j:Int):Decidable (HX i j):=by unfold HX;exact inferInstance
instance (i j:Int):Decidable (Qt i j):=by unfold Qt;exact inferInstance
noncomputable def CDB(i j:Int):Prop:=0 < j/\j < 2 ^ 200
instance (i j:Int):Decidable (CDB i j):=by unfold CDB;exact inferInstance
theorem CDB.py{i j:Int}(h:CDB i j):cz.divisionGoesByPylong i j=false:=by
 refine PyProof.noPylong_of_log2 ?_;have h1:j.natAbs < 2 ^ 200:=by have:=h.1;have:=h.2;lia
 have h2:j.natAbs.log2 < 200:=(Nat.log2_lt (by have:=h.1;lia)).mpr h1;lia
theorem Rh:qH X (gy .FloorDiv) (rI CDB fun i j=>.int (i / j)):=opI fun i j _ _ _ _ _ hc q=>by have h1:=hc.1;rw[<- uk i (by lia)]at q;exact PyProof.Rows.floordiv_int (by lia) q (.inl hc.py)
noncomputable def iW:=gI0 fun i j=>D.int (i - j)
noncomputable def dI:=gI HX fun i j=>D.int (i * j)
noncomputable def Eu:=gI CDB fun i j=>D.int (i / j)
instance (i j:Int):Decidable ((fun(_:Int) (j:Int)=>0 < j) i j):=inferInstanceAs (Decidable (0 < j))
noncomputable def jN:=gI (fun _ j=>0 < j) fun i j=>D.int (i % j)
noncomputable def eZ:=gI Qt fun i j=>D.int (i ^ j.toNat)
variable{a b:ah}{pos:Pos}{fa fb:ak->Rs D}
theorem jO(ha:SE X B W a fa)(hb:SE X B W b fb):SE X B W (.BinOp a .Sub b pos) (aV iW fa fb):=uJ abB (vW fun _ _ _=>aU.mpr rfl) ha hb
theorem iC(ha:SE X B W a fa)(hb:SE X B W b fb):SE X B W (.BinOp a .Mult b pos) (aV dI fa fb):=uJ abC (Em fun _ _ _=>aU.mpr rfl) ha hb
theorem Ri(ha:SE X B W a fa)(hb:SE X B W b fb):SE X B W (.BinOp a .FloorDiv b pos) (aV Eu fa fb):=uJ Rh (Em fun _ _ _=>aU.mpr rfl) ha hb
theorem nU(ha:SE X B W a fa)(hb:SE X B W b fb):SE X B W (.BinOp a .Mod b pos) (aV jN fa fb):=uJ abD (Em fun _ _ _=>aU.mpr rfl) ha hb
theorem fj(ha:SE X B W a fa)(hb:SE X B W b fb):SE X B W (.BinOp a .Pow b pos) (aV eZ fa fb):=uJ abE (Em fun _ _ _=>aU.mpr rfl) ha hb
noncomputable def Yb:D->Rs D
 | .int i=>.ok (.int (-i))
 |_=>.no
theorem abZ(ha:SE X B W a fa):SE X B W (.UnaryOp .USub a pos) (fun ρ=>(fa ρ).bind Yb):=by
 refine PE.imp (aeH abH ha) fun σ H Q h=>?_;obtain⟨ρ,G,s,p⟩:=pP (k:=fun _=>Yb) h;refine⟨ρ,G,s,p.mono fun v H1 ⟨ρ1,G1,d,s1,r,q⟩=>?_⟩;cases d with
 |int i=>exact⟨i,aU.mp r,Post.ok s1 q (aU.mpr rfl)⟩
 |_=>exact q.elim
noncomputable def bF:D->D->Rs D
 | .int i,.int j=>.ok (.int (i + j))
 | .lst a,.lst b=>if a.length + b.length<=1000000 then .ok (.lst (a++b)) else .no
 |_,_=>.no
theorem sz6{n:Nat}(h:n<=1000000):n<=sizeLine:=dq h (by rw[ef];decide)
end
section
variable{X:Cx}{K:ai}{B:Bs}{W:Wi}{σ:St}{G H:Hp}{ρ:ak}{a b:ah}{pos:Pos}{fa fb:ak->Rs D}
noncomputable def Rj(K:ai):R2:=fun x y H Q=>∃l b xs zs,x=.ref l/\y=.ref b/\jz K H l xs/\jz K H b zs/\xs.length + zs.length<=sizeLine/\∀p,H p=none->Q (.ref p) (upd H p (.lst (xs++zs)))
open PyProof.Rows in
theorem Yc:qH X (gy .Add) (Rj X.K):=by
 intro pins s σ H x y v u Q I rx ry h;obtain⟨l,b,xs,zs,rfl,rfl,hH,hB,hz,q⟩:=h;cases rx;cases ry;obtain⟨vs,r,pl,_⟩:=I.list hH;obtain⟨ws,r2,pl2,_⟩:=I.list hB;obtain⟨⟨cls,dd,data,sl⟩,ho,hc,n,hd⟩:=pl.isList;obtain⟨⟨cls2,dd2,data2,sl2⟩,ho2,hc2,n2,hd2⟩:=pl2.isList;simp only at hc hd hc2 hd2;subst hc hd hc2 hd2;have e:vs.toArray++ws.toArray=(vs++ws).toArray:=by simp
 have l1:=r.length;have l2:=r2.length;refine concat_meets ⟨_,ho,rfl⟩ ⟨_,ho2,rfl⟩ noFill_list_add seq_list_add PySem.F.slot_list_add PySem.F.entry_list_add (PySem.F.args_list_add_2 _ _) (list_addW l b vs.toArray ws.toArray n n2 dd dd2 sl sl2 (by simp only[cy];lia)) ⟨ho,ho2,?_⟩;rw[e];exact⟨.ref _,_,I.aeU (t':=s.toks) (r.append r2) (by rw[dy];lia),rfl,q _ I.fresh⟩
theorem Yd:qH X (gy .Add) (fun x y H Q=>Qs (fun i j=>V.int (i + j)) x y H Q∨Rj X.K x y H Q):=abA.or Yc
theorem Rk:Qf K (fun x y H Q=>Qs (fun i j=>V.int (i + j)) x y H Q∨Rj K x y H Q) bF:=by
 intro B W σ ρ G H x y v u Q s rx ry p;cases x with
 |int i =>
  cases y with
  |int j=>exact .inl ⟨i,j,aU.mp rx,aU.mp ry,Post.ok s p (aU.mpr rfl)⟩
  |_=>exact p.elim
 |lst ds =>
  cases y with
  |lst es =>
   simp only[bF]at p;by_cases hl:ds.length + es.length<=1000000
   ·rw[if_pos hl]at p;obtain⟨a,vs,rfl,q,r⟩:=bh.mp rx;obtain⟨b,us,rfl,q',r'⟩:=bh.mp ry;refine .inr ⟨a,b,vs,us,rfl,rfl,s.en.gh.seq q,s.en.gh.seq q',by rw[<- r.length,<- r'.length];exact sz6 hl,fun c hc=>?_⟩;have x:=ji (xs:=vs++us) s.en.gh s.en.tp hc;exact p _ _ _ x (bh.mpr ⟨c,vs++us,rfl,.of aQ,(r.append r').mono x.gg⟩)
   ·rw[if_neg hl]at p;exact p.elim
  |_=>exact p.elim
 |_=>cases y <;> exact p.elim
theorem bZ(ha:SE X B W a fa)(hb:SE X B W b fb):SE X B W (.BinOp a .Add b pos) (aV bF fa fb):=uJ Yd Rk ha hb
noncomputable def toI:D->Rs Int
 | .int i=>.ok i
 |_=>.no
noncomputable def yL(xs:List D)(lo hi:Option Int):List D:=(xs.drop (HT.DK xs.length 0 lo)).take (HT.DK xs.length xs.length hi - HT.DK xs.length 0 lo)
theorem Rm{ds:List D}{vs:List V}{lo hi:Option Int}(r:bA K G ds vs):bA K G (yL ds lo hi) (Ib vs lo hi):=by unfold yL Ib;rw[r.length];exact(r.drop _).take _
noncomputable def gSl(lo hi:Option Int):D->Rs D
 | .lst ds=>.ok (.lst (yL ds lo hi))
 |_=>.no
noncomputable def aeX(W:Wi)(σ:St)(G H:Hp)(r:Rs (Option Int))(Q:Option Int->Hp->Prop):Prop :=
 match r with
 | .ok b=>∀H' G',Ext G H G' H'->Q b H'
 | .ex c n=>∀H' G',Ext G H G' H'->W c n σ H'
 | .no=>False
noncomputable def tO(K:ai)(B:Bs)(W:Wi)(f:ak->Rs (Option Int)):TO:=fun σ H Q=>∃ρ G,SR K B σ H ρ G/\aeX W σ G H (f ρ) Q
noncomputable def SO(X:Cx)(B:Bs)(W:Wi)(e:Option ah)(f:ak->Rs (Option Int)):Prop:=PO X e (tO X.K B W f)
noncomputable def acd:ak->Rs (Option Int):=fun _=>.ok none
noncomputable def fP(f:ak->Rs D):ak->Rs (Option Int):=fun ρ=>(f ρ).bind fun d=>(toI d).bind fun i=>.ok (some i)
theorem PO.imp{e:Option ah}{t t':TO}(h:PO X e t)(i:∀σ H Q,t' σ H Q->t σ H Q):PO X e t':=fun pins s σ H Q I q=>h pins s σ H Q I (i σ H Q q)
theorem KD{e:ah}{f:ak->Rs D}(h:SE X B W e f):SO X B W (some e) (fP f):=by
 refine PO.imp (Xx h) fun σ H Q ⟨ρ,G,s,p⟩=>⟨ρ,G,s,?_⟩
 unfold fP at p;cases e1:f ρ with
 |ok d =>
  rw[e1]at p;cases d with
  |int i=>exact fun w H' G' e r'=>⟨i,aU.mp r',p H' G' e⟩
  |_=>exact p.elim
 |ex c n=>rw[e1]at p;exact p
 |no=>rw[e1]at p;exact p
noncomputable def fSl(fe:ak->Rs D)(fl fh:ak->Rs (Option Int)):ak->Rs D:=fun ρ=>(fe ρ).bind fun x=>(fl ρ).bind fun l=>(fh ρ).bind fun h=>gSl l h x
theorem ace{x:D}{v:V}{l h:Option Int}{Q:VK}(s:SR K B σ H ρ G)(r:Rep K G x v)(p:Post K W σ G H (gSl l h x) Q):aeS K v l h H Q:=by
 cases x with
 |lst ds =>
  obtain⟨a,vs,rfl,q,rr⟩:=bh.mp r;refine⟨a,vs,rfl,s.en.gh.seq q,fun c hc=>?_⟩;have x:=ji (xs:=Ib vs l h) s.en.gh s.en.tp hc;exact p _ _ _ x (bh.mpr ⟨c,_,rfl,.of aQ,(Rm rr).mono x.gg⟩)
 |_=>exact p.elim
theorem Ro{e:ah}{lo hi:Option ah}{p2:Pos}{fe:ak->Rs D}{fl fh:ak->Rs (Option Int)}(he:SE X B W e fe)(hl:SO X B W lo fl)(hh:SO X B W hi fh) :
  SE X B W (.Subscript e (.Slice lo hi none p2) pos) (fSl fe fl fh):=by
 refine PE.imp (QB XD he hl hh) fun σ H Q h=>?_;obtain⟨ρ,G,s,p⟩:=pP (k:=fun ρ x=>(fl ρ).bind fun l=>(fh ρ).bind fun h=>gSl l h x) h;refine⟨ρ,G,s,p.mono fun v H1 ⟨ρ1,G1,d,s1,r,q⟩=>⟨ρ1,G1,s1,?_⟩⟩;cases e1:fl ρ1 with
 |ok l =>
  rw[e1]at q;intro H2 G2 x2;have q':Post X.K W σ G1 H1 ((fh ρ1).bind fun h=>gSl l h d) Q:=q;refine⟨ρ1,G2,s1.ext x2,?_⟩;cases e2:fh ρ1 with
  |ok h =>
   rw[e2]at q';exact fun H3 G3 x3=>ace ((s1.ext x2).ext x3) ((r.mono x2.gg).mono x3.gg) (Post.ext (x2.trans x3) q')
  |ex c n=>rw[e2]at q';exact fun H3 G3 x3=>q' H3 G3 (x2.trans x3)
  |no=>rw[e2]at q';exact q'
 |ex c n=>rw[e1]at q;exact q
 |no=>rw[e1]at q;exact q
variable{x:Str}{p:Pos}{e:ah}{es:List ah}{id T:String}{r:List V->Hp->VK->Prop}{g:List D->Rs D}{fs:ak->Rs (List D)}
theorem jP(hc:eF X (.builtin id) r) (hd:nD X.K r g) (hg:Gl X x) (hm:X.mg x=none) (hv:ic x=some (.builtin id)) (ha:SA X B W (e::es) fs) (hn:x≠"__name__":=by decide) (hdb:pK x:=by decide)
  (he:ba (e::es) X.env=(false,bb e X.env)::ba es X.env:=by rfl) (hpl:(df pos (ba es X.env)).any (·.1)=false:=by rfl):SE X B W (.Call (.Name x p) (e::es) [] pos) (fA fs g) :=
 PE.imp (nP hc hg hm hv ha hn hdb he hpl) fun _ _ _ h=>KC hd h
theorem zA(hc:eF X (.type T) r) (hd:nD X.K r g) (hg:Gl X x) (hm:X.mg x=none) (hv:ic x=some (.type T)) (ha:SA X B W (e::es) fs) (hn:x≠"__name__":=by decide) (hdb:pK x:=by decide)
  (he:ba (e::es) X.env=(false,bb e X.env)::ba es X.env:=by rfl) (hpl:(df pos (ba es X.env)).any (·.1)=false:=by rfl):SE X B W (.Call (.Name x p) (e::es) [] pos) (fA fs g) :=
 PE.imp (zq hc hg hm hv ha hn hdb he hpl) fun _ _ _ h=>KC hd h
noncomputable def nJ:List D->Rs D
 | [.lst ds]=>.ok (.int ds.length)
 | [.tup ds]=>.ok (.int ds.length)
 |_=>.no
theorem acf:nD K (fun xs H Q=>∃p ys,xs=[.ref p]/\(jz K H p ys∨iV K H p ys)/\Q (.int ys.length) H) nJ:=by
 intro B W σ ρ G H ds vs Q s r p
 match ds,p with
 | [.lst ds],p =>
  obtain⟨v,vs',rfl,r1,r2⟩:=aG.mp r;obtain⟨a,us,rfl,q,rr⟩:=bh.mp r1;rw[aZ.mp r2];refine⟨a,us,rfl,.inl (s.en.gh.seq q),Post.ok s p ?_⟩;rw[<- rr.length];exact aU.mpr rfl
 | [.tup ds],p =>
  obtain⟨v,vs',rfl,r1,r2⟩:=aG.mp r;obtain⟨a,us,rfl,q,rr⟩:=bD.mp r1;rw[aZ.mp r2];refine⟨a,us,rfl,.inr (Same.dU s.en.gh q),Post.ok s p ?_⟩;rw[<- rr.length];exact aU.mpr rfl
 | [],p=>exact p.elim
 | [.non],p=>exact p.elim
 | [.bl _],p=>exact p.elim
 | [.int _],p=>exact p.elim
 | [.str _],p=>exact p.elim
 | [.zu _ _],p=>exact p.elim
 | [.zx _ _],p=>exact p.elim
 | [.fn _],p=>exact p.elim
 | [.obj _ _ _],p=>exact p.elim
 |_::_::_,p=>exact(by simp only[nJ]at p;exact p.elim)
theorem wj(hm:X.mg "len"=none) (ha:SE X B W e fa) (hg:Gl X "len":=by rfl) (he:ba [e] X.env=[(false,bb e X.env)]:=by rfl):SE X B W (.Call (.Name "len" p) [e] [] pos) (fA (aj fa aO) nJ) :=
 jP Ba acf hg hm PySem.boot_len (aD ha aR he)  (by decide) (by decide) he rfl
noncomputable def jQ:List D->Rs D
 | [.lst ds]=>.ok (.tup ds)
 | [.tup ds]=>.ok (.tup ds)
 |_=>.no
theorem Rp:nD K (fun xs H Q=>∃p ys,xs=[.ref p]/\((jz K H p ys/\∀l,H l=none->Q (.ref l) (upd H l (.tup ys)))∨(iV K H p ys/\Q (.ref p) H))) jQ:=by
 intro B W σ ρ G H ds vs Q s r p
 match ds,p with
 | [.lst ds],p =>
  obtain⟨v,vs',rfl,r1,r2⟩:=aG.mp r;obtain⟨a,us,rfl,q,rr⟩:=bh.mp r1;rw[aZ.mp r2];refine⟨a,us,rfl,.inl ⟨s.en.gh.seq q,fun c hc=>?_⟩⟩;have x:=rC (xs:=us) s.en.gh s.en.tp hc;exact p _ _ _ x (bD.mpr ⟨c,us,rfl,.of aQ,rr.mono x.gg⟩)
 | [.tup ds],p =>
  obtain⟨v,vs',rfl,r1,r2⟩:=aG.mp r;obtain⟨a,us,rfl,q,rr⟩:=bD.mp r1;rw[aZ.mp r2];exact⟨a,us,rfl,.inr ⟨Same.dU s.en.gh q,Post.ok s p r1⟩⟩
 | [],p=>exact p.elim
 | [.non],p=>exact p.elim
 | [.bl _],p=>exact p.elim
 | [.int _],p=>exact p.elim
 | [.str _],p=>exact p.elim
 | [.zu _ _],p=>exact p.elim
 | [.zx _ _],p=>exact p.elim
 | [.fn _],p=>exact p.elim
 | [.obj _ _ _],p=>exact p.elim
 |_::_::_,p=>exact(by simp only[jQ]at p;exact p.elim)
open PyProof.Rows in
theorem Bp:eF X (.builtin "divmod") (fun xs H Q=>∃i j,xs=[.int i,.int j]/\CDB i j/\∀p,H p=none->Q (.ref p) (upd H p (.tup [.int (i / j),.int (i % j)]))):=by intro pins s σ H xs us Q I r h;obtain⟨i,j,rfl,hc,q⟩:=h;have h1:=hc.1;obtain⟨u,w',rfl,⟨t,rfl⟩,⟨t',rfl⟩⟩:=Ef r;refine divmod_int (by lia) ?_ (.inl hc.py);rw[uk i (by lia),Int.fmod_eq_emod_of_nonneg i (by lia)];have hn:H s.heap.objs.size=none:=I.hok.fresh (bE _);refine⟨.ref s.heap.objs.size,_,?_,rfl,q _ hn⟩;refine I.laid (fun b o e=>cm _ e) (bE _) ⟨by simp only[ck,eC];rw[ef];decide,[.int (i / j) s.toks,.int (i % j) (s.toks + 1)],.cons ⟨_,rfl⟩ (.cons ⟨_,rfl⟩ .nil),?_⟩;exact⟨_,cE s.heap rfl,rfl,0,rfl⟩
noncomputable def DN:List D->Rs D
 | [.int i,.int j]=>if CDB i j then .ok (.tup [.int (i / j),.int (i % j)]) else .no
 |_=>.no
theorem aeY:nD K (fun xs H Q=>∃i j,xs=[.int i,.int j]/\CDB i j/\∀p,H p=none->Q (.ref p) (upd H p (.tup [.int (i / j),.int (i % j)]))) DN:=by
 intro B W σ ρ G H ds vs Q s r p;unfold DN at p;split at p
 ·rename_i i j;obtain⟨v,vs',rfl,r1,r2⟩:=aG.mp r;obtain⟨v2,vs'',rfl,r3,r4⟩:=aG.mp r2;rw[aU.mp r1,aU.mp r3,aZ.mp r4];by_cases hc:CDB i j
  ·rw[if_pos hc]at p;refine⟨i,j,rfl,hc,fun c hc=>?_⟩;have x:=rC (xs:=[.int (i / j),.int (i % j)]) s.en.gh s.en.tp hc;exact p _ _ _ x (bD.mpr ⟨c,_,rfl,.of aQ,aG.mpr ⟨_,_,rfl,aU.mpr rfl,.one (aU.mpr rfl)⟩⟩)
  ·rw[if_neg hc]at p;exact p.elim
 ·exact p.elim
end
inductive Ou where
 |nx (ρ:ak)|rt (d:D)|bk (ρ:ak)|ct (ρ:ak)|ex (c:Str) (n:Int) (ρ:ak)|no|rx (d:D) (ρ:ak)|rl (ds:List D)
noncomputable def bQ(K:ai)(B:Bs)(W:Wi)(G:Hp)(o:Ou)(De:Ends):Prop :=
 match o with
 | .nx ρ'=>∀σ' H' G',SR K B σ' H' ρ' G'->Same G G'->De.nx σ' H'
 | .bk ρ'=>∀σ' H' G',SR K B σ' H' ρ' G'->Same G G'->De.bk σ' H'
 | .ct ρ'=>∀σ' H' G',SR K B σ' H' ρ' G'->Same G G'->De.ct σ' H'
 | .rt d=>∀v H' G',Ext B.1 B.2 G' H'->Same G G'->Rep K G' d v->De.rt v H'
 | .ex c n ρ'=>∀σ' H' G',SR K B σ' H' ρ' G'->Same G G'->W c n σ' H'
 | .no=>False
 | .rx d ρ'=>∀v σ' H' G',SR K B σ' H' ρ' G'->Same G G'->Rep K G' d v->De.rt v H'
 | .rl ds=>∀a ws H' G',Ext B.1 B.2 G' H'->Same G G'->G' a=none->B.2 a=none->H' a=some (.lst ws)->bA K G' ds ws->De.rt (.ref a) H'
noncomputable def tS(K:ai)(B:Bs)(W:Wi)(g:ak->Ou):TS:=fun De σ H=>∃ρ G,SR K B σ H ρ G/\bQ K B W G (g ρ) De
noncomputable def SS(X:Cx)(B:Bs)(W:Wi)(st:bo)(g:ak->Ou):Prop:=PS X st (tS X.K B W g)
noncomputable def tE(X:Cx)(B:Bs)(W:Wi)(st:List bo)(g:ak->Ou):Prop:=yH X st (tS X.K B W g)
noncomputable def Rq(o:Ou)(k:ak->Ou):Ou:=match o with
 | .nx ρ=>k ρ
 |o=>o
noncomputable def oR{α:Type}(r:Rs α)(ρ:ak)(k:α->Ou):Ou:=match r with
 | .ok a=>k a
 | .ex c n=>.ex c n ρ
 | .no=>.no
section
variable{X:Cx}{K:ai}{B:Bs}{W:Wi}{σ:St}{G G' H:Hp}{ρ:ak}{De De':Ends}
theorem bQ.same{o:Ou}(h:bQ K B W G o De)(e:Same G G'):bQ K B W G' o De:=by
 cases o with
 |nx ρ'=>exact fun σ' H' G'' s q=>h σ' H' G'' s (e.trans q)
 |bk ρ'=>exact fun σ' H' G'' s q=>h σ' H' G'' s (e.trans q)
 |ct ρ'=>exact fun σ' H' G'' s q=>h σ' H' G'' s (e.trans q)
 |rt d=>exact fun v H' G'' x q=>h v H' G'' x (e.trans q)
 |ex c n ρ'=>exact fun σ' H' G'' s q=>h σ' H' G'' s (e.trans q)
 |no=>exact h
 |rx d ρ'=>exact fun v σ' H' G'' s q=>h v σ' H' G'' s (e.trans q)
 |rl ds=>exact fun a ws H' G'' s q=>h a ws H' G'' s (e.trans q)
theorem fQ{r:Rs D}{k:D->Ou}{Q:VK}(s:SR K B σ H ρ G)(p:bQ K B W G (oR r ρ k) De)(h:∀d v H' G',r=.ok d->Ext G H G' H'->Rep K G' d v->bQ K B W G' (k d) De->Q v H'):Post K W σ G H r Q:=by
 cases r with
 |ok d=>exact fun v H' G' e r=>h d v H' G' rfl e r (bQ.same p e.gg)
 |ex c n=>exact fun H' G' e=>p σ H' G' (s.ext e) e.gg
 |no=>exact p
theorem acg:tE X B W [] .nx:=yH.imp Xo fun De σ H ⟨ρ,G,s,p⟩=>p σ H G s (.refl _)
theorem Ye{st:bo}{rest:List bo}{g k:ak->Ou}(h1:SS X B W st g)(h2:tE X B W rest k):tE X B W (st::rest) (fun ρ=>Rq (g ρ) k):=by
 refine yH.imp (Ec h1 h2) fun De σ H ⟨ρ,G,s,p⟩=>⟨ρ,G,s,?_⟩
 dsimp only at p;cases e:g ρ with
 |nx ρ'=>rw[e]at p;exact fun σ' H' G' s' q=>⟨ρ',G',s',bQ.same (show bQ X.K B W G (k ρ') De from p) q⟩
 |bk ρ'=>rw[e]at p;exact p
 |ct ρ'=>rw[e]at p;exact p
 |rt d=>rw[e]at p;exact p
 |ex c n ρ'=>rw[e]at p;exact p
 |no=>rw[e]at p;exact p
 |rx d ρ'=>rw[e]at p;exact p
 |rl ds=>rw[e]at p;exact p
theorem ach{st:bo}{g:ak->Ou}(h1:SS X B W st g):tE X B W [st] g:=Kl h1
theorem NZ{st:List bo}:tE X B W st (fun _=>.no):=yH.imp Nm fun De σ H ⟨ρ,G,s,p⟩=>p
theorem aci{e:ah}{pos}{f:ak->Rs D}(h:SE X B W e f):SS X B W (.Return (some e) pos) (fun ρ=>oR (f ρ) ρ .rt) :=
 PS.imp (Av h) fun De σ H ⟨ρ,G,s,p⟩=>⟨ρ,G,s,fQ s p fun d v H' G' _ e r q=>q v H' G' (s.en.trans e) (.refl _) r⟩
theorem Yg{e:ah}{pos:Pos}{f:ak->Rs D}(h:SE X B W e f)(hs:eD e none pos.line X.env=pure false:=by rfl):SS X B W (.Expr e pos) (fun ρ=>oR (f ρ) ρ fun _=>.nx ρ) :=
 PS.imp (pN h hs) fun De σ H ⟨ρ,G,s,p⟩=>⟨ρ,G,s,fQ s p fun d v H' G' _ e r q=>q σ H' G' (s.ext e) (.refl _)⟩
theorem aeZ{c:ah}{a b:List bo}{pos:Pos}{fc:ak->Rs Bool}{ga gb:ak->Ou}(hc:ST X B W c fc)(ha:tE X B W a ga)(hb:tE X B W b gb):SS X B W (.If c a b pos) (fun ρ=>oR (fc ρ) ρ fun x=>if x=true then ga ρ else gb ρ):=by
 refine PS.imp (aey hc ha hb) fun De σ H ⟨ρ,G,s,p⟩=>⟨ρ,G,s,?_⟩
 dsimp only at p;cases e:fc ρ with
 |ok x =>
  rw[e]at p;intro H' G' ee;have p':bQ X.K B W G (if x=true then ga ρ else gb ρ) De:=p;cases x with
  |true=>rw[if_pos rfl]at p' ⊢;exact⟨ρ,G',s.ext ee,p'.same ee.gg⟩
  |false=>rw[if_neg (by simp)]at p' ⊢;exact⟨ρ,G',s.ext ee,p'.same ee.gg⟩
 |ex c n=>rw[e]at p;exact fun H' G' ee=>p σ H' G' (s.ext ee) ee.gg
 |no=>rw[e]at p;exact p
noncomputable abbrev Tg:=D->ak->Option ak
noncomputable def tG(K:ai)(B:Bs)(h:Tg):TG:=fun v σ H Q=>∃ρ G d,SR K B σ H ρ G/\Rep K G d v/\∃ρ',h d ρ=some ρ'/\∀σ',SR K B σ' H ρ' G->Q σ' H
noncomputable def tGs(K:ai)(B:Bs)(h:List D->ak->Option ak):Xp:=fun vs σ H Q=>∃ρ G ds,SR K B σ H ρ G/\bA K G ds vs/\∃ρ',h ds ρ=some ρ'/\∀σ',SR K B σ' H ρ' G->Q σ' H
noncomputable def SG(X:Cx)(B:Bs)(tg:ah)(h:Tg):Prop:=PG X tg (tG X.K B h)
noncomputable def SGs(X:Cx)(B:Bs)(tg:List ah)(h:List D->ak->Option ak):Prop:=Xb X tg (tGs X.K B h)
theorem PG.imp{e:ah}{t t':TG}(h:PG X e t)(i:∀v σ H Q,t' v σ H Q->t v σ H Q):PG X e t':=fun pins s σ H v u Q I r q=>h pins s σ H v u Q I r (i v σ H Q q)
theorem Xb.imp{e:List ah}{t t':Xp}(h:Xb X e t)(i:∀v σ H Q,t' v σ H Q->t v σ H Q):Xb X e t':=fun pins s σ H v u Q I r q=>h pins s σ H v u Q I r (i v σ H Q q)
noncomputable def aK(i:Nat):Tg:=fun d ρ=>some (ρ.set i (.fz d))
noncomputable def kJ:List D->ak->Option ak:=fun ds ρ=>match ds with|[]=>some ρ|_=>none
noncomputable def bR(h:Tg)(k:List D->ak->Option ak):List D->ak->Option ak:=fun ds ρ=>match ds with|d::ds=>(h d ρ).bind (k ds)|[]=>none
noncomputable def jG(n:Nat)(k:List D->ak->Option ak):Tg:=fun d ρ=>match d with|.tup ds=>if ds.length=n then k ds ρ else none|_=>none
theorem Yh{i:Nat}{x:Str}{pos:Pos}(hN:X.N.Nodup)(hi:X.N[i]?=some x)(hx:Kg X.env.scope x)(hf:X.fn x=true∨X.env.scope.names.lookup x=some .local:=by first|exact .inl rfl|exact .inr rfl|assumption):SG X B (.Name x pos) (aK i) :=
 PG.imp (Xr hN hi hx hf) fun v σ H Q ⟨ρ,G,d,s,r,ρ',e,q⟩=>by cases e;exact q _ (s.set r)
theorem dJ:SGs X B [] kJ:=Xb.imp Xu fun v σ H Q ⟨ρ,G,ds,s,r,ρ',e,q⟩=>by
 cases ds with
 |nil=>cases e;exact⟨aZ.mp r,q _ s⟩
 |cons d ds=>cases e
theorem bC{e:ah}{es:List ah}{h:Tg}{k:List D->ak->Option ak}(h1:SG X B e h)(h2:SGs X B es k)(hs:(f9 (e::es) X.env).map (·.2)=assign e X.env::(f9 es X.env).map (·.2):=by rfl):SGs X B (e::es) (bR h k) :=
 Xb.imp (Qk h1 h2 hs) fun v σ H Q ⟨ρ,G,ds,s,r,ρ',e,q⟩=>by
  cases ds with
  |nil=>cases e
  |cons d ds =>
   obtain⟨w,ws,rfl,r1,r2⟩:=aG.mp r;unfold bR at e;dsimp only at e;cases e1:h d ρ with
   |none=>rw[e1]at e;cases e
   |some ρ1 =>
    rw[e1]at e;exact⟨w,ws,rfl,ρ,G,d,s,r1,ρ1,e1,fun σ1 s1=>⟨ρ1,G,ds,s1,r2,ρ',e,q⟩⟩
theorem gQ{es:List ah}{k:Nat}{pos:Pos}{n:Nat}{h:List D->ak->Option ak}(hc:X.calm=true)(hh:SGs X B es h)
  (hn:(f9 es X.env).length=n:=by rfl) (hst:(f9 es X.env).findIdx? (·.1)=none:=by rfl):SG X B (.Tuple es k pos) (jG n h) :=
 PG.imp (abt hc hh hn hst) fun v σ H Q ⟨ρ,G,d,s,r,ρ',e,q⟩=>by
  cases d with
  |tup ds =>
   unfold jG at e;dsimp only at e;by_cases hl:ds.length=n
   ·simp only[if_pos hl]at e;obtain⟨a,vs,rfl,q1,rr⟩:=bD.mp r;exact⟨a,vs,rfl,Same.dU s.en.gh q1,by rw[<- rr.length];exact hl,ρ,G,ds,s,rr,ρ',e,q⟩
   ·simp only[if_neg hl]at e;cases e
  |_=>cases e
noncomputable def oO(o:Option ak):Ou:=match o with|some ρ=>.nx ρ|none=>.no
theorem acj{tg e:ah}{pos:Pos}{f:ak->Rs D}{h:Tg}(he:SE X B W e f)(hg:SG X B tg h)(hs:oi [tg] e pos.line X.env=pure false:=by rfl)(hw:oj [tg] e X.env=pure none:=by rfl)
  (h1:(f9 [tg] X.env).map (·.2)=[assign tg X.env]:=by rfl):SS X B W (.Assign [tg] e pos) (fun ρ=>oR (f ρ) ρ fun d=>oO (h d ρ)) :=
 PS.imp (Ql he hg hs hw h1) fun De σ H ⟨ρ,G,s,p⟩=>⟨ρ,G,s,fQ s p fun d v H' G' _ e r q=>by
  cases e1:h d ρ with
  |none=>rw[e1]at q;exact q.elim
  |some ρ'=>rw[e1]at q;exact⟨ρ,G',d,s.ext e,r,ρ',e1,fun σ' s'=>q σ' H' G' s' (.refl _)⟩⟩
theorem acn{i:Nat}{x:Str}{e:ah}{pos pos':Pos}{f:ak->Rs D}(hN:X.N.Nodup)(hi:X.N[i]?=some x)(hx:Kg X.env.scope x)(he:SE X B W e f)(hs:eD e (some (.Name x pos')) pos.line X.env=pure false:=by rfl)(hf:X.fn x=true∨X.env.scope.names.lookup x=some .local:=by first|exact .inl rfl|exact .inr rfl|assumption) :
  SS X B W (.Assign [.Name x pos'] e pos) (fun ρ=>oR (f ρ) ρ fun d=>.nx (ρ.set i (.fz d))) :=
 PS.imp (vP hN hi hx he hs hf) fun De σ H ⟨ρ,G,s,p⟩=>⟨ρ,G,s,fQ s p fun d v H' G' _ e r q=>q _ H' G' ((s.ext e).set r) (.refl _)⟩
theorem SR.Ig(h:SR K B σ H ρ G){i:Nat}{z:Sl}{o:HO}{p:ae}(w:z.own=true)(r:nQ K G p z o)(hp:H p=none)(hz:z.lnt=false:=by rfl):SR K B (σ.set i (some (.ref p))) (upd H p o) (ρ.set i z) G:=by
 have x:=XM (o:=o) h.en.gh h.en.tp (fun xs e=>by subst e;exact r.tup) hp;have h':=h.ext x;have kO:∀{j:Nat}{y:Sl},(ρ.set i z)[j]?=some y->(i=j/\y=z/\i < ρ.length)∨(i≠j/\ρ[j]?=some y):=fun {j y} q=>by
  by_cases e:i=j
  ·subst e;have hl:i < ρ.length:=by have:=(dm.mp q).1;simpa using this
   rw[dC hl]at q;cases q;exact .inl ⟨rfl,rfl,hl⟩
  ·rw[de e]at q;exact .inr ⟨e,q⟩
 refine⟨h'.en,by simp[h.len],fun j d q=>?_,fun j y q wy=>?_,fun j k y y' a q1 w1 q2 w2 q3 q4=>?_,fun j y a q1 wl q2=>?_,h'.co⟩
 ·rcases kO q with ⟨_,e,_⟩|⟨e,q⟩
  ·rw[<- e]at w;cases w
  ·rw[de e];exact h'.fz j d q
 ·rcases kO q with ⟨e,e2,hl⟩|⟨e,q⟩
  ·subst e;subst e2;exact⟨p,o,dC (by rw[<- h.len];exact hl),aQ,h.en.gh.free hp,h.en.hh.free hp,r⟩
  ·rw[de e];exact h'.own j y q wy
 ·have fresh:∀{l:Nat}{y:Sl},ρ[l]?=some y->y.own=true->σ[l]?≠some (some (.ref p)):=fun {l y} q wy z=>by
   obtain⟨a,vs',h1,h2,_⟩:=h.own l y q wy;rw[h1]at z;have:a=p:=by injection z with z;injection z with z;injection z
   rw[this,hp]at h2;cases h2
  rcases kO q1 with ⟨e1,_,l1⟩|⟨n1,z1⟩
  ·rcases kO q2 with ⟨e2,_⟩|⟨n2,z2⟩
   ·exact e1.symm.trans e2
   ·subst e1;rw[dC (by rw[<- h.len];exact l1)]at q3;have:a=p:=by injection q3 with z;injection z with z;injection z with z;exact z.symm
    subst this;rw[de n2]at q4;exact(fresh z2 w2 q4).elim
  ·rcases kO q2 with ⟨e2,_,l2⟩|⟨n2,z2⟩
   ·subst e2;rw[dC (by rw[<- h.len];exact l2)]at q4;have:a=p:=by injection q4 with z;injection z with z;injection z with z;exact z.symm
    subst this;rw[de n1]at q3;exact(fresh z1 w1 q3).elim
   ·rw[de n1]at q3;rw[de n2]at q4;exact h.ap j k y y' a z1 w1 z2 w2 q3 q4
 ·rcases kO q1 with ⟨_,e,_⟩|⟨e,q⟩
  ·rw[e,hz]at wl;cases wl
  ·rw[de e]at q2;exact h.tie j y a q wl q2
theorem SR.aar(h:SR K B σ H ρ G){i:Nat}{ds:List D}{vs:List V}{p:ae}(r:bA K G ds vs)(hp:H p=none):SR K B (σ.set i (some (.ref p))) (upd H p (.lst vs)) (ρ.set i (.ow ds)) G:=h.Ig rfl ⟨vs,rfl,r⟩ hp
theorem SR.rH(h:SR K B σ H ρ G){i:Nat}{y z:Sl}{o:HO}{a:ae}(q:ρ[i]?=some y)(wy:y.own=true)(ha:σ[i]?=some (some (.ref a)))(wz:z.own=true)(r:nQ K G a z o)(hz:z.lnt=true->y.lnt=true:=by intro h;cases h):SR K B σ (upd H a o) (ρ.set i z) G:=by
 obtain⟨a',o0,e1,h2,h3,h4,h5⟩:=h.own i y q wy;have ea:a'=a:=by rw[e1]at ha;injection ha with z;injection z with z;injection z
 subst ea;have hl:i < ρ.length:=(dm.mp q).1;have kO:∀{j:Nat}{x:Sl},(ρ.set i z)[j]?=some x->(i=j/\x=z)∨(i≠j/\ρ[j]?=some x):=fun {j x} q=>by
  by_cases e:i=j
  ·subst e;rw[dC hl]at q;cases q;exact .inl ⟨rfl,rfl⟩
  ·rw[de e]at q;exact .inr ⟨e,q⟩
 have ne:∀b o,G b=some o->b≠a':=fun b o z w=>by rw[w,h3]at z;cases z
 refine⟨⟨h.en.gg,fun b o z=>?_,fun b o z=>?_,fun b xs z=>?_,h.en.nw⟩,by simp[h.len],fun j d z'=>?_,fun j x z' wx=>?_,fun j k x x' c z1 w1 z2 w2 z3 z4=>?_,fun j x c z1 wl z2=>?_,h.co.upd h2 h5.tab⟩
 ·rw[aL (aM z h4)];exact h.en.hh b o z
 ·rw[aL (ne b o z)];exact h.en.gh b o z
 ·by_cases w:b=a'
  ·subst w;rw[aQ]at z;cases z;exact r.tup.elim
  ·rw[aL w]at z;exact h.en.tp b xs z
 ·rcases kO z' with ⟨_,e⟩|⟨_,z'⟩
  ·rw[<- e]at wz;cases wz
  ·exact h.fz j d z'
 ·rcases kO z' with ⟨e,e2⟩|⟨e,z'⟩
  ·subst e;subst e2;exact⟨a',o,ha,aQ,h3,h4,r⟩
  ·obtain⟨b,us,w1,w2,w3,w4,w5⟩:=h.own j x z' wx;have hne:b≠a':=fun w=>by subst w;exact e (h.ap i j y x b q wy z' wx ha w1)
   exact⟨b,us,w1,by rw[aL hne];exact w2,w3,w4,w5⟩
 ·rcases kO z1 with ⟨e1,_⟩|⟨_,z1⟩ <;> rcases kO z2 with ⟨e2,_⟩|⟨_,z2⟩
  ·exact e1.symm.trans e2
  ·subst e1;exact h.ap i k y x' c q wy z2 w2 z3 z4
  ·subst e2;exact h.ap j i x y c z1 w1 q wy z3 z4
  ·exact h.ap j k x x' c z1 w1 z2 w2 z3 z4
 ·rcases kO z1 with ⟨e1,e2⟩|⟨_,z1⟩
  ·subst e1;rw[e2]at wl;exact h.tie i y c q (hz wl) z2
  ·exact h.tie j x c z1 wl z2
theorem SR.write(h:SR K B σ H ρ G){i:Nat}{ds es:List D}{vs:List V}{a:ae}(q:ρ[i]?=some (.ow ds))(ha:σ[i]?=some (some (.ref a)))(r:bA K G es vs):SR K B σ (upd H a (.lst vs)) (ρ.set i (.ow es)) G:=h.rH q rfl ha rfl ⟨vs,rfl,r⟩
noncomputable def za(i:Nat)(ρ:ak):ak:=match ρ[i]? with|some (.ow ds)=>ρ.set i (.fz (.lst ds))|_=>ρ
theorem SR.za(h:SR K B σ H ρ G)(i:Nat):∃G',Same G G'/\SR K B σ H (za i ρ) G':=by
 unfold Vl.za;split
 ·rename_i ds q;obtain⟨a,vs,e1,h2,h3,h4,h5⟩:=h.ow i ds q;have hl:i < ρ.length:=(dm.mp q).1;have gg:Same G (upd G a (.lst vs)):=fun b o z=>by rw[aL (aM z h3)];exact z
  refine⟨upd G a (.lst vs),gg,⟨h.en.gg.trans gg,h.en.hh,fun b o z=>?_,fun b xs z=>?_,fun b o z w=>?_⟩,by simp[h.len],fun j d z=>?_,fun j fs z wz=>?_,fun j k fs gs c z1 w1 z2 w2 z3 z4=>?_,fun j es c z1 wl z2=>?_,h.co⟩
  ·by_cases w:b=a
   ·subst w;rw[aQ]at z;cases z;exact h2
   ·rw[aL w]at z;exact h.en.gh b o z
  ·by_cases w:b=a
   ·subst w;rw[h2]at z;cases z
   ·rw[aL w];exact h.en.tp b xs z
  ·rw[aL (aM z h4)];exact h.en.nw b o z w
  ·by_cases e:i=j
   ·subst e;rw[dC hl]at z;cases z;exact⟨_,e1,bh.mpr ⟨a,vs,rfl,.of aQ,h5.mono gg⟩⟩
   ·rw[de e]at z;obtain⟨v,w1,w2⟩:=h.fz j d z;exact⟨v,w1,w2.mono gg⟩
  ·by_cases e:i=j
   ·subst e;rw[dC hl]at z;cases z;cases wz
   ·rw[de e]at z;obtain⟨b,us,w1,w2,w3,w4,w5⟩:=h.own j fs z wz;have hne:b≠a:=fun w=>by subst w;exact e (h.ap i j _ fs b q rfl z wz e1 w1)
    exact⟨b,us,w1,w2,by rw[aL hne];exact w3,w4,w5.mono gg⟩
  ·have nj:i≠j:=fun e=>by subst e;rw[dC hl]at z1;cases z1;cases w1
   have nk:i≠k:=fun e=>by subst e;rw[dC hl]at z2;cases z2;cases w2
   rw[de nj]at z1;rw[de nk]at z2;exact h.ap j k fs gs c z1 w1 z2 w2 z3 z4
  ·have nj:i≠j:=fun e=>by subst e;rw[dC hl]at z1;cases z1;cases wl
   rw[de nj]at z1;exact h.tie j es c z1 wl z2
 ·exact⟨G,.refl _,h⟩
theorem Yi{st:List bo}{g:ak->Ou}(i:Nat)(h:tE X B W st g):tE X B W st (fun ρ=>g (za i ρ)) :=
 yH.imp h fun De σ H ⟨ρ,G,s,p⟩=>let ⟨G',gg,s'⟩:=s.za i;⟨_,G',s',bQ.same p gg⟩
theorem aco{i:Nat}{x:Str}{es:List ah}{pos pos' lp:Pos}{f:ak->Rs (List D)}(hN:X.N.Nodup)(hi:X.N[i]?=some x)(hx:Kg X.env.scope x)(he:SA X B W es f)(hs:eD (.List es lp) (some (.Name x pos')) pos.line X.env=pure false:=by rfl)(hf:X.fn x=true∨X.env.scope.names.lookup x=some .local:=by first|exact .inl rfl|exact .inr rfl|assumption) :
  SS X B W (.Assign [.Name x pos'] (.List es lp) pos) (fun ρ=>oR (f ρ) ρ fun ds=>if ds.length<=1000 then .nx (ρ.set i (.ow ds)) else .no):=by
 refine PS.imp (vP hN hi hx (Qx he) hs hf) fun De σ H ⟨ρ,G,s,p⟩=>⟨ρ,G,s,?_⟩
 dsimp only at p;cases e:f ρ with
 |ok ds =>
  rw[e]at p;have p':bQ X.K B W G (if ds.length<=1000 then .nx (ρ.set i (.ow ds)) else .no) De:=p;by_cases hl:ds.length<=1000
  ·rw[if_pos hl]at p';exact fun vs H' G' x r=>⟨by rw[<- r.length];exact Bo hl,fun c hc=>p' _ _ G' ((s.ext x).aar r hc) x.gg⟩
  ·rw[if_neg hl]at p';exact p'.elim
 |ex c n=>rw[e]at p;exact fun H' G' x=>p σ H' G' (s.ext x) x.gg
 |no=>rw[e]at p;exact p
theorem Oa{i:Nat}{x:Str}{e:ah}{pos p1 p2 cp:Pos}{f:ak->Rs D}(hv:PE X (.Name x p1) (Aq i))(he:SE X B W e f)
  (hst:ba [e] X.env=[(false,bb e X.env)]) {pe:PE X (.Call (.Attribute (.Name x p1) "append" p2) [e] [] cp) (tBM X.K "list" Ku (Aq i) (Qw (tF X.K B W f) abJ))}
  (hs:eD (.Call (.Attribute (.Name x p1) "append" p2) [e] [] cp) none pos.line X.env=pure false:=by rfl) :
  SS X B W (.Expr (.Call (.Attribute (.Name x p1) "append" p2) [e] [] cp) pos) (fun ρ=>match ρ[i]? with|some (.ow ds)=>oR (f ρ) ρ fun d=>if ds.length < 1000000 then .nx (ρ.set i (.ow (ds++[d]))) else .no|_=>.no):=by
 refine PS.imp (pN pe hs) fun De σ H dF=>?_;obtain⟨ρ,G,s,p⟩:=dF;dsimp only at p;cases q:ρ[i]? with
 |none=>rw[q]at p;exact p.elim
 |some z =>
  rw[q]at p;cases z with
  |no=>exact p.elim
  |fz d=>exact p.elim
  |od _=>exact p.elim
  |op _=>exact p.elim
  |oe _=>exact p.elim
  |ow ds =>
   obtain⟨a,vs,e1,h2,h3,h4,h5⟩:=s.ow i ds q;refine⟨_,e1,.inl ⟨rfl,vs,.of h2⟩,ρ,G,s,fQ s p fun d v H' G' _ x r p'=>?_⟩;by_cases hl:ds.length < 1000000
   ·rw[if_pos hl]at p';have s':=s.ext x;refine⟨a,vs,v,rfl,rfl,x.hh _ _ h2,by rw[<- h5.length];exact dA hl (by rw[ef];decide),?_⟩;exact p' σ _ G' (s'.write q e1 ((h5.mono x.gg).append (.one r))) (.refl _)
   ·rw[if_neg hl]at p';exact p'.elim
end
noncomputable def cL(h:Tg)(gb:ak->Ou):List D->ak->Ou
 | [],ρ=>.nx ρ
 |d::ds,ρ=>match h d ρ with
  |none=>.no
  |some ρ1=>match gb ρ1 with
   | .nx ρ2=>cL h gb ds ρ2
   | .ct ρ2=>cL h gb ds ρ2
   | .bk ρ2=>.nx ρ2
   |o=>o
noncomputable def WF:Wi:=fun _ _ _ _=>False
section
variable{X:Cx}{K:ai}{B:Bs}{W:Wi}{σ:St}{G G' H:Hp}{ρ:ak}{De De':Ends}
theorem rJ{h:Tg}{gb:ak->Ou}{d:D}{ds:List D}{v:V}{Pv:St->Hp->Prop}(s:SR K B σ H ρ G)(r:Rep K G d v)(p:bQ K B W G (cL h gb (d::ds) ρ) De)
  (hP:∀σ' H' ρ' G',SR K B σ' H' ρ' G'->Same G G'->bQ K B W G' (cL h gb ds ρ') De->Pv σ' H') :
  tG K B h v σ H fun σ2 H2=>tS K B W gb { De with nx:=Pv,ct:=Pv,bk:=De.nx } σ2 H2:=by
 unfold cL at p;cases e:h d ρ with
 |none=>rw[e]at p;exact p.elim
 |some ρ1 =>
  rw[e]at p;refine⟨ρ,G,d,s,r,ρ1,e,fun σ1 s1=>⟨ρ1,G,s1,?_⟩⟩;dsimp only at p;cases e2:gb ρ1 with
  |nx ρ2=>rw[e2]at p;exact fun σ' H' G' s' q=>hP σ' H' ρ2 G' s' q (bQ.same p q)
  |ct ρ2=>rw[e2]at p;exact fun σ' H' G' s' q=>hP σ' H' ρ2 G' s' q (bQ.same p q)
  |bk ρ2=>rw[e2]at p;exact p
  |rt d=>rw[e2]at p;exact p
  |ex c n ρ2=>rw[e2]at p;exact p
  |no=>rw[e2]at p;exact p
  |rx d ρ2=>rw[e2]at p;exact p
  |rl ds=>rw[e2]at p;exact p
noncomputable def nW(h:Tg)(gb:ak->Ou)(f:ak->Rs D):ak->Ou:=fun ρ=>oR (f ρ) ρ fun d=>match d with|.lst ds=>cL h gb ds ρ|_=>.no
noncomputable def wk(h:Tg)(gb:ak->Ou)(f:ak->Rs D):ak->Ou:=fun ρ=>oR (f ρ) ρ fun d=>match d with|.tup ds=>cL h gb ds ρ|_=>.no
noncomputable def jr(h:Tg)(gb:ak->Ou)(f:ak->Rs D):ak->Ou:=fun ρ=>oR (f ρ) ρ fun d=>match d with|.int n=>if-(2 ^ 62)<=n/\n < 2 ^ 62 then cL h gb ((b_ n.toNat).map fun(i:Nat)=>.int i) ρ else .no|_=>.no
noncomputable def Bq(h:Tg)(gb:ak->Ou)(fs:ak->Rs (List D)):ak->Ou:=fun ρ=>oR (fs ρ) ρ fun ds=>match ds with
 | [.int m,.int n]=>if (-(2 ^ 62)<=m/\m < 2 ^ 62/\-(2 ^ 62)<=n/\n < 2 ^ 62) then cL h gb ((b_ (n - m).toNat).map fun(i:Nat)=>.int (m + i)) ρ else .no|_=>.no
theorem pQ{tg iter:ah}{body:List bo}{pos:Pos}{f:ak->Rs D}{h:Tg}{gb:ak->Ou}(hp:kf (aw X.prog X.w) X.A X.env X.xe)(hc:X.calm=true)(hi:SE X B W iter f)(hg:SG X B tg h)(hb:tE X B W body gb)
  (hs:∀x,gi iter X.env x=pure x:=by intro _;rfl):SS X B W (.For tg iter body [] pos) (nW h gb f):=by
 refine PS.imp (vQ hp hc (Ko hi) hg hb hs) fun De σ H dF=>?_;obtain⟨ρ,G,s,p⟩:=dF;refine⟨ρ,G,s,fQ s p fun d v H1 G1 _ e r p1=>?_⟩;cases d with
 |lst ds =>
  obtain⟨a,vs,rfl,q,rr⟩:=bh.mp r;refine⟨a,rfl,⟨vs,e.gh.seq q⟩,Qq (fun i σ H=>∃ρ G,SR X.K B σ H ρ G/\jz X.K G a vs/\bA X.K G ds vs/\bQ X.K B W G (cL h gb (ds.drop i) ρ) De) ⟨ρ,G1,s.ext e,q,rr,by simpa using p1⟩ (fun i σ H _ ⟨ρ,G,s,q,_⟩=>s.en.gh.seq q) ?_ ?_⟩
  ·rintro i x σ2 H2 hx ⟨ρ2,G2,s2,q2,r2,p2⟩;obtain⟨d,hd,rd⟩:=r2.get' hx;have hl:=(dm.mp hd).1;rw[iP hl,(dm.mp hd).2]at p2;exact rJ s2 rd p2 fun σ' H' ρ' G' s' q' p'=>⟨ρ',G',s',q'.seq q2,r2.mono q',p'⟩
  ·rintro σ2 H2 ⟨ρ2,G2,s2,q2,r2,p2⟩;rw[<- r2.length,qA]at p2;exact p2 σ2 H2 G2 s2 (.refl _)
 |_=>exact p1.elim
theorem vg{tg iter:ah}{body:List bo}{pos:Pos}{f:ak->Rs D}{h:Tg}{gb:ak->Ou}(hp:kf (aw X.prog X.w) X.A X.env X.xe)(hc:X.calm=true)(hi:SE X B W iter f)(hg:SG X B tg h)(hb:tE X B W body gb)
  (hs:∀x,gi iter X.env x=pure x:=by intro _;rfl):SS X B W (.For tg iter body [] pos) (wk h gb f):=by
 refine PS.imp (vQ hp hc (Qp hi) hg hb hs) fun De σ H dF=>?_;obtain⟨ρ,G,s,p⟩:=dF;refine⟨ρ,G,s,fQ s p fun d v H1 G1 _ e r p1=>?_⟩;cases d with
 |tup ds =>
  obtain⟨a,vs,rfl,q,rr⟩:=bD.mp r;refine⟨a,rfl,⟨vs,Same.dU e.gh q⟩,Xv (fun i σ H=>∃ρ G,SR X.K B σ H ρ G/\iV X.K G a vs/\bA X.K G ds vs/\bQ X.K B W G (cL h gb (ds.drop i) ρ) De) ⟨ρ,G1,s.ext e,q,rr,by simpa using p1⟩ (fun i σ H _ ⟨ρ,G,s,q,_⟩=>Same.dU s.en.gh q) ?_ ?_⟩
  ·rintro i x σ2 H2 hx ⟨ρ2,G2,s2,q2,r2,p2⟩;obtain⟨d,hd,rd⟩:=r2.get' hx;have hl:=(dm.mp hd).1;rw[iP hl,(dm.mp hd).2]at p2;exact rJ s2 rd p2 fun σ' H' ρ' G' s' q' p'=>⟨ρ',G',s',Same.dU q' q2,r2.mono q',p'⟩
  ·rintro σ2 H2 ⟨ρ2,G2,s2,q2,r2,p2⟩;rw[<- r2.length,qA]at p2;exact p2 σ2 H2 G2 s2 (.refl _)
 |_=>exact p1.elim
theorem wu{h:Tg}{gb:ak->Ou}{lo:Int}{n:Nat}(s:SR K B σ H ρ G)(p:bQ K B W G (cL h gb ((b_ n).map fun(i:Nat)=>.int (lo + i)) ρ) De) :
  ∃W0:Nat->Nat->St->Hp->Prop,(∃m,W0 0 m σ H)/\∀i m σ H,W0 i m σ H ->
   ((Qo lo n).stop i H/\De.nx σ H)∨((Qo lo n).go i H/\∃N:St->Hp->Prop,(∀σ' H',N σ' H'->∃m',m' < m/\W0 (i + 1) m' σ' H')/\∀x H',(Qo lo n).yld i H x H'->tG K B h x σ H' fun σ2 H2=>tS K B W gb { De with nx:=N,ct:=N,bk:=De.nx } σ2 H2):=by
 refine Nu (fun i σ H=>∃ρ G,SR K B σ H ρ G/\bQ K B W G (cL h gb (((b_ n).map fun(i:Nat)=>D.int (lo + i)).drop i) ρ) De) ⟨ρ,G,s,by simpa using p⟩ ?_ ?_
 ·rintro i σ2 H2 hi ⟨ρ2,G2,s2,p2⟩;have hl:i < ((b_ n).map fun(i:Nat)=>D.int (lo + i)).length:=by simpa using hi
  rw[iP hl]at p2;rw[show((b_ n).map fun(i:Nat)=>D.int (lo + i))[i]=D.int (lo + i) by simp]at p2;exact rJ s2 (aU.mpr rfl) p2 fun σ' H' ρ' G' s' q' p'=>⟨ρ',G',s',p'⟩
 ·rintro σ2 H2 ⟨ρ2,G2,s2,p2⟩;rw[mT (by simp)]at p2;exact p2 σ2 H2 G2 s2 (.refl _)
theorem kW{tg e:ah}{body:List bo}{pos p1 p2:Pos}{f:ak->Rs D}{h:Tg}{gb:ak->Ou}(hp:kf (aw X.prog X.w) X.A X.env X.xe) (hc:X.calm=true) (hm:X.mg "range"=none) (hi:SE X B W e f) (hg:SG X B tg h) (hb:tE X B W body gb)
  (hgl:Gl X "range":=by rfl) (hst:ba [e] X.env=[(false,bb e X.env)]:=by rfl)
  (hs:∀x,gi (.Call (.Name "range" p1) [e] [] p2) X.env x=pure x:=by intro _;rfl):SS X B W (.For tg (.Call (.Name "range" p1) [e] [] p2) body [] pos) (jr h gb f):=by
 refine PS.imp (vQ hp hc (Nr hgl hm (eG hi jA (by rw[hst];rfl)) hst) hg hb hs) fun De σ H dF=>?_;obtain⟨ρ,G,s,p⟩:=dF;refine⟨ρ,G,s,fQ s p fun d v H1 G1 _ e r p1=>?_⟩;cases d with
 |int n =>
  dsimp only at p1;by_cases c:-(2 ^ 62)<=n/\n < 2 ^ 62
  ·rw[if_pos c]at p1;refine⟨n,by rw[aU.mp r],c.1,c.2,wu (s.ext e) ?_⟩;simpa using p1
  ·rw[if_neg c]at p1;exact p1.elim
 |_=>exact p1.elim
theorem Rr{tg e e':ah}{body:List bo}{pos p1 p2:Pos}{f f':ak->Rs D}{h:Tg}{gb:ak->Ou}(hp:kf (aw X.prog X.w) X.A X.env X.xe) (hc:X.calm=true) (hm:X.mg "range"=none) (hi:SE X B W e f) (hi':SE X B W e' f') (hg:SG X B tg h) (hb:tE X B W body gb)
  (hgl:Gl X "range":=by rfl) (hst:ba [e,e'] X.env=[(false,bb e X.env),(false,bb e' X.env)]:=by rfl) (hst2:ba [e'] X.env=[(false,bb e' X.env)]:=by rfl)
  (hs:∀x,gi (.Call (.Name "range" p1) [e,e'] [] p2) X.env x=pure x:=by intro _;rfl):SS X B W (.For tg (.Call (.Name "range" p1) [e,e'] [] p2) body [] pos) (Bq h gb (aj f (aj f' aO))):=by
 refine PS.imp (vQ hp hc (zc hgl hm (aD hi (aD hi' aR (by rw[hst2];rfl)) (by rw[hst,hst2])) hst hst2) hg hb hs) fun De σ H dF=>?_;obtain⟨ρ,G,s,p⟩:=dF;refine⟨ρ,G,s,?_⟩;unfold Bq at p;cases e1:aj f (aj f' aO) ρ with
 |ok ds =>
  rw[e1]at p;intro vs H1 G1 e r;have p1:=bQ.same p e.gg;simp only[oR]at p1;split at p1
  ·rename_i m n;obtain⟨v,vs',rfl,r1,r2⟩:=aG.mp r;obtain⟨v2,vs'',rfl,r3,r4⟩:=aG.mp r2;rw[aU.mp r1,aU.mp r3,aZ.mp r4];by_cases c:(-(2 ^ 62)<=m/\m < 2 ^ 62/\-(2 ^ 62)<=n/\n < 2 ^ 62)
   ·rw[if_pos c]at p1;exact⟨m,n,rfl,c,wu (s.ext e) p1⟩
   ·rw[if_neg c]at p1;exact p1.elim
  ·exact p1.elim
 |ex c n=>rw[e1]at p;exact fun H' G' x=>p σ H' G' (s.ext x) x.gg
 |no=>rw[e1]at p;exact p
noncomputable def Rt:Ou->Ou
 | .ex _ _ _=>.no
 |o=>o
theorem Ob{o:Ou}(p:bQ K B W G (Rt o) De):bQ K B WF G o De:=by
 cases o with
 |ex c n ρ=>exact p.elim
 |_=>exact p
theorem PS.Xn{st:bo}{t:TS}(h:PS X.Xn st t):PS X st t:=fun pins s σ H D I hw =>
 eM (h pins s σ H D (I.wish _) hw) (fun _ _ q=>q.jM) fun _ _ z=>eR z
theorem acq{st:bo}{g:ak->Ou}(h:SS X.Xn B WF st g):SS X B W st (fun ρ=>Rt (g ρ)) :=
 PS.imp (PS.Xn h) fun De σ H ⟨ρ,G,s,p⟩=>⟨ρ,G,s,Ob p⟩
noncomputable def zig(n:Int):Nat:=if 0<=n then 2 * n.toNat else 2 * (-n).toNat + 1
noncomputable def uU(c:Str)(n:Int):aa:=.str c (zig n)
noncomputable def RP(K:ai)(G H:Hp)(Q:VK)(E:XK)(r:Rs D):Prop:=match r with
 | .ok d=>∀v H' G',Ext G H G' H'->Rep K G' d v->Q v H'
 | .ex c n=>∀H' G',Ext G H G' H'->E (uU c n) none H'
 | .no=>False
noncomputable def Yj(K:ai)(k:Nat)(g:List D->Rs D):Sp:=fun vs H Q E=>vs.length=k/\∃G ds,Ex0 K G H/\bA K G ds vs/\RP K G H Q E (g ds)
noncomputable def dX:Ou->Rs D
 | .nx _=>.ok .non
 | .rt d=>.ok d
 | .ex c n _=>.ex c n
 |_=>.no
noncomputable def jt{α:Type}:Rs α->Rs α
 | .ex _ _=>.no
 |o=>o
noncomputable def aY(N:List Str)(ds:List D):ak:=ds.map .fz++gc (N.length - ds.length) .no
theorem wA{N:List Str}{ds:List D}{vs:List V}(e:Ex0 K G H)(r:bA K G ds vs):SR K ⟨G,H,0⟩ (L2.start N vs) H (aY N ds) G:=by
 have Ru:∀(i:Nat) (z:Sl),(aY N ds)[i]?=some z->z.own=true->False:=fun i z q w=>by
  unfold aY at q;by_cases hi:i < (ds.map Sl.fz).length
  ·rw[fg hi,cK]at q;cases e1:ds[i]? with
   |none=>rw[e1]at q;cases q
   |some d=>rw[e1]at q;cases q;cases w
  ·rw[gL (by lia),kq]at q;split at q <;> cases q;cases w
 refine⟨e.toExt,?_,fun i d q=>?_,fun i z q w=>(Ru i z q w).elim,fun i j z z' a q w=>(Ru i z q w).elim,fun i z a q wl=>(Ru i z q (Sl.vf wl)).elim,e.co⟩
 ·unfold aY L2.start;simp[r.length]
 ·unfold aY at q;unfold L2.start;by_cases hi:i < (ds.map Sl.fz).length
  ·rw[fg hi,cK]at q;cases e1:ds[i]? with
   |none=>rw[e1]at q;cases q
   |some d' =>
    rw[e1]at q;cases q;obtain⟨v,h1,h2⟩:=r.get e1;refine⟨v,?_,h2⟩;rw[fg (by rw[cw,<- r.length];simpa using hi),cK,h1];rfl
  ·rw[gL (by lia),kq]at q;split at q <;> cases q
theorem Rv{o:Ou}{Q:VK}{E:XK}(h:RP K B.1 B.2 Q E (dX o)):bQ K B (fun c n _ H'=>E (uU c n) none H') G o { nx:=fun _ H'=>Q .non H',rt:=Q }:=by
 cases o with
 |nx ρ'=>exact fun σ' H' G' s q=>h .non H' G' s.en (jh.mpr rfl)
 |rt d=>exact fun v H' G' x q r=>h v H' G' x r
 |ex c n ρ'=>exact fun σ' H' G' s q=>h H' G' s.en
 |bk _=>exact h.elim
 |ct _=>exact h.elim
 |no=>exact h.elim
 |rx _ _=>exact h.elim
 |rl _=>exact h.elim
section
variable{P:aI}{w:az}{mg:Str->Option aa}{base:ay}{x qual:Str}{st:bo}{f:ae}{fd:dn}{N ps:List Str}{k:Nat}
end
end
theorem Br{prog:aI}{w:az}{A:aT}{s:af}{R:Result->af->Prop}{elt target iter:ah}{ifs:List ah}{scope:Scope}{pos:Pos}{it acc:aa}{env:Env}(J:Nat->af->Prop)
  (turn:∀k t,J k t->ar (aw prog w) A (fy it) (fun o t1=>match o with
   |none=>R (.ok .next) t1
   |some x=>ar (aw prog w) A (qf target it x) (fun _ t2=>ar (aw prog w) A (assign target env x) (fun _ t3 =>
     ar (aw prog w) A (forIn ifs true fun c go=>if go=true then do { let y <- isTrue c env (bb c env);pure (ForInStep.yield y) } else pure (ForInStep.yield go)) (fun yes t4 =>
      if yes=true then ar (aw prog w) A (bb elt env) (fun y t5 =>
       ar (aw prog w) A (call (.builtin "list.append") [acc,y]) (fun _ t6=>∃j,j < k/\J j t6) (fun _ _=>False) t5) (notedBy (aw prog w) A env fun x t'=>R (.error x) t') t4
      else ∃j,j < k/\J j t4) (fun _ _=>False) t3) (fun _ _=>False) t2) (fun _ _=>False) t1) (fun _ _=>False) t)
  (n:Nat) (h:J n s):ja (aw prog w) A (.compLoop (.ListComp elt [⟨target,iter,ifs,0⟩] scope pos) 0 it acc env) R s:=by
 refine codeAny_loop rfl J (fun k t hJ=>?_) n h;show ar _ A (Sem.onRaise (compTurn (.ListComp elt [⟨target,iter,ifs,0⟩] scope pos) 0 it acc env) (fun x=>do m6 x env;theTreesLotGoes x)) _ _ t;refine wpAny_noted ?_;rw[compTurn_list];refine ag (wpAny_standAt (ag (eM (turn k t hJ) (fun o t1 g1=>?_) fun _ _ z=>z.elim)));cases o with
 |none=>exact aS g1
 |some x =>
  refine ag (eM g1 (fun _ t2 g2=>?_) fun _ _ z=>z.elim);refine ag (eM g2 (fun _ t3 g3=>ag (eM g3 (fun yes t4 g4=>?_) fun _ _ z=>z.elim)) fun _ _ z=>z.elim);cases yes with
  |true=>exact ag (ag (eM g4 (fun y t5 g5=>ag (eM g5 (fun _ t6 g6=>aS (aS ⟨rfl,g6⟩)) fun _ _ z=>z.elim)) fun _ _ z=>z))
  |false=>exact aS ⟨rfl,g4⟩
noncomputable abbrev eH(X:Cx)(N:List Str)(s₀:af)(H₀:Hp)(sc:Scope)(cl:List (Str×ae))(C:ae)(ex:List ae)(pins:List (ae×Obj)):Cx where
 prog:=X.prog
 w:=X.w
 K:=X.K
 mg:=X.mg
 base:=X.base
 A:=X.A
 N:=N
 s₀:=s₀
 H₀:=H₀
 env:=compEnvC sc cl C X.env
 outer:=X.stack
 stack:=X.stack
 ex:=ex
 fn:=fun _=>false
 calm:=X.calm
 pn:=X.pn++pins
 xe:=fun _ _=>False
noncomputable def fY(sc:Scope)(env:Env):List (Str×ae):=sc.names.foldl (fun cs y=>if y.2 == .free then (y.1,(env.cells.lookup y.1).getD 0)::cs else cs) []
theorem uV{sc:Scope}{env:Env}(h:∀y∈sc.names,y.2=.free->∃c,env.cells.lookup y.1=some c):closureFor sc env=pure (fY sc env):=by
 unfold closureFor fY;have key:∀(l:List (Str×eJ)) (cs:List (Str×ae)),(∀y∈l,y.2=.free->∃c,env.cells.lookup y.1=some c) ->
   (forIn l cs (fun(x:Str×eJ) (r:List (Str×ae))=>if (x.2 == eJ.free)=true then do let a <- cellOf env x.1;pure (ForInStep.yield ((x.1,a)::r)) else pure (ForInStep.yield r)):Sem (List (Str×ae))) =
    pure (l.foldl (fun cs y=>if y.2 == .free then (y.1,(env.cells.lookup y.1).getD 0)::cs else cs) cs):=by
  intro l
  induction l with
  |nil=>intro cs _;rfl
  |cons y l ih =>
   intro cs hl;rw[u6,ll];by_cases hk:(y.2 == eJ.free)=true
   ·obtain⟨c,hc⟩:=hl y e_ (by simpa using hk);rw[if_pos hk,if_pos hk];unfold cellOf;rw[hc];exact ih _ fun z hz=>hl z (fx _ hz)
   ·rw[if_neg hk,if_neg hk];exact ih _ fun z hz=>hl z (fx _ hz)
 have:=key sc.names [] h;simp only[]at this ⊢;rw[this];rfl
theorem Rw{sc:Scope}{env:Env}:∀y∈fY sc env,(∃k∈sc.names,k.1=y.1/\k.2=.free)/\y.2=(env.cells.lookup y.1).getD 0:=by
 unfold fY;have key:∀(l:List (Str×eJ)) (cs:List (Str×ae)) (y:Str×ae),y∈l.foldl (fun cs y=>if y.2 == .free then (y.1,(env.cells.lookup y.1).getD 0)::cs else cs) cs ->
   y∈cs∨((∃k∈l,k.1=y.1/\k.2=.free)/\y.2=(env.cells.lookup y.1).getD 0):=by
  intro l
  induction l with
  |nil=>intro cs y h;exact .inl h
  |cons z l ih =>
   intro cs y h;rw[ll]at h;rcases ih _ y h with h|⟨⟨k,hk,e⟩,e2⟩
   ·by_cases hz:(z.2 == eJ.free)=true
    ·rw[if_pos hz]at h;rcases br.mp h with e|h
     ·subst e;exact .inr ⟨⟨z,e_,rfl,by simpa using hz⟩,rfl⟩
     ·exact .inl h
    ·rw[if_neg hz]at h;exact .inl h
   ·exact .inr ⟨⟨k,fx _ hk,e⟩,e2⟩
 intro y hy;rcases key sc.names [] y hy with h|h
 ·cases h
 ·exact h
theorem Ew{sc:Scope}{env:Env}{n:Str}(h:(n,eJ.free)∈sc.names):∃c,(fY sc env).lookup n=some c:=by
 have key:∀(l:List (Str×eJ)) (cs:List (Str×ae)),((n,eJ.free)∈l∨∃c,cs.lookup n=some c)->∃c,(l.foldl (fun cs y=>if y.2 == .free then (y.1,(env.cells.lookup y.1).getD 0)::cs else cs) cs).lookup n=some c:=by
  intro l
  induction l with
  |nil =>
   intro cs h;rcases h with h|h
   ·cases h
   ·exact h
  |cons z l ih =>
   intro cs h;rw[ll];refine ih _ ?_;rcases h with h|⟨c,hc⟩
   ·rcases br.mp h with e|h
    ·subst e;refine .inr ⟨(env.cells.lookup n).getD 0,?_⟩;rw[if_pos (by rfl),List.lookup_cons_self]
    ·exact .inl h
   ·right;by_cases hz:(z.2 == eJ.free)=true
    ·rw[if_pos hz];by_cases e:n=z.1
     ·subst e;exact⟨_,List.lookup_cons_self⟩
     ·exact⟨c,by rw[kv,show(n == z.1)=false by simpa using e];exact hc⟩
    ·rw[if_neg hz];exact⟨c,hc⟩
 exact key sc.names [] (.inl h)
section
variable{X:Cx}{pins:List (ae×Obj)}{σ:St}{H:Hp}{s:af}
theorem jR{sc:Scope}{env:Env}{x:Str}{k:eJ}(h:(relabel sc env).names.lookup x=some k):(∃k',sc.names.lookup x=some k'/\(k'=k∨(k'=.free/\k=.cell))):=by
 have key:∀l:List (Str×eJ),lL x (l.map fun(n,k)=>if (k == .free && env.scope.kind == .function && env.kindOf n == some .cell) then (n,eJ.cell) else (n,k))=some k ->
   ∃k',l.lookup x=some k'/\(k'=k∨(k'=.free/\k=.cell)):=by
  intro l
  induction l with
  |nil=>intro h;cases h
  |cons y l ih =>
   intro h;obtain⟨n,kk⟩:=y;rw[bX]at h;by_cases e:(x == n)=true
   ·refine⟨kk,by rw[kv,e],?_⟩;dsimp only at h;split at h
    ·rename_i hc;rw[kv,e]at h;have h':eJ.cell=k:=dE h;exact .inr ⟨by simp only[lS,beq_iff_eq]at hc;exact hc.1.1,h'.symm⟩
    ·rw[kv,e]at h;exact .inl (dE h)
   ·have e':(x == n)=false:=by simpa using e
    obtain⟨k',a,b⟩:=ih (by
     dsimp only at h;split at h <;> (rw[kv,e']at h;exact h))
    exact⟨k',by rw[kv,e'];exact a,b⟩
 exact key sc.names h
structure ud (X:Cx)(sc:Scope)(N:List Str)(nt:Nat)(caps:List Nat):Prop where
 kind:sc.kind=.function
 Rx:∀y∈sc.names,y.2≠.cell
 fr:∀y∈sc.names,y.2=.free->X.env.kindOf y.1=some .cell∨X.env.kindOf y.1=some .free
 len:N.length=nt + caps.length
 cap:∀(j i:Nat) (x:Str),caps[j]?=some i->N[nt + j]?=some x->X.N[i]?=some x/\sc.names.lookup x=some .free
theorem ud.cells{sc:Scope}{N:List Str}{nt:Nat}{caps:List Nat}(c:ud X sc N nt caps)(I:Inv X pins σ H s):∀y∈sc.names,y.2=.free->∃a,X.env.cells.lookup y.1=some a :=
 fun y hy hf=>I.ok.has y.1 (c.fr y hy hf)
theorem ud.cl{sc:Scope}{N:List Str}{nt:Nat}{caps:List Nat}(c:ud X sc N nt caps)(I:Inv X pins σ H s){x:Str}{a:ae}(h:(fY sc X.env).lookup x=some a):X.env.cells.lookup x=some a:=by have hm:=jv h;obtain⟨⟨k,hk,e1,e2⟩,e3⟩:=Rw _ hm;obtain⟨b,hb⟩:=c.cells I k hk e2;rw[e1]at hb;dsimp only at e3 hb;rw[hb]at e3;rw[hb,e3];rfl
noncomputable def nY(nt:Nat)(caps:List Nat)(σ:St):St:=gc nt none++caps.map fun i=>(σ[i]?).getD none
theorem Ih{sc:Scope}{N:List Str}{nt:Nat}{caps:List Nat}{fp:List ae}{h':ay}{tk:Nat}(c:ud X sc N nt caps)(I:Inv X pins σ H s)(hfp:∀b∈fp,lu X pins H b/\b < s.heap.objs.size)
  (hn:h'.Ns s.heap.objs.size fun _=>none) (hk:∀b o,s.heap.get? b=some o->h'.get? b=some o) :
  Inv (eH X N s H sc (fY sc X.env) s.heap.objs.size fp pins) [] (nY nt caps σ) H { s with heap:=h',toks:=tk }:=by
 have clX:∀{x:Str}{a:ae},(fY sc X.env).lookup x=some a->X.env.cells.lookup x=some a:=fun h=>c.cl I h;have stk:∀b,b≠X.env.locals->b∉X.fs->b∉rz X.stack:=fun b h1 h2 h3=>(br.mp (I.vN b h3)).elim h1 h2;refine⟨⟨I.ok.mod,c.kind,I.ok.glob,I.ok.blt,bE _,fun x y a h1 h2=>I.ok.inj x y a (clX h1) (clX h2),fun x hx=>?_,fun x a hf=>absurd (show false=true from hf) ui,I.ok.hd,I.ok.frames,.inl rfl,fun b hb=>⟨cn (hfp b hb).2,fun x a ha=>(hfp b hb).1.2.2.2.2.1 x a (clX ha)⟩,
  fun b o e=>I.bs b o e,dq I.ok.bsz I.sz,fun b o e hb=>?_,fun b hb=>stk b (hfp b hb).1.2.1 (hfp b hb).1.2.2.1,I.stack,I.Am⟩,
  rfl,I.bare,Un.kept hk,⟨_,hn,fun i x v h1 h2 h3=>?_⟩,fun x a ha=>?_,I.hok.fresh (bE _),fun x a ha=>I.nM x a (clX ha),fun p hp=>?_,I.hok.kept hk,?_⟩
 ·-- has
  have hx':(relabel sc X.env).names.lookup x=some .cell∨(relabel sc X.env).names.lookup x=some .free:=hx;have:sc.names.lookup x=some .free:=by
   rcases hx' with hx'|hx'
   ·obtain⟨k',h1,h2⟩:=jR hx';rcases h2 with h2|⟨h2,_⟩
    ·subst h2;exact(c.Rx _ (jv h1) rfl).elim
    ·rw[h1,h2]
   ·obtain⟨k',h1,h2⟩:=jR hx';rcases h2 with h2|⟨h2,e⟩
    ·rw[h1,h2]
    ·cases e
  exact Ew (jv this)
 ·-- DX
  obtain⟨_,_,_,h4,_⟩:=(hfp b hb).1;rcases h4 with h4|h4
  ·exact I.ok.DX b o e h4
  ·exact absurd (dA (bu e) (dq I.ok.bsz h4)) (eQ _)
 ·-- loc
  unfold nY at h2;by_cases hi:i < (gc nt (none:Option V)).length
  ·rw[fg hi,kq]at h2;split at h2 <;> cases h2
  ·rw[gL (by lia),cK]at h2;rw[oq]at h2 hi;cases e:caps[i - nt]? with
   |none=>rw[e]at h2;cases h2
   |some k =>
    rw[e]at h2;have h2':(σ[k]?).getD none=some v:=dE h2;have hs:σ[k]?=some (some v):=by
     cases e3:σ[k]? with
     |none=>rw[e3]at h2';cases h2'
     |some z=>rw[e3]at h2';exact congrArg some h2'
    obtain⟨hX,hl0⟩:=c.cap (i - nt) k x e (by rw[show nt + (i - nt)=i by lia];exact h1);have hf:(x,eJ.free)∈sc.names:=jv hl0;obtain⟨m,_,hl⟩:=I.loc;have hkind:=c.fr _ hf rfl;obtain⟨u,r,l⟩:=hl k x v hX hs (by rcases hkind with q|q;exact .inr (.inl q);exact .inr (.inr q));refine⟨u,r,.inr ⟨?_,?_⟩⟩
    ·have h3':(relabel sc X.env).names.lookup x=some .local∨(relabel sc X.env).names.lookup x=some .cell∨(relabel sc X.env).names.lookup x=some .free:=h3;rcases h3' with q|q|q
     ·obtain⟨k',a1,a2⟩:=jR q;exfalso;rw[hl0]at a1;cases a1;rcases a2 with a2|⟨_,a2⟩ <;> cases a2
     ·exact .inl q
     ·exact .inr q
    ·obtain⟨cc,hcc⟩:=Ew (env:=X.env) hf;refine⟨cc,hcc,?_⟩;rcases l with ⟨q,_⟩|⟨_,c2,hc2,z⟩
     ·rcases hkind with q'|q' <;> (rw[q]at q';cases q')
     ·rw[clX hcc]at hc2;cases hc2;obtain⟨o,ho,hd⟩:=z;exact⟨o,hk _ _ ho,hd⟩
 ·obtain⟨v,o,ho,hd⟩:=I.cell x a (clX ha);exact⟨v,o,hk _ _ ho,hd⟩
 ·rw[eI]at hp;obtain⟨e,n,ne,nf,d⟩:=I.pin p hp;exact⟨hk _ _ e,n,cn (bu e),stk _ ne nf,d⟩
 ·unfold nY;rw[dy,oq,cw];exact c.len.symm
end
theorem Inv.moved{X:Cx}{pins:List (ae×Obj)}{σ:St}{H:Hp}{s:af}{h':ay}{t':Nat}(I:Inv X pins σ H s)(ch:List ae)
  (hch:∀b∈ch,X.s₀.heap.get? b=none/\b≠X.env.locals/\(∀x c,X.env.cells.lookup x=some c->c≠b)/\(∀p∈X.pn++pins,p.1≠b)/\H b=none)
  (keep:∀b o,b∉rz X.stack->b∉ch->s.heap.get? b=some o->h'.get? b=some o)
  (slot:∀b o,b∈rz X.stack->s.heap.get? b=some o->∃sl,h'.get? b=some { o with slots:=sl }):Inv X pins σ H { s with heap:=h',toks:=t' }:=by
 have sub:=I.vN;have sup:∀b∈X.fs,b∈rz X.stack:=fun b hb=>by
  rcases I.ok.stk with e|⟨e,hf⟩
  ·rw[e];exact hb
  ·rw[e];unfold rz;rw[n_,hf];exact fx _ hb
 have neL:∀b o,X.s₀.heap.get? b=some o->b≠X.env.locals:=fun b o e=>cn (dA (bu e) I.ok.above);have Kh:∀b o,X.s₀.heap.get? b=some o->b∉ch:=fun b o e z=>by rw[(hch b z).1]at e;cases e
 have any:∀b o,b∉ch->s.heap.get? b=some o->∃sl,h'.get? b=some { o with slots:=sl }:=fun b o hc e=>by
  by_cases hb:b∈rz X.stack
  ·exact slot b o hb e
  ·exact⟨o.slots,keep b o hb hc e⟩
 have lch:X.env.locals∉ch:=fun z=>(hch _ z).2.1 rfl;have cch:∀x c,X.env.cells.lookup x=some c->c∉ch:=fun x c e z=>(hch c z).2.2.1 x c e rfl;have cellK:∀x c v,X.env.cells.lookup x=some c->s.heap.IsCell c v->h'.IsCell c v:=fun x c v e ⟨o,ho,hd⟩=>by obtain⟨sl,q⟩:=any c o (cch x c e) ho;exact⟨_,q,hd⟩
 refine⟨I.ok,I.os,I.bare,⟨fun b o e n hb hx=>?_,fun b o e n hb hx=>?_,I.base.free,fun b o e hx=>?_,I.base.tups,I.base.vK,I.base.yG⟩,?_,fun x c e=>?_,I.free,I.nM,fun p hp=>?_,fun b o e=>?_,I.len⟩
 ·exact keep b o (fun z=>(br.mp (sub b z)).elim (neL b o e) hb) (Kh b o e) (I.base.keep b o e n hb hx)
 ·obtain⟨sl,q⟩:=I.base.slot b o e n hb hx;obtain⟨sl',q'⟩:=slot b _ (sup b hb) q;exact⟨sl',q'⟩
 ·obtain⟨o',q⟩:=I.base.there b o e hx;obtain⟨sl,q'⟩:=any b o' (Kh b o e) q;exact⟨_,q'⟩
 ·obtain⟨m,⟨o,es,ep,ho,r⟩,hl⟩:=I.loc;obtain⟨sl,q⟩:=any _ o lch ho;refine⟨m,⟨_,es,ep,q,r⟩,fun i x v h1 h2 h3=>?_⟩;obtain⟨u,ru,l⟩:=hl i x v h1 h2 h3;refine⟨u,ru,?_⟩;rcases l with l|⟨k,c,e,z⟩
  ·exact .inl l
  ·exact .inr ⟨k,c,e,cellK x c _ e z⟩
 ·obtain⟨v,z⟩:=I.cell x c e;exact⟨v,cellK x c v e z⟩
 ·obtain⟨e,n,ne,nf,d⟩:=I.pin p hp;exact⟨keep _ _ (fun z=>(br.mp (sub _ z)).elim ne nf) (fun z=>(hch _ z).2.2.2.1 p hp rfl) e,n,ne,nf,d⟩
 ·have tr:∀c u,H c=some u->c∉rz X.stack/\c∉ch:=fun c u z=>⟨fun w=>(by rw[I.Am c w]at z;cases z),fun w=>(by rw[(hch c w).2.2.2.2]at z;cases z)⟩
  refine(I.hok b o e).stay (fun c u hc q=>?_) (fun _ q=>q) (fun _ _ q=>q) fun _ _ q=>q;rcases hc with hc|hc
  ·subst hc;exact keep c u (tr c _ e).1 (tr c _ e).2 q
  ·exact keep c u (tr c _ hc).1 (tr c _ hc).2 q
noncomputable def Tr(h:ay)(H:Hp)(old:ay)(av:List ae)(ea:ae)(vs:Array aa):Prop:=∃T oT ts x,vs[1]?=some (.ref T)/\T≠ea/\h.get? T=some oT/\oT.data=.fields ts/\ts[3]?=some x/\H T=none/\old.get? T=none/\T∉av
noncomputable def XFl(H:Hp)(old:ay)(od:Option ae)(c:Str)(n:Int):Prop:=n=0∨∃d i,n=2 * i + 1/\od=some d/\H d=some (.xd [(QJ c,.int i)])/\old.get? d=none
theorem XFl.old{H:Hp}{old afb:ay}{od:Option ae}{c:Str}{n:Int}(h:XFl H old od c n)(k:∀b,old.get? b=none->afb.get? b=none):XFl H afb od c n:=h.imp id fun⟨d,i,h1,h2,h3,h4⟩=>⟨d,i,h1,h2,h3,k _ h4⟩
noncomputable def Oc(K:ai)(old:ay)(av:List ae)(ea:ae)(c:Str)(n:Int)(h:ay)(H:Hp)(tr:Bool):Prop :=
 ∃C oe vs a0,j0 K cq c=some (some (.ref C))/\h.get? ea=some oe/\oe.cls=.ref C/\oe.data=.fields vs/\vs[0]?=some a0/\H ea=none/\old.get? ea=none/\ea∉av/\XFl H old oe.dict c n /\
  (if tr=true then Tr h H old av ea vs else vs[1]?=some .none)
noncomputable def uf(P:aI)(w:az)(K:ai):Qy:=fun outer H s E e s'=>∃ea c n H',e=.ref ea/\s'.os=s.os/\PyProof.Rows.AllBare s'.gens/\Un (rz outer) [] H H' s.heap s'.heap/\uR P w H' s'.heap/\Oc K s.heap [] ea c n s'.heap H' true/\E (uU c n) none H'
noncomputable def KH(X:Cx)(W:Wi):Prop:=∀pins σ H s ea c n tr,Inv X pins σ H s->Oc X.K X.s₀.heap ((X.pn++pins).map (·.1)) ea c n s.heap H tr->W c n σ H->X.xe (.ref ea) s
section
variable{X:Cx}{pins:List (ae×Obj)}{σ:St}{H:Hp}{s:af}{ea:ae}{c:Str}{n:Int}{tr:Bool}
theorem acr(I:Inv X pins σ H s){b:ae}{o:Obj}{vs:Array aa}(e:s.heap.get? b=some o)(d:o.data=.fields vs)(hold:X.s₀.heap.get? b=none)(hn:H b=none)(hp:∀p∈X.pn++pins,p.1≠b) :
  X.s₀.heap.get? b=none/\b≠X.env.locals/\(∀x c,X.env.cells.lookup x=some c->c≠b)/\(∀p∈X.pn++pins,p.1≠b)/\H b=none:=by
 refine⟨hold,fun z=>?_,fun x c hc z=>?_,hp,hn⟩
 ·obtain⟨m,⟨o',es,ep,ho,hd,_⟩,_⟩:=I.loc;rw[<- z,e]at ho;cases ho;rw[d]at hd;cases hd
 ·obtain⟨v,o',ho,hd⟩:=I.cell x c hc;rw[z,e]at ho;cases ho;rw[d]at hd;cases hd
theorem qK{P:aI}{w:az}{H:Hp}{h:ay}{a:ae}{o:HO}(x:dD P w H h a o):∃u,h.get? a=some u:=by
 induction o with
 |lst xs=>obtain⟨z,its,n,r,e⟩:=x;exact⟨_,e⟩
 |tup xs=>obtain⟨z,its,r,ob,e,c⟩:=x;exact⟨_,e⟩
 |dK kvs=>obtain⟨z,y,vs,r,ob,es,ep,e,c⟩:=x;exact⟨_,e⟩
 |dT kvs=>obtain⟨z,y,xs,r,ob,es,ep,e,c⟩:=x;exact⟨_,e⟩
 |set S n=>obtain⟨ob,es,ep,t,e,c⟩:=x;exact⟨_,e⟩
 |ins C dx fs=>obtain⟨d,z,ne,e,_⟩:=x;exact⟨_,e⟩
 |own y=>obtain⟨ob,e⟩:=x;exact⟨_,e⟩
 |xd fs=>obtain⟨mA,⟨od,es,ep,e,c⟩,r⟩:=x;exact⟨_,e⟩
 |rng lo hi=>obtain⟨t,u,v,e⟩:=x;exact⟨_,e⟩
 |za ob u ih=>obtain⟨e,q⟩:=x;exact⟨_,e⟩
 |tbl ps=>exact⟨_,(show h.get? a=some { cls:=.none,data:=.fields ps } from x)⟩
 |tab q=>obtain⟨_,e,_⟩:=x;exact⟨_,e⟩
 |Qi q=>obtain⟨_,_,_,e,_⟩:=x;exact⟨_,e⟩
 |met f y=>exact⟨_,(show h.get? a=some (p_ (.ref f) (.ref y)) from x)⟩
 |ext φ=>obtain⟨p,⟨o,e⟩,st⟩:=x;exact⟨_,e⟩
theorem zB(I:Inv X pins σ H s){ch:List ae}{h':ay}{t':Nat}(hch:∀b∈ch,∃o vs,s.heap.get? b=some o/\o.data=.fields vs/\X.s₀.heap.get? b=none/\H b=none/\b∉(X.pn++pins).map (·.1))
  (st:(kR s.heap (rz X.stack++ch)).StaysIn h') (up:s.heap.UpToSlots h'):Inv X pins σ H { s with heap:=h',toks:=t' }:=by
 refine Inv.moved I ch (fun b hb=>?_) (fun b o h1 h2 e=>st b o (t9 _ e (by rw[du];exact fun z=>z.elim h1 h2))) (fun b o hb e=>?_)
 ·obtain⟨o,vs,e,d,h1,h2,h3⟩:=hch b hb;exact acr I e d h1 h2 fun p hp z=>h3 (dt.mpr ⟨p,hp,z⟩)
 ·obtain⟨_,o',ho,hnf⟩:=I.stack.mem hb;rw[e]at ho;cases ho;exact up b o e hnf
theorem Yk(I:Inv X pins σ H s)(hex:X.ex=[]){ch:List ae}{h':ay}{T:ae}{oT:Obj}{ts:Array aa}(hch:∀b∈ch,∃o vs,s.heap.get? b=some o/\o.data=.fields vs/\X.s₀.heap.get? b=none/\H b=none/\b∉(X.pn++pins).map (·.1))
  (up:s.heap.UpToSlots h') (hT:h'.get? T=some oT) (dT:oT.data=.fields ts) (hn:(kR s.heap (rz X.stack++ch)).get? T=none) :
  H T=none/\X.s₀.heap.get? T=none/\T∉(X.pn++pins).map (·.1):=by
 by_cases hc:T∈ch
 ·obtain⟨o,vs,e,d,h1,h2,h3⟩:=hch T hc;exact⟨h2,h1,h3⟩
 have hf:T∉rz X.stack:=fun z=>by obtain⟨_,o',ho,hnf⟩:=I.stack.mem z;obtain⟨sl,q⟩:=up T o' ho hnf;rw[hT]at q;cases q;exact hnf ts dT
 have hs:s.heap.get? T=none:=by
  cases e:s.heap.get? T with
  |none=>rfl
  |some o=>rw[t9 _ e (by rw[du];exact fun z=>z.elim hf hc)]at hn;cases hn
 refine⟨?_,?_,fun z=>?_⟩
 ·cases e:H T with
  |none=>rfl
  |some u =>
   obtain⟨o,z⟩:=qK (I.hok T u e);rw[hs]at z;cases z
 ·cases e:X.s₀.heap.get? T with
  |none=>rfl
  |some o =>
   obtain⟨o',q⟩:=I.base.there T o e (by rw[hex];simp);rw[hs]at q;cases q
 ·obtain⟨p,hp,e⟩:=dt.mp z;have:=(I.pin p hp).1;rw[e,hs]at this;cases this
end
section
variable{X:Cx}{pins:List (ae×Obj)}{σ:St}{H:Hp}{s:af}{ea:ae}{c:Str}{n:Int}{tr:Bool}
theorem Ry(I:Inv X pins σ H s)(F:Oc X.K X.s₀.heap ((X.pn++pins).map (·.1)) ea c n s.heap H tr) :
  ∃ch:List ae,ea∈ch/\(∀b∈ch,∃o vs,s.heap.get? b=some o/\o.data=.fields vs/\X.s₀.heap.get? b=none/\H b=none/\b∉(X.pn++pins).map (·.1)) /\
   ∃C oe vs a0,j0 X.K cq c=some (some (.ref C))/\s.heap.get? ea=some oe/\oe.cls=.ref C/\oe.data=.fields vs/\vs[0]?=some a0/\XFl H X.s₀.heap oe.dict c n/\X.s₀.heap.get? ea=none/\H ea=none/\ea∉(X.pn++pins).map (·.1) /\
    (if tr=true then ∃T oT ts x,vs[1]?=some (.ref T)/\T∈ch/\T≠ea/\s.heap.get? T=some oT/\oT.data=.fields ts/\ts[3]?=some x else vs[1]?=some .none):=by
 obtain⟨C,oe,vs,a0,h1,h2,h3,h4,h5,h6,h7,h8,h9,h10⟩:=F;cases tr with
 |false =>
  refine⟨[ea],by simp,fun b hb=>?_,C,oe,vs,a0,h1,h2,h3,h4,h5,h9,h7,h6,h8,h10⟩;obtain rfl:b=ea:=by simpa using hb
  exact⟨oe,vs,h2,h4,h7,h6,h8⟩
 |true =>
  rw[if_pos rfl]at h10;obtain⟨T,oT,ts,x,t1,t2,t3,t4,t5,t6,t7,t8⟩:=h10;refine⟨[ea,T],by simp,fun b hb=>?_,C,oe,vs,a0,h1,h2,h3,h4,h5,h9,h7,h6,h8,?_⟩
  ·rcases br.mp hb with rfl|hb
   ·exact⟨oe,vs,h2,h4,h7,h6,h8⟩
   ·obtain rfl:b=T:=by simpa using hb
    exact⟨oT,ts,t3,t4,t7,t6,t8⟩
  ·rw[if_pos rfl];exact⟨T,oT,ts,x,t1,by simp,t2,t3,t4,t5⟩
theorem Od(o:Obj)(f):(o.mapFields f).dict=o.dict:=by unfold ik;split <;> rfl
theorem KJ{M:Model}{A:aT}{base:ay}{env:Env}{outer:List Env}{L e:ae}{oe:Obj}{vs:Array aa}{hd0 a0:aa}{b0:Bool}{Q:Unit->af->Prop}{E:aa->af->Prop}(hfr:A.frames=some (env::outer))(hl:s.heap.FunFrames base (env::outer))(hf:env.frame=some L)
  (he:s.heap.get? e=some oe) (hkb:base.StaysIn s.heap) (hen:base.get? e=none) (hd:oe.data=.fields vs) (hsz:1 < vs.size) (h0:vs[0]?=some a0)
  (k:∀h',u7 base (env::outer) e oe.cls a0 (cx L) s.heap h'->(∀o',h'.get? e=some o'->o'.dict=oe.dict)->Q () { s with heap:=h' }) :
  ar M A (frameOf env >>= fun fr=>entryPlaceOf L b0 >>= fun pl=>EntryCells.newEntry hd0 fr .none (cx L) .none pl >>= fun t=>setField (.ref e) 1 t) Q E s:=by
 have abe:e∉(env::outer).filterMap (·.frame):=fun z=>by obtain⟨_,o,ho,nf⟩:=hl.mem z;rw[he]at ho;cases ho;exact nf vs hd
 refine ag (wpAny_frameOf_fun hfr hl hf fun g ⟨_,g2,g3⟩=>ag (wpAny_entryPlaceOf fun pl hpl=>?_));unfold EntryCells.newEntry newFields;refine ag (gN ?_ (hpl.sizeOk5 _ _ _ _ _));generalize hT:({ cls:=.type "traceback",dict:=none,data:=_ }:Obj)=oT;have eg:g.get? e=some oe:=(g2 e abe).trans he;have kb:base.StaysIn g:=fun b o z=>(g2 b fun w=>by rw[(hl.mem w).1]at z;cases z).trans (hkb b o z);have ep:=cm (h:=g) oT eg;refine iS ep hd hsz ?_;have ne:g.objs.size≠e:=i9 (bu eg);have dat:=j3 hd (·.setIfInBounds 1 (aa.ref g.objs.size));have self:=gS (ik (·.setIfInBounds 1 (aa.ref g.objs.size))) ep (m8 dat);have other:∀b o,b≠e->g.get? b=some o->((g.push oT).update e (ik (·.setIfInBounds 1 (aa.ref g.objs.size)))).get? b=some o:=fun b o z w =>
  (jS _ _ (bz z)).trans (cm _ w)
 have new:((g.push oT).update e (ik (·.setIfInBounds 1 (aa.ref g.objs.size)))).get? g.objs.size=some oT :=
  (jS _ _ (bz ne)).trans (cE g (by rw[<- hT];rfl))
 have apart:∀b o,s.heap.get? b=some o->(∀ws,o.data≠.fields ws)->b≠e:=fun b o z nf w=>by rw[w,he]at z;cases z;exact nf vs hd
 refine k _ ⟨fun b o z=>other b o (fun w=>by rw[w,hen]at z;cases z) (kb b o z),hl.of_keeps fun b o z nf=>?_,?_,fun b o z nf=>?_⟩ fun o' z=>?_
 ·obtain⟨sl,w⟩:=g3 b o z;exact⟨_,other b _ (apart b o z nf) w,rfl⟩
 ·refine⟨_,_,g.objs.size,oT,_,self,⟨u_ _ _,by rw[vc (by decide)];exact h0⟩,dat,by simp[hsz],kb.fresh,ne,new,by rw[<- hT],?_⟩
  first|(simp;done)|(rcases hpl with rfl|⟨_,_,_,_,_,_,_,rfl⟩ <;> simp)
 ·obtain⟨sl,w⟩:=g3 b o z;exact⟨sl,other b _ (apart b o z nf) w⟩
 ·rw[self]at z;cases z;exact Od _ _
theorem Rz{M:Model}{A:aT}{base:ay}{env:Env}{outer:List Env}{L e:ae}{cls a0 fl:aa}{Q:Unit->af->Prop}{E:aa->af->Prop}(hfr:A.frames=some (env::outer))(hl:s.heap.FunFrames base (env::outer))(hf:env.frame=some L)
  {od:Option ae}(ht:s.heap.TracedAtW base e cls a0 fl) (hod:∀o',s.heap.get? e=some o'->o'.dict=od) (hkb:base.StaysIn s.heap) (hen:base.get? e=none) (h:∀h',u7 base (env::outer) e cls a0 (cx L) s.heap h'->(∀o',h'.get? e=some o'->o'.dict=od)->Q () { s with heap:=h' }):ar M A (m6 (.ref e) env) Q E s:=by
 by_cases c:fl=cx L
 ·subst c;exact wpAny_noteFrame_againW hf ht (h s.heap ⟨hkb,hl,ht,fun b o hb _=>⟨o.slots,hb⟩⟩ hod)
 obtain⟨oe,vs,T,oT,ts,he,⟨hcls,h0⟩,hd,h1,hnT,hTe,hT,hdT,h3⟩:=ht;subst hcls;unfold m6;simp only[hf];refine ag (eS he hd h1 ?_);rw[if_pos (show(aa.ref T != aa.none)=true from by simp)];refine ag (eS hT hdT h3 ?_);rw[if_neg (show ¬((fl == cx L)=true) from by simpa using c)];refine ag (iS hT hdT (gd.mp h3).1 ?_);have other:∀b,b≠T->(s.heap.update T (ik (·.setIfInBounds 3 aa.none))).get? b=s.heap.get? b:=fun b hb=>jS _ _ (bz hb);have noRecord:∀b o,s.heap.get? b=some o->(∀vs,o.data≠.fields vs)->b≠T:=fun b o hb hnf q=>by rw[q,hT]at hb;injection hb with hb;subst hb;exact hnf ts hdT
 refine KJ hfr (hl.of_keeps fun b o hb hnf=>⟨o,(other b (noRecord b o hb hnf)).trans hb,rfl⟩) hf ((other e (bz hTe)).trans he)
  (fun b o hbo=>(other b fun q=>by rw[q,hnT]at hbo;cases hbo).trans (hkb b o hbo)) hen hd (gd.mp h1).1 h0
  fun h' ⟨x1,x2,x3,x4⟩ x5=>h h' ⟨x1,x2,x3,fun b o hb hnf=>x4 b o ((other b (noRecord b o hb hnf)).trans hb) hnf⟩ fun o' e'=>(x5 o' e').trans (hod _ he)
theorem RB{M:Model}{Q:Unit->af->Prop}{E:aa->af->Prop}{outer:List Env}{L:ae}(hst:X.stack=X.env::outer)(hf:X.env.frame=some L)(hex:X.ex=[])(I:Inv X pins σ H s)(F:Oc X.K X.s₀.heap ((X.pn++pins).map (·.1)) ea c n s.heap H tr)
  (hQ:∀h',Inv X pins σ H { s with heap:=h' }->Oc X.K X.s₀.heap ((X.pn++pins).map (·.1)) ea c n h' H true->s.heap.UpToSlots h'->Q () { s with heap:=h' }):ar M X.A (m6 (.ref ea) X.env) Q E s:=by
 obtain⟨ch,he,hch,C,oe,vs,a0,h1,h2,h3,h4,h5,h9,h7,h6,h8,h10⟩:=Ry I F;have hfr:X.A.frames=some (X.env::outer):=by rw[<- hst];exact I.ok.frames
 have hl:s.heap.FunFrames (kR s.heap (rz X.stack++ch)) (X.env::outer):=by have:=PySem.W.funFrames_hide (as:=rz X.stack++ch) I.stack fun env he b hb=>ie _ (kc.mpr ⟨env,he,hb⟩);rw[hst]at this ⊢;exact this
 have hkb:(kR s.heap (rz X.stack++ch)).StaysIn s.heap:=fun b o e=>t_ _ e;have hn:∀b∈ch,(kR s.heap (rz X.stack++ch)).get? b=none:=fun b hb=>ue _ (fE _ hb);have dX:∀h',u7 (kR s.heap (rz X.stack++ch)) (X.env::outer) ea oe.cls a0 (cx L) s.heap h'->(∀o',h'.get? ea=some o'->o'.dict=oe.dict)->Q () { s with heap:=h' }:=fun h' ⟨k1,_,k2,k3⟩ kd=>by have I':=zB (t':=s.toks) I hch k1 k3;obtain⟨oe',vs',T,oT,ts,e1,⟨e2,e3⟩,e4,e5,e6,e7,e8,e9,e10⟩:=k2;obtain⟨n1,n2,n3⟩:=Yk I hex hch k3 e8 e9 e6;refine hQ h' I' ⟨C,oe',vs',a0,h1,e1,e2.trans h3,e4,e3,h6,h7,h8,by rw[kd _ e1];exact h9,?_⟩ k3;rw[if_pos rfl];exact⟨T,oT,ts,_,e5,e7,e8,e9,e10,n1,n2,n3⟩
 cases tr with
 |false =>
  rw[if_neg (by decide)]at h10;unfold m6;simp only[hf];refine ag (eS h2 h4 h10 ?_);rw[if_neg (by decide)];exact KJ hfr hl hf h2 hkb (hn _ he) h4 (gd.mp h10).1 h5 dX
 |true =>
  rw[if_pos rfl]at h10;obtain⟨T,oT,ts,x,t1,t0,t2,t3,t4,t5⟩:=h10;exact Rz hfr hl hf ⟨oe,vs,T,oT,ts,h2,⟨rfl,h5⟩,h4,t1,hn _ t0,t2,t3,t4,t5⟩ (fun o' e'=>by rw[h2]at e';cases e';rfl) hkb (hn _ he) dX
theorem RG{M:Model}{A:aT}{fr:Option ae}{Q:Unit->af->Prop}{E:aa->af->Prop}(I:Inv X pins σ H s)(F:Oc X.K X.s₀.heap ((X.pn++pins).map (·.1)) ea c n s.heap H true)
  (hQ:∀h',Inv X pins σ H { s with heap:=h' }->Oc X.K X.s₀.heap ((X.pn++pins).map (·.1)) ea c n h' H true->Q () { s with heap:=h' }) :
  ar M A (setFlight (.ref ea) fr) Q E s:=by
 obtain⟨ch,he,hch,C,oe,vs,a0,h1,h2,h3,h4,h5,h9,h7,h6,h8,h10⟩:=Ry I F;rw[if_pos rfl]at h10;obtain⟨T,oT,ts,x,t1,t0,t2,t3,t4,t5⟩:=h10;have sz:3 < ts.size:=(gd.mp t5).1;obtain⟨_,_,_,_,n2,n1,n3⟩:=hch T t0;have other:∀b,b≠T->(s.heap.update T (ik (·.setIfInBounds 3 (fr.elim aa.none fun f=>cx f)))).get? b=s.heap.get? b:=fun b hb=>jS _ _ (bz hb);unfold setFlight;refine ag (eS h2 h4 t1 ?_);rw[if_pos (show(aa.ref T != aa.none)=true from by simp)];refine iS t3 t4 sz (hQ _ (zB (t':=s.toks) I hch (fun b o e=>?_) fun b o e hn=>⟨o.slots,(other b fun q=>?_).trans e⟩) ⟨C,oe,vs,a0,h1,(other ea (bz t2)).trans h2,h3,h4,h5,h6,h7,h8,h9,?_⟩)
 ·refine(other b fun q=>?_).trans (t_ _ e);rw[q,ue _ (fE _ t0)]at e;cases e
 ·rw[q,t3]at e;cases e;exact hn _ t4
 ·rw[if_pos rfl];exact⟨T,_,_,_,t1,t2,gS _ t3 (m8 (j3 t4 _)),j3 t4 _,Array.getElem?_setIfInBounds_self_of_lt sz,n1,n2,n3⟩
theorem Ym{M:Model}{Q:Unit->af->Prop}{E:aa->af->Prop}{outer:List Env}{L:ae}(hst:X.stack=X.env::outer)(hf:X.env.frame=some L)(hex:X.ex=[])(I:Inv X pins σ H s)(F:Oc X.K X.s₀.heap ((X.pn++pins).map (·.1)) ea c n s.heap H tr)
  (hQ:∀h',Inv X pins σ H { s with heap:=h' }->Oc X.K X.s₀.heap ((X.pn++pins).map (·.1)) ea c n h' H true->Q () { s with heap:=h' }):ar M X.A (leaving X.env (.ref ea)) Q E s:=by
 unfold leaving;exact ag (RB hst hf hex I F fun h' I' F' _=>RG I' F' hQ)
end
section
variable{P:aI}{w:az}{K:ai}{mg:Str->Option aa}{base:ay}{x qual:Str}{st:bo}{f:ae}{fd:dn}{N ps:List Str}{k:Nat}
theorem jd{scope:Scope}{cdv:aa}{A:aT}{outer:List Env}{s:af}{H:Hp}{E:XK}:KH (nH (uf P w K) P w K mg base N qual scope f cdv A outer s H E) (fun c n _ H'=>E (uU c n) none H'):=by intro pins σ H1 s1 ea c n tr I F w1;refine Ym (L:=s.heap.objs.size) (outer:=outer) rfl rfl rfl I F fun h' I' F'=>?_;obtain⟨C,oe,vs,a0,h1,h2,h3,h4,h5,h6,h7,h8,h9,h10⟩:=F';refine⟨ea,c,n,H1,rfl,I'.os,I'.bare,I'.base,I'.hok,⟨C,oe,vs,a0,h1,h2,h3,h4,h5,h6,h7,by simp,h9,?_⟩,w1⟩;rw[if_pos rfl]at h10 ⊢;obtain⟨T,oT,ts,x,t1,t2,t3,t4,t5,t6,t7,t8⟩:=h10;exact⟨T,oT,ts,x,t1,t2,t3,t4,t5,t6,t7,by simp⟩
end
theorem Yn{a b:Int}(h:zig a=zig b):a=b:=by unfold zig at h;split at h <;> split at h <;> lia
theorem KN{c c':Str}{n n':Int}(h:uU c n=uU c' n'):c=c'/\n=n':=by unfold uU at h;injection h with h1 h2;exact⟨h1,Yn h2⟩
noncomputable def nZ(X:Cx)(W:Wi):Prop:=∀(pins:List (ae×Obj)) (σ:St) (H:Hp) (s:af) (e:aa) (s':af),Inv X pins σ H s ->
 uf X.prog X.w X.K X.stack H s (fun v _ H'=>∃c n,v=uU c n/\W c n σ H') e s'->X.xe e s'
theorem dM{X:Cx}:nZ X WF:=fun pins σ H s e s' I ⟨ea,c,n,H',_,_,_,_,_,_,_,_,_,w⟩=>w.elim
theorem RJ{X:Cx}{pins:List (ae×Obj)}{σ:St}{H H':Hp}{s:af}{ea:ae}{c:Str}{n:Int}{h:ay}(I:Inv X pins σ H s)(hex:X.ex=[])(F:Oc X.K s.heap [] ea c n h H' true):Oc X.K X.s₀.heap ((X.pn++pins).map (·.1)) ea c n h H' true:=by
 obtain⟨C,oe,vs,a0,h1,h2,h3,h4,h5,h6,h7,h8,h9,h10⟩:=F;have old:∀b,s.heap.get? b=none->X.s₀.heap.get? b=none:=fun b hb=>by
  cases q:X.s₀.heap.get? b with
  |none=>rfl
  |some o =>
   obtain⟨o',z⟩:=I.base.there b o q (by rw[hex];simp);rw[hb]at z;cases z
 have afc:∀b,s.heap.get? b=none->b∉(X.pn++pins).map (·.1):=fun b hb z=>by obtain⟨p,hp,e⟩:=dt.mp z;have:=(I.pin p hp).1;rw[e,hb]at this;cases this
 refine⟨C,oe,vs,a0,h1,h2,h3,h4,h5,h6,old _ h7,afc _ h7,h9.old old,?_⟩;rw[if_pos rfl]at h10 ⊢;obtain⟨T,oT,ts,x,t1,t2,t3,t4,t5,t6,t7,t8⟩:=h10;exact⟨T,oT,ts,x,t1,t2,t3,t4,t5,t6,old _ t7,afc _ t7⟩
theorem oh{X:Cx}{W:Wi}(hp:KH X W)(hex:X.ex=[]):nZ X W:=by intro pins σ H s e s' I ⟨ea,c,n,H',e1,os,bare,un,hok,F,c0,n0,e2,w⟩;subst e1;obtain⟨rfl,rfl⟩:=KN e2;exact hp pins σ H' s' ea c n true (I.call' (ch:=[]) os un hok bare (fun b z=>absurd z (by simp))) (RJ I hex F) w
section
variable{P:aI}{w:az}{K:ai}{mg:Str->Option aa}{base:ay}{x qual:Str}{st:bo}{f:ae}{fd:dn}{N ps:List Str}{k:Nat}
theorem afd{g:ak->Ou}(F:Fun K x qual st f fd)(S:bJ N ps (aF st))
  (hb:∀(cdv:aa) (A:aT) (outer:List Env) (s:af) (H:Hp) (E:XK) (B:Bs),iB k (A.deeper (lT qual (aF st) s.heap.objs.size f cdv))->(∀b,s.heap.get? b=none->B.2 b=none) ->
   tE (nH (uf P w K) P w K mg base N qual (aF st) f cdv A outer s H E) B (fun c n _ H'=>E (uU c n) none H') (cu st) g) :
  nO P w K mg base (uf P w K) (k + 1) f fd ps (Yj K ps.length fun ds=>dX (g (aY N ds))):=by
 obtain⟨oc,od,kV,doc,pm,an,cdv,ct,osl,rfl,lk,hcd⟩:=F.ex;refine Kr lk hcd S (fun vs H Q E h=>h.1) fun A outer s H vs Q E hr hok h=>?_;obtain⟨_,G,ds,e,r,h⟩:=h;dsimp only at h;exact⟨_,hb cdv A outer s H E ⟨G,H,0⟩ hr (fun b n=>by
  cases z:H b with
  |none=>exact z
  |some u=>obtain⟨o,w⟩:=qK (hok _ _ z);rw[n]at w;cases w),aY N ds,G,wA e r,Rv (B:=⟨G,H,0⟩) h⟩
theorem afe{g:ak->Ou}(F:Fun K x qual st f fd)(S:bJ N ps (aF st))
  (hb:∀(cdv:aa) (A:aT) (outer:List Env) (s:af) (H:Hp) (E:XK) (B:Bs),iB k (A.deeper (lT qual (aF st) s.heap.objs.size f cdv)) ->
   tE (nH (uf P w K) P w K mg base N qual (aF st) f cdv A outer s H E) B (fun c n _ H'=>E (uU c n) none H') (cu st) g) :
  nO P w K mg base (uf P w K) (k + 1) f fd ps (Yj K ps.length fun ds=>dX (g (aY N ds))):=afd F S fun cdv A outer s H E B hr _=>hb cdv A outer s H E B hr
end
noncomputable def bU(n:Nat)(g:List D->Rs D):List D->Rs D:=fun ds=>if ds.length=n then g ds else .no
section
variable{X:Cx}{B:Bs}{W:Wi}
theorem Yo{x:Str}{p pos:Pos}{e:ah}{es:List ah}{fs:ak->Rs (List D)}{f:ae}{fd:dn}{ps:List Str}{k n:Nat}{g:List D->Rs D}(F:nO X.prog X.w X.K X.mg X.base (uf X.prog X.w X.K) k f fd ps (Yj X.K n g))(hr:iB k X.A)(hg:Gl X x)(hm:X.mg x=some (.ref f))(hk:ij X.K (.ref f)=true)(hb:Binds X.K fd ps [])
  (hx:nZ X W) (ha:SA X B W (e::es) fs) (hdb:pK x:=by decide) (he:ba (e::es) X.env=(false,bb e X.env)::ba es X.env:=by rfl) (hpl:(df pos (ba es X.env)).any (·.1)=false:=by rfl) :
  SE X B W (.Call (.Name x p) (e::es) [] pos) (fA fs (bU n g)):=by
 intro pins s σ H Q I h;refine oy (vd I hg hm ?_ hdb);have h2:tAF X.K B W fs σ H fun vs H1=>Yj X.K n g vs H1 Q fun v _ H'=>∃c n,v=uU c n/\W c n σ H':=by
  obtain⟨ρ,G,s,p⟩:=h;refine⟨ρ,G,s,?_⟩;unfold fA at p;cases e:fs ρ with
  |ex c n=>rw[e]at p;exact p
  |no=>rw[e]at p;exact p
  |ok ds =>
   rw[e]at p;intro vs H1 G1 x r;have p:=Post.ext x p;unfold bU at p;dsimp only[Rs.bind]at p;by_cases hl:ds.length=n
   ·rw[if_pos hl]at p;refine⟨by rw[<- r.length];exact hl,G1,ds,(s.ext x).ex0,r,?_⟩;cases e1:g ds with
    |ok d=>rw[e1]at p;exact p
    |ex c n=>rw[e1]at p;exact fun H' G' y=>⟨c,n,rfl,p H' G' y⟩
    |no=>rw[e1]at p;exact p.elim
   ·rw[if_neg hl]at p;exact p.elim
 refine ve (h₀:=X.base) I.ok.mod.Kf hk (gO (ha pos pins s σ H _ I h2) fun us s1 ⟨vs,H1,I1,r,q⟩=>⟨I1.DY,?_⟩) he hpl;have hl:(us++[]).length=ps.length:=by rw[eI,<- r.length];exact F.len _ _ _ _ q
 have hbb:=hb s1 us I1.DY hl;rw[eI]at hbb;refine qB (lj (F.run X.A X.stack s1 H1 ⟨us,[]⟩ us vs Q _ hr I1.env0 hbb r q) fun r s' hq=>?_);cases r with
 |error e=>exact hx pins σ H1 s1 e s' I1 hq
 |ok fl =>
  cases fl with
  |ret u=>exact I1.after hq
  |next=>exact eR hq
  |brk=>exact eR hq
  |cont=>exact eR hq
theorem Yp{K:ai}{h:ay}{C:ae}{bmB:List aa}{newId:String}(Z:K.In h)(q:vi K C bmB newId=true) :
  ∃bm N nm qn bs hd sn sub ab col dd k0 k1 k2 k3 k5 mN,h.get? C=some (excClassObj nm qn C N bs bm hd sn sub ab col dd k0 k1 k2 k3 k5 newId)/\h.Ns N mN/\mN "__init__"=none/\OwnTail h bmB bm:=by
 unfold vi at q;split at q
 next dd cl sl ho =>
  split at q
  next C1 tl a0 a1 a2 a3 nw a5 hmro hsl =>
   simp only[lS,Bool.not_eq_true',beq_iff_eq]at q;obtain⟨⟨⟨⟨⟨q1,q2⟩,q3⟩,q4⟩,q5⟩,q6⟩:=q;subst q1 q2;obtain⟨y1,y2,y3,y4,y5,y6,y7,y8,y9,y10,y11⟩:=cl;dsimp only at hmro q3 q5 q6;subst hmro q3;have e:sl=#[a0,a1,a2,a3,some (.builtin nw),a5]:=by cases sl;exact congrArg Array.mk hsl
   rw[e]at ho;exact⟨tl,y4,y1,y5,y2,y6,y7,y8,y9,y10,dd,a0,a1,a2,a3,a5,_,Z _ _ ho,.of_isNs (PySem.W.isNs_of_in Z q5),PySem.W.nsMap_none_of_in Z q5 q6,PySem.W.tail_of_in Z q4⟩
  next=>cases q
 next=>cases q
theorem Ey{x:Str}{np cpos pos:Pos}{e:ah}{es:List ah}{fs:ak->Rs (List D)}{C:ae}{bmB bmN:List aa}{Bn Bb newId nid inN initId:String}
  (hp:KH X W) (hex:X.ex=[]) (hc:X.calm=true) (hg:Gl X x) (hm:X.mg x=some (.ref C)) (hn:j0 X.K cq x=some (some (.ref C))) (q:vi X.K C bmB newId=true)
  (Fn:ExcBaseFacts Bn newId inN bmN) (hBn:bmB.contains (.type Bn)=true) (FB:ExcBaseFacts Bb nid initId bmB)
  (ha:SA X B W (e::es) fs) (hlen:(e::es).length<=1000) (hdb:pK x:=by decide) (he:ba (e::es) X.env=(false,bb e X.env)::ba es X.env:=by rfl) (hpl:(df cpos (ba es X.env)).any (·.1)=false:=by rfl) :
  SS X B W (.Raise (some (.Call (.Name x np) (e::es) [] cpos)) none pos) (fun ρ=>oR (fs ρ) ρ fun ds=>if ds.length<=1000 then .ex x 0 ρ else .no):=by
 intro pins s σ H De I ⟨ρ,G,sr,p⟩;obtain⟨tl,N,nm,qn,bs,hdct,sn,sub,ab,col,dd,k0,k1,k2,k3,k5,mN,hC,hN,hni,T⟩:=Yp I.ok.mod.Kf q;refine wpAny_Raise_call_subU (C:=C) (nm:=nm) (q:=qn) (N:=N) (bs:=bs) (bm:=tl) (hdct:=hdct) (sn:=sn) (sub:=sub) (ab:=ab) (col:=col) (dd:=dd) (k0:=k0) (k1:=k1) (k2:=k2) (k3:=k3) (k5:=k5)
  Fn hBn FB (mN:=mN) (T.hasType FB.hasBase) (I.ok.hd hc) (by rw[he];show(false || (df cpos (ba es X.env)).any (·.1))=false;rw[hpl];rfl) hni (vd I hg hm ⟨rfl,?_⟩ hdb)
 have h2:tAF X.K B W fs σ H fun vs H1=>vs.length<=1000/\W x 0 σ H1:=by
  refine⟨ρ,G,sr,?_⟩;dsimp only at p;cases e:fs ρ with
  |ok ds =>
   rw[e]at p;dsimp only[oR]at p;by_cases hl:ds.length<=1000
   ·rw[if_pos hl]at p;exact fun vs H1 G1 y r=>⟨by rw[<- r.length];exact hl,p σ H1 G1 (sr.ext y) y.gg⟩
   ·rw[if_neg hl]at p;exact p.elim
  |ex c n=>rw[e]at p;exact fun H1 G1 y=>p σ H1 G1 (sr.ext y) y.gg
  |no=>rw[e]at p;exact p
 have h3:=ha cpos pins s σ H _ I h2;rw[he]at h3 ⊢;refine uA (eM h3 (fun us s2 ⟨vs,H1,I1,r,hl,w⟩=>⟨rfl,by rw[<- r.length];exact Bo hl,I1.bk _ _ hC,hN.keeps I1.bk,T.keeps I1.bk,fun h' ea hm'=>?_⟩) fun _ _ y=>y);have I2:Inv X pins σ H1 { s2 with heap:=h' }:=I1.kept (t':=s2.toks) hm'.keeps;obtain⟨t,h1,h2',h3'⟩:=hm'.there;have new:s2.heap.get? ea=none:=hm'.new;refine hp pins σ H1 _ ea x 0 false I2 ⟨C,_,_,_,hn,h1,rfl,rfl,rfl,?_,?_,fun z=>?_,.inl rfl,?_⟩ w
 ·cases z:H1 ea with
  |none=>rfl
  |some u=>obtain⟨o,z⟩:=qK (I1.hok _ _ z);rw[new]at z;cases z
 ·cases z:X.s₀.heap.get? ea with
  |none=>rfl
  |some o=>obtain⟨o',z⟩:=I1.base.there _ o z (by rw[hex];simp);rw[new]at z;cases z
 ·obtain⟨p,hp,e⟩:=dt.mp z;have:=(I1.pin p hp).1;rw[e,new]at this;cases this
 ·rw[if_neg (by decide)];rfl
end
noncomputable def Yl(K:ai)(J:It)(ds:List D)(G:Hp):Prop:=∀(i:Nat) (G1 H1:Hp),Same G G1->Ext G1 H1 G1 H1 ->
 (∀d,ds[i]?=some d->J.go i H1/\∀x H2,J.yld i H1 x H2->∃G2,Ext G1 H1 G2 H2/\Rep K G2 d x)/\(ds.length<=i->J.stop i H1)
noncomputable def Ez(K:ai)(W:Wi)(σ:St)(G H:Hp)(r:Rs (List D))(R:It->Hp->Prop):Prop :=
 match r with
 | .ok ds=>∀J H' G',Ext G H G' H'->Yl K J ds G'->R J H'
 | .ex c n=>∀H' G',Ext G H G' H'->W c n σ H'
 | .no=>False
noncomputable def tI(K:ai)(B:Bs)(W:Wi)(f:ak->Rs (List D)):TI:=fun σ H R=>∃ρ G,SR K B σ H ρ G/\Ez K W σ G H (f ρ) R
noncomputable def SI(X:Cx)(B:Bs)(W:Wi)(tg iter:ah)(f:ak->Rs (List D)):Prop:=PI X tg iter (tI X.K B W f)
noncomputable def asL:D->Rs (List D)
 | .lst ds=>.ok ds
 |_=>.no
noncomputable def asT:D->Rs (List D)
 | .tup ds=>.ok ds
 |_=>.no
section
variable{X:Cx}{K:ai}{B:Bs}{W:Wi}{σ:St}{G H:Hp}{ρ:ak}{tg iter:ah}{f:ak->Rs D}
theorem PI.imp{t t':TI}(h:PI X tg iter t)(i:∀σ H R,t' σ H R->t σ H R):PI X tg iter t':=fun pins s σ H R I q=>h pins s σ H R I (i σ H R q)
theorem acu{a:ae}{ds:List D}{vs:List V}(q:iV K G a vs)(r:bA K G ds vs):Yl K (Itt K a) ds G:=by intro i G1 H1 gg e;have q1:=Same.dU e.gh (Same.dU gg q);refine⟨fun d hd=>?_,fun hl=>⟨vs,q1,by rw[<- r.length];exact hl⟩⟩;obtain⟨v,hv,rv⟩:=r.get hd;refine⟨⟨vs,v,q1,hv⟩,fun x H2 y=>?_⟩;obtain⟨e2,y⟩:=y;subst e2;have:=y vs q1;rw[hv]at this;cases this;exact⟨G1,e,rv.mono gg⟩
theorem RK{lo:Int}{n:Nat}:Yl K (Qo lo n) ((b_ n).map fun(i:Nat)=>.int (lo + i)) G:=by
 intro i G1 H1 gg e;refine⟨fun d hd=>?_,fun hl=>show n<=i by simpa using hl⟩;have hi:i < n:=by have:=(dm.mp hd).1;simpa using this
 refine⟨hi,fun x H2 y=>?_⟩;obtain⟨e2,y⟩:=y;subst e2 y;rw[cK,List.getElem?_range hi]at hd;cases hd;exact⟨G1,e,aU.mpr rfl⟩
theorem KQ{as:D->Rs (List D)}{r:Rs D}{R:It->Hp->Prop}{Q:VK}(p:Ez K W σ G H (r.bind as) R)(h:∀d v H' G' ds,as d=.ok ds->Ext G H G' H'->Rep K G' d v->(∀J Kz G'',Ext G' H' G'' Kz->Yl K J ds G''->R J Kz)->Q v H')(hn:∀d c n,as d≠.ex c n):Post K W σ G H r Q:=by
 cases r with
 |ok d =>
  intro v H' G' e rv;have p':Ez K W σ G H (as d) R:=p;cases e1:as d with
  |ok ds=>rw[e1]at p';exact h d v H' G' ds e1 e rv fun J Kz G'' e' y=>p' J Kz G'' (e.trans e') y
  |ex c n=>exact(hn d c n e1).elim
  |no=>rw[e1]at p';exact p'.elim
 |ex c n=>exact p
 |no=>exact p
theorem Yq(hi:SE X B W iter f):SI X B W tg iter (fun ρ=>(f ρ).bind asL):=by
 refine PI.imp (Ko hi) fun σ H R ⟨ρ,G,s,p⟩=>⟨ρ,G,s,KQ p (fun d v H' G' ds e1 e rv k=>?_) (fun d c n z=>by cases d <;> cases z)⟩
 cases d with
 |lst es =>
  cases e1;obtain⟨a,vs,rfl,q,rr⟩:=bh.mp rv;refine⟨a,rfl,⟨vs,e.gh.seq q⟩,k _ H' G' (.refl e.gh e.tp) ?_⟩;intro i G1 H1 gg e';have q1:=e'.gh.seq (gg.seq q);refine⟨fun d hd=>?_,fun hl=>⟨vs,q1,by rw[<- rr.length];exact hl⟩⟩;obtain⟨v,hv,rv⟩:=rr.get hd;refine⟨⟨vs,v,q1,hv⟩,fun x H2 y=>?_⟩;obtain⟨e2,y⟩:=y;subst e2;have:=y vs q1;rw[hv]at this;cases this;exact⟨G1,e',rv.mono gg⟩
 |_=>cases e1
theorem acv(hi:SE X B W iter f):SI X B W tg iter (fun ρ=>(f ρ).bind asT):=by
 refine PI.imp (Qp hi) fun σ H R ⟨ρ,G,s,p⟩=>⟨ρ,G,s,KQ p (fun d v H' G' ds e1 e rv k=>?_) (fun d c n z=>by cases d <;> cases z)⟩
 cases d with
 |tup es =>
  cases e1;obtain⟨a,vs,rfl,q,rr⟩:=bD.mp rv;exact⟨a,rfl,⟨vs,Same.dU e.gh q⟩,k _ H' G' (.refl e.gh e.tp) (acu q rr)⟩
 |_=>cases e1
noncomputable def Ii(ρ:ak):Prop:=∀(i:Nat) (z:Sl),ρ[i]?=some z->z.own=true->False
noncomputable def lC(h:Tg):Prop:=∀d ρ ρ',Ii ρ->h d ρ=some ρ'->Ii ρ'
noncomputable def cZ(nt:Nat)(caps:List Nat)(ρ:ak):ak:=gc nt .no++caps.map fun i=>match ρ[i]? with|some (.fz d)=>.fz d|_=>.no
noncomputable def cW(h:Tg)(ft:ak->Rs Bool)(fe:ak->Rs D):List D->ak->Rs (List D)
 | [],_=>.ok []
 |d::ds,ρ=>match h d ρ with
  |none=>.no
  |some ρ1=>(ft ρ1).bind fun b=>if b=true then (fe ρ1).bind fun y=>(cW h ft fe ds ρ1).bind fun ys=>.ok (y::ys) else cW h ft fe ds ρ1
theorem mL{nt:Nat}{caps:List Nat}{ρ:ak}:Ii (cZ nt caps ρ):=fun i z q w=>by
 unfold cZ at q;by_cases hi:i < (gc nt Sl.no).length
 ·rw[fg hi,kq]at q;split at q <;> cases q;cases w
 ·rw[gL (by lia),cK]at q;cases e:caps[i - (gc nt Sl.no).length]? with
  |none=>rw[e]at q;cases q
  |some k =>
   rw[e]at q;have q':(match ρ[k]? with|some (.fz d)=>Sl.fz d|_=>.no)=z:=dE q;split at q' <;> (subst q';cases w)
theorem Yr{nt:Nat}{caps:List Nat}{p:ae}(s:SR K B σ H ρ G)(hp:H p=none):SR K ⟨G,H,0⟩ (nY nt caps σ) (upd H p (.lst [])) (cZ nt caps ρ) G:=by
 refine⟨Ky s.en.gh s.en.tp hp,by simp[nY,cZ],fun i d q=>?_,fun i z q w=>(mL i z q w).elim,fun i j z z' a q w=>(mL i z q w).elim,fun i z a q wl=>(mL i z q (Sl.vf wl)).elim,s.co.same (Ky s.en.gh s.en.tp hp).hh⟩;unfold cZ at q;unfold nY;by_cases hi:i < nt
 ·rw[fg (by simpa using hi),kq]at q;split at q <;> cases q
 ·rw[gL (by simpa using hi),cK,oq]at q;rw[gL (by simpa using hi),cK,oq];cases e:caps[i - nt]? with
  |none=>rw[e]at q;cases q
  |some k =>
   rw[e]at q;have q':(match ρ[k]? with|some (.fz d)=>Sl.fz d|_=>.no)=.fz d:=dE q;cases e2:ρ[k]? with
   |none=>rw[e2]at q';cases q'
   |some z =>
    rw[e2]at q';cases z with
    |fz d' =>
     cases q';obtain⟨v,h1,h2⟩:=s.fz k _ e2;exact⟨v,by simp[h1],h2⟩
    |no=>cases q'
    |ow _=>cases q'
    |od _=>cases q'
    |op _=>cases q'
    |oe _=>cases q'
theorem SR.off{p:ae}{vs us:List V}(s:SR K B σ H ρ G)(hn:Ii ρ)(hp:H p=some (.lst vs))(g:G p=none)(b:B.2 p=none):SR K B σ (upd H p (.lst us)) ρ G:=by
 refine⟨⟨s.en.gg,fun c o z=>?_,fun c o z=>?_,fun c xs z=>?_,s.en.nw⟩,s.len,s.fz,fun i z q w=>(hn i z q w).elim,fun i j z z' a q w=>(hn i z q w).elim,fun i z a q wl=>(hn i z q (Sl.vf wl)).elim,s.co.upd hp (fun _ z=>by cases z)⟩
 ·rw[aL (aM z b)];exact s.en.hh c o z
 ·rw[aL (aM z g)];exact s.en.gh c o z
 ·by_cases w:c=p
  ·subst w;rw[aQ]at z;cases z
  ·rw[aL w]at z;exact s.en.tp c xs z
noncomputable def fu(h:Tg)(ft:ak->Rs Bool)(fe:ak->Rs D)(nt:Nat)(caps:List Nat)(f:ak->Rs (List D)):ak->Rs D:=fun ρ =>
 (f ρ).bind fun ds=>jt ((cW h ft fe ds (cZ nt caps ρ)).bind fun ys=>if ys.length<=1000000 then .ok (.lst ys) else .no)
noncomputable def qL(h:Tg)(ft:ak->Rs Bool)(fe:ak->Rs D)(nt:Nat)(caps:List Nat)(f:ak->Rs (List D)):ak->Rs D:=fun ρ =>
 (f ρ).bind fun ds=>match cW h ft fe ds (cZ nt caps ρ) with
  | .ok ys=>if ys.length<=1000000 then .ok (.lst ys) else .no
  | .ex c n=>if ds.length<=1000000 then .ex c n else .no
  | .no=>.no
theorem zE{h:Tg}{ft:ak->Rs Bool}{fe:ak->Rs D}:∀{ds:List D}{ρ:ak},cW h (fun ρ=>jt (ft ρ)) (fun ρ=>jt (fe ρ)) ds ρ=jt (cW h ft fe ds ρ)
 | [],_=>rfl
 |d::ds,ρ=>by
  unfold cW;cases h d ρ with
  |none=>rfl
  |some ρ1 =>
   have ih:=zE (h:=h) (ft:=ft) (fe:=fe) (ds:=ds) (ρ:=ρ1);dsimp only;generalize cW h (fun ρ=>jt (ft ρ)) (fun ρ=>jt (fe ρ)) ds ρ1=x at ih ⊢;generalize cW h ft fe ds ρ1=y at ih ⊢;subst ih;cases ft ρ1 with
   |ok b =>
    cases b with
    |true =>
     cases fe ρ1 with
     |ok z=>cases y <;> rfl
     |_=>rfl
    |false=>rfl
   |_=>rfl
theorem KR{h:Tg}{ft:ak->Rs Bool}{fe:ak->Rs D}{nt:Nat}{caps:List Nat}{f:ak->Rs (List D)}:fu h ft fe nt caps f=qL h (fun ρ=>jt (ft ρ)) (fun ρ=>jt (fe ρ)) nt caps f:=funext fun ρ=>by
 unfold fu qL;cases f ρ with
 |ok ds =>
  dsimp only[Rs.bind];rw[zE];cases cW h ft fe ds (cZ nt caps ρ) with
  |ok ys=>show jt (if ys.length<=1000000 then _ else _)=if ys.length<=1000000 then _ else _;by_cases c:ys.length<=1000000 <;> simp only[c,if_true,if_false] <;> rfl
  |_=>rfl
 |_=>rfl
theorem Bt{α:Type}{r:Rs α}{c:Str}{n:Int}(e:jt r=.ex c n):False:=by cases r <;> cases e
theorem KY{e:ah}{f:ak->Rs D}(h:SE X.Xn B WF e f):SE X B W e (fun ρ=>jt (f ρ)) :=
 fun pins s σ H Q I ⟨ρ,G,sr,p⟩=>PE.Xn h pins s σ H Q I ⟨ρ,G,sr,by dsimp only at p;cases e:f ρ <;> (rw[e]at p;first|exact p|exact p.elim)⟩
theorem KZ{e:ah}{f:ak->Rs Bool}(h:ST X B WF e f):ST X B WF e (fun ρ=>jt (f ρ)) :=
 fun pins s σ H Q I ⟨ρ,G,sr,p⟩=>h pins s σ H Q I ⟨ρ,G,sr,by dsimp only at p;cases e:f ρ <;> (rw[e]at p;first|exact p|exact p.elim)⟩
noncomputable def Px(X:Cx)(W:Wi):Prop:=KH X W/\X.ex=[]/\∃outer L,X.stack=X.env::outer/\X.env.frame=some L
theorem Ys{old h h':ay}{av:List ae}{ea C:ae}{c:Str}{n:Int}{tr:Bool}{m:Str->Option aa}(F:Oc K old av ea c n h H tr)(hn:h.Ns C m)(hs:dQ C h h'):Oc K old av ea c n h' H tr:=by
 have ne:∀b o (vs:Array aa),h.get? b=some o->o.data=.fields vs->h'.get? b=some o:=fun b o vs e d=>(hs.2 b fun z=>by
  obtain⟨o',es,ep,ho,hd,_⟩:=hn;rw[z,ho]at e;cases e;rw[hd]at d;cases d).trans e
 obtain⟨D,oe,vs,a0,h1,h2,h3,h4,h5,h6,h7,h8,h9,h10⟩:=F;refine⟨D,oe,vs,a0,h1,ne _ _ _ h2 h4,h3,h4,h5,h6,h7,h8,h9,?_⟩;cases tr with
 |false=>exact h10
 |true =>
  rw[if_pos rfl]at h10 ⊢;obtain⟨T,oT,ts,x,t1,t2,t3,t4,t5⟩:=h10;exact⟨T,oT,ts,x,t1,t2,ne _ _ _ t3 t4,t4,t5⟩
theorem Bu{prog:aI}{w:az}{A:aT}{E:aa->af->Prop}{s:af}{env:Env}{Q:Bool->af->Prop}(h:Q true s) :
  ar (aw prog w) A (forIn ([]:List ah) true fun c r=>if r=true then do let ok <- isTrue c env (bb c env);pure (ForInStep.yield ok) else pure (ForInStep.yield r)) Q E s:=by
 simp only[vj];exact aS h
noncomputable def acw(K:ai)(G H:Hp)(a:ae)(H':Hp)(d:D):Prop:=H a=none/\∃G0 ws es,Ext G H G0 H'/\G0 a=none/\H' a=some (.lst ws)/\d=.lst es/\bA K G0 es ws
theorem zF{elt:ah}{ifs:List ah}{sc:Scope}{pos:Pos}{N:List Str}{nt:Nat}{caps:List Nat}{h:Tg}{ft:ak->Rs Bool}{fe:ak->Rs D}{fi:ak->Rs (List D)}
  (c:ud X sc N nt caps) (hc:X.calm=true) (hnames:∀y∈sc.names,y.2=.local->sc.names.lookup y.1=some .local) (hi:SI X B W tg iter fi) (hno:lC h)
  (ht:∀s₀ H₀ C ex pins B',SG (eH X N s₀ H₀ sc (fY sc X.env) C ex pins) B' tg h)
  (hif:(ifs=[]/\ft=fun _=>.ok true)∨∃c,ifs=[c]/\(∀ρ c n,ft ρ≠.ex c n)/\∀s₀ H₀ C ex pins B',ST (eH X N s₀ H₀ sc (fY sc X.env) C ex pins) B' WF c ft)
  (he:∀s₀ H₀ C ex pins B' E W',nZ ((eH X N s₀ H₀ sc (fY sc X.env) C ex pins).wish E) W'->SE ((eH X N s₀ H₀ sc (fY sc X.env) C ex pins).wish E) B' W' elt fe)
  (hx:(∀ρ c n,fe ρ≠.ex c n)∨Px X W) (hs:∀x,gi iter X.env x=pure x)
  {use:Option (aa->Sem Unit)}{QQ:aa->af->Prop}{pins:List (ae×Obj)}{s:af}{σ:St}{H G:Hp}{ρ:ak}(I:Inv X pins σ H s) (sr:SR X.K B σ H ρ G)
  (p:match qL h ft fe nt caps fi ρ with
   | .ok d=>∀(D' C:ae) (H' G':Hp) (s5:af) (fl:Flow),Ext G H G' H'->Rep X.K G' d (.ref D')->acw X.K G H D' H' d->(∃m,s5.heap.Ns C m)->lu X pins H' C->(∀h',dQ C s5.heap h'->Inv X pins σ H' { s5 with heap:=h' })->compPost (aw X.prog X.w) X.A X.xe use QQ (.ref D') C (.ok fl) s5
   | .ex c n=>∀H' G',Ext G H G' H'->W c n σ H'
   | .no=>False) :
  ar (aw X.prog X.w) X.A (comprehension (.ListComp elt [⟨tg,iter,ifs,0⟩] sc pos) sc X.env (firstIterPos [⟨tg,iter,ifs,0⟩] pos) (newList []) (firstAsync [⟨tg,iter,ifs,0⟩]) (firstIter [⟨tg,iter,ifs,0⟩] X.env) use) QQ X.xe s:=by
 refine wpAny_comprehension_free (use:=use) (cl:=fY sc X.env) rfl hs (uV (c.cells I)) c.kind hnames ?_;show ar (aw X.prog X.w) X.A (bb iter X.env) _ X.xe s
 let PP:List D->Rs (List D)->Prop:=fun ds r=>match r with
  | .ok YS=>YS.length<=1000000/\∀(D' C:ae) (H' G':Hp) (s5:af) (fl:Flow),Ext G H G' H'->Rep X.K G' (.lst YS) (.ref D')->acw X.K G H D' H' (.lst YS)->(∃m,s5.heap.Ns C m)->lu X pins H' C->(∀h',dQ C s5.heap h'->Inv X pins σ H' { s5 with heap:=h' })->compPost (aw X.prog X.w) X.A X.xe use QQ (.ref D') C (.ok fl) s5
  | .ex c n=>ds.length<=1000000/\∀H' G',Ext G H G' H'->W c n σ H'
  | .no=>False
 refine eM (hi pins s σ H (fun J H2=>∃G2 ds,Ext G H G2 H2/\Yl X.K J ds G2/\PP ds (cW h ft fe ds (cZ nt caps ρ))) I ⟨ρ,G,sr,?_⟩) (fun v s1 h1=>eM h1 (fun itv s2 h2=>?_) fun _ _ z=>z) fun _ _ z=>z
 ·unfold qL at p;cases e:fi ρ with
  |ok ds =>
   rw[e]at p;dsimp only[Rs.bind]at p;refine fun J H' G' x y=>⟨G',ds,x,y,?_⟩
   cases e:cW h ft fe ds (cZ nt caps ρ) with
   |ok YS =>
    rw[e]at p;by_cases hl:YS.length<=1000000
    ·simp only[if_pos hl]at p;exact⟨hl,p⟩
    ·simp only[if_neg hl]at p
   |ex c n =>
    rw[e]at p;by_cases hl:ds.length<=1000000
    ·simp only[if_pos hl]at p;exact⟨hl,p⟩
    ·simp only[if_neg hl]at p
   |no=>rw[e]at p;exact p.elim
  |ex c n=>rw[e]at p;exact p
  |no=>rw[e]at p;exact p
 obtain⟨it,fp,tn,J,H2,e,I2,T,st2,f2,G2,ds,x2,yl,hPP⟩:=h2;subst e;refine gN (wpAny_newFunctionEnv c.Rx (by intro y hy;simp at hy) (fun h₁ hns₁ hsb₁=>?_) c.kind);have hD2:H2 s2.heap.objs.size=none:=I2.fresh;have I3:=I2.aeU (ys:=[]) (its:=[]) (t':=s2.toks) .nil (by simp);have sr2:SR X.K B σ H2 ρ G2:=sr.ext x2;have fpl:∀b∈fp,b < s2.heap.objs.size:=fun b hb=>by obtain⟨o,ho,_⟩:=T.obj 0 _ st2 b hb;exact bu ho
 have hk:∀b o,(s2.heap.push { cls:=.type "list",data:=.seq ([]:List aa).toArray }).get? b=some o->h₁.get? b=some o:=fun b o z =>
  (hsb₁.2 b (cn (bu z))).trans (cm _ z)
 have afg:∀b∈fp,lu X pins (upd H2 s2.heap.objs.size (.lst [])) b/\b < (s2.heap.push { cls:=.type "list",data:=.seq ([]:List aa).toArray }).objs.size:=fun b hb=>by
  obtain⟨g1,g2⟩:=f2 b hb;refine⟨⟨?_,g2⟩,?_⟩
  ·rw[aL (cn (fpl b hb))];exact g1
  ·rw[j4];exact ky (fpl b hb)
 have IY:=Ih (h':=h₁) (tk:=s2.toks + ([]:List (Str×aa)).length) c I3 afg hns₁ hk;generalize hC:(s2.heap.push { cls:=.type "list",data:=.seq ([]:List aa).toArray }).objs.size=C at *;have srY:=Yr (nt:=nt) (caps:=caps) sr2 hD2;have stk:∀b,b≠X.env.locals->b∉X.fs->b∉rz X.stack:=fun b h1 h2 h3=>(br.mp (I2.vN b h3)).elim h1 h2;have hCl:s2.heap.objs.size + 1=C:=by rw[<- hC,j4]
 have stat:∀{H':Hp},(∀b∈fp,H' b=none)->∀b∈fp,lu (eH X N { s2 with heap:=s2.heap.push { cls:=.type "list",data:=.seq ([]:List aa).toArray },toks:=s2.toks } (upd H2 s2.heap.objs.size (.lst [])) sc (fY sc X.env) C fp pins) [] H' b:=fun {H'} hn b hb=>by
  obtain⟨_,g2,g3,g4,g5,g6⟩:=f2 b hb;refine⟨hn b hb,?_,stk b g2 g3,.inl hb,fun x a ha=>g5 x a (c.cl I2 ha),fun p hp=>?_⟩
  ·show b≠C;exact cn (hCl▸ky (fpl b hb))
  ·rw[eI]at hp;exact g6 p hp
 let Y:=eH X N { s2 with heap:=s2.heap.push { cls:=.type "list",data:=.seq ([]:List aa).toArray },toks:=s2.toks } (upd H2 s2.heap.objs.size (.lst [])) sc (fY sc X.env) C fp pins
 let D':=s2.heap.objs.size
 have toX:∀{σ5:St}{H5:Hp}{s5:af},Inv Y [] σ5 H5 s5->∀h',dQ C s5.heap h'->Inv X pins σ H5 { s5 with heap:=h' }:=fun {σ5 H5 s5} I5 h' hs'=>by
  have ne:∀b o,(s2.heap.push { cls:=.type "list",data:=.seq ([]:List aa).toArray }).get? b=some o->b≠C:=fun b o e z=>by have:=bu e;rw[hC,z]at this;exact eQ _ this
  have U:=I5.base;refine I3.call' (ch:=fp) (s':={ s5 with heap:=h' }) I5.os ⟨fun b o e n hb hx=>?_,fun b o e n hb hx=>?_,U.free,fun b o e hx=>?_,U.tups,U.vK,U.yG⟩ (fun b o e=>?_) I5.bare fun b hb=>?_
  ·exact(hs'.2 b (ne b o e)).trans (U.keep b o e n hb hx)
  ·obtain⟨sl,q⟩:=U.slot b o e n hb hx;exact⟨sl,(hs'.2 b (ne b o e)).trans q⟩
  ·obtain⟨o',q⟩:=U.there b o e hx;exact⟨o',(hs'.2 b (ne b o e)).trans q⟩
  ·have fC:H5 C=none:=I5.free;refine(I5.hok b o e).stay (fun c' u' hc' q=>(hs'.2 c' ?_).trans q) (fun _ q=>q) (fun _ _ q=>q) fun _ _ q=>q;rintro rfl;rcases hc' with rfl|hc'
   ·rw[fC]at e;cases e
   ·rw[fC]at hc';cases hc'
  ·obtain⟨_,g2,_,g4,g5,g6⟩:=f2 b hb;exact⟨g4,g2,g5,g6⟩
 have hfx:∀ρ c n,ft ρ≠.ex c n:=by
  rcases hif with ⟨_,e2⟩|⟨_,_,h,_⟩
  ·subst e2;exact fun _ _ _ z=>nomatch z
  ·exact h
 let Jn:Nat->af->Prop:=fun n s4=>∃(i:Nat) (ρ':ak) (σ':St) (H' G':Hp) (Yt:List D) (Oe:List V),Inv Y [] σ' H' s4/\tn i s4.heap/\(∀b∈fp,H' b=none)/\SR X.K ⟨G2,H2,0⟩ σ' H' ρ' G'/\Ii ρ'/\H' D'=some (.lst Oe)/\G' D'=none /\
  bA X.K G' Yt Oe/\i<=ds.length/\n=ds.length - i/\Yt.length<=i/\PP ds ((cW h ft fe (ds.drop i) ρ').bind fun r=>.ok (Yt++r))
 have loop:∀(n:Nat) (s4:af),Jn n s4->ja (aw X.prog X.w) X.A (.compLoop (.ListComp elt [⟨tg,iter,ifs,0⟩] sc pos) 0 (.ref it) (.ref D') Y.env) (compPost (aw X.prog X.w) X.A X.xe use QQ (.ref D') C) s4:=by
  intro n0 s40 h0;refine Br (J:=Jn) ?_ n0 h0;rintro n s4 ⟨i,ρ',σ',H',G',Yt,Oe,I4,zG,fr4,RL,no4,hD4,hG4,ry4,hi4,rfl,hyi,hcd⟩;by_cases hlt:i < ds.length
  ·obtain⟨yes,_⟩:=yl i G' H' RL.en.gg RL.yK;obtain⟨go,yields⟩:=yes ds[i] (by simp[hlt]);rw[iP hlt]at hcd;unfold cW at hcd;cases eh:h ds[i] ρ' with
   |none=>rw[eh]at hcd;exact hcd.elim
   |some ρ1 =>
    rw[eh]at hcd;dsimp only at hcd;refine gO (T.item Y rfl rfl rfl hc i [] s4 σ' H' (fun _ _=>False) I4 (stat fr4) zG go) fun r s5 dF=>?_;obtain⟨u,hr,h5⟩:=dF;subst hr;refine gO h5 fun _ s6 dF=>?_;obtain⟨x,H6,I6,r6,y6,st6,fr6⟩:=dF;obtain⟨G6,e6,ahw⟩:=yields x H6 y6;have sr6:=RL.ext e6;have I6':=I6.pinned (stat fr6) (T.obj _ _ st6);refine gO (ht _ _ _ _ _ ⟨G2,H2,0⟩ _ s6 σ' H6 x u (fun σ7 H7=>H7=H6/\SR X.K ⟨G2,H2,0⟩ σ7 H6 ρ1 G6) I6' r6 ⟨ρ',G6,ds[i],sr6,ahw,ρ1,eh,fun σ7 z=>⟨rfl,z⟩⟩) fun _ s7 dF=>?_;obtain⟨σ7,H7,I7,eH7,sr7⟩:=dF;subst eH7;have no7:=hno _ _ _ no4 eh;have again:∀{σ8:St}{H8:Hp}{s8:af},Inv Y ([]++tQ fp s6.heap) σ8 H8 s8->Inv Y [] σ8 H8 s8/\tn (i + 1) s8.heap/\∀b∈fp,H8 b=none:=fun {σ8 H8 s8} I8=>by refine⟨I8.rB,T.keep _ _ _ st6 fun b hb o e=>(I8.pin (b,o) (fE _ (fE _ (mJ hb e)))).1,fun b hb=>?_⟩;obtain⟨o,e,d⟩:=T.obj _ _ st6 b hb;exact(I8.pin (b,o) (fE _ (fE _ (mJ hb e)))).2.1
    obtain⟨b,hb,hcd⟩:∃b,ft ρ1=.ok b/\PP ds ((if b=true then (fe ρ1).bind fun y=>(cW h ft fe (ds.drop (i + 1)) ρ1).bind fun ys=>.ok (y::ys) else cW h ft fe (ds.drop (i + 1)) ρ1).bind fun r=>.ok (Yt++r)):=by
     cases e:ft ρ1 with
     |ok b=>rw[e]at hcd;exact⟨b,rfl,hcd⟩
     |ex c n=>exact(hfx _ _ _ e).elim
     |no=>rw[e]at hcd;exact hcd.elim
    have test:ar (aw X.prog X.w) X.A (forIn ifs true fun c r=>if r=true then do let ok <- isTrue c Y.env (bb c Y.env);pure (ForInStep.yield ok) else pure (ForInStep.yield r)) (TP Y ([]++tQ fp s6.heap) σ7 fun b' H8=>b'=b/\∃G8,Ext G6 H7 G8 H8) (fun _ _=>False) s7:=by
     rcases hif with ⟨e1,e2⟩|⟨cc,e1,_,hst⟩
     ·subst e1 e2;cases hb;exact Bu ⟨H7,I7,rfl,G6,sr7.yK⟩
     ·subst e1;refine wpAny_tests_one (hst _ _ _ _ _ ⟨G2,H2,0⟩ _ s7 σ7 H7 _ I7 ⟨ρ1,G6,sr7,?_⟩);rw[hb];exact fun H8 G8 e8=>⟨rfl,G8,e8⟩
    refine gO test fun ok s8 dF=>?_;obtain⟨H8,I8,eb,G8,e8⟩:=dF;subst eb;have sr8:=sr7.ext e8;have hD8:H8 D'=some (.lst Oe):=e8.hh _ _ (e6.hh _ _ hD4);have hG8:G8 D'=none:=e8.nw _ _ (e6.hh _ _ hD4) (e6.nw _ _ hD4 hG4);have ry8:=(ry4.mono e6.gg).mono e8.gg;cases ok with
    |true =>
     rw[if_pos rfl]at hcd ⊢
     let W1:Wi:=fun c n _ H9=>fe ρ1=.ex c n/\∃G9,Ext G8 H8 G9 H9
     let E1:aa->af->Prop:=fun e s'=>∃vO σ' H' s1,Inv Y vO σ' H' s1/\uf X.prog X.w X.K X.stack H' s1 (fun v _ Kz=>∃c n,v=uU c n/\W1 c n σ' Kz) e s'
     refine eM (he _ _ _ _ _ ⟨G2,H2,0⟩ E1 W1 (fun vO σ' H' s1 e s' I1 q=>⟨vO,σ',H',s1,I1.jM,q⟩) _ s8 σ7 H8 (fun v H9=>∃y G9,fe ρ1=.ok y/\Ext G8 H8 G9 H9/\Rep X.K G9 y v) (I8.wish E1) ⟨ρ1,G8,sr8,?_⟩) (fun u9 s9 ⟨v9,H9,I9,r9,y,G9,hy,e9,ahB⟩=>?_) (fun e s' q=>?_)
     ·cases e:fe ρ1 with
      |ok y=>exact fun v H9 G9 e9 r=>⟨y,G9,rfl,e9,r⟩
      |ex c n=>exact fun H9 G9 e9=>⟨e,G9,e9⟩
      |no=>rw[e]at hcd;exact hcd.elim
     rotate_left
     ·obtain⟨vO,σ',H1,s1,I1,ea,c',n,H9,e1,os,bare,un,hok,F,c0,n0,e2,efe,G9,x9⟩:=q;subst e1;obtain⟨rfl,rfl⟩:=KN e2;rcases hx with hx|⟨hp,hex,outer,L,hst,hf⟩
      ·exact(hx _ _ _ efe).elim
      rw[efe]at hcd;have J1:Inv Y [] σ' H1 s1:=I1.Ao fun p z=>absurd z (by simp);have J9:Inv Y [] σ' H9 s':=J1.call' (ch:=[]) os un hok bare (fun b z=>absurd z (by simp));obtain⟨m,hm,_⟩:=J9.loc;have fpk:lu X pins H9 C:=I3.Np (uB hC) J9.free;show ar _ X.A (m6 (.ref ea) X.env) _ _ s';refine RB hst hf hex (toX J9 s'.heap (.refl C _)) (RJ (toX J1 s1.heap (.refl C _)) hex F) fun h' K2 F2 up=>?_;have dX:∃m,h'.Ns C m/\∀h'',dQ C h' h''->∀cenv:Env,cenv.locals=C->ar (aw X.prog X.w) X.A (passOn "comprehension.variables-let-go" (.ref ea) cenv:Sem aa) (fun _ _=>False) X.xe { s' with heap:=h'' }:=⟨m,up.ns hm,fun h'' hs cenv _=>by
       have K3:=K2.turned (t':=s'.toks) (fun b o hb e=>(hs.2 b hb).trans e) fpk.1 fpk.2.1 fpk.2.2.2.1 fpk.2.2.2.2.1 fpk.2.2.2.2.2;have F3:=Ys F2 (up.ns hm) hs;obtain⟨_,oe,vs,a0,_,g2,_,g4,_,_,_,_,_,g10⟩:=id F3;rw[if_pos rfl]at g10;obtain⟨T,_,_,_,t1,_⟩:=g10;unfold passOn;refine ag (eS g2 g4 t1 ?_);rw[if_neg (show ¬((aa.ref T == aa.none)=true) from by simp)];have go:ar (aw X.prog X.w) X.A (do setFlight (.ref ea) cenv.frame;throw (.ref ea):Sem aa) (fun _ _=>False) X.xe { s' with heap:=h'' }:=ag (RG K3 F3 fun h3 K4 F4=>qE (hp pins σ H9 _ ea c' n true K4 F4 (hcd.2 H9 G9 (x2.trans (sr8.en.trans x9)))))
       first|exact go|exact ag (aS go)⟩
      cases use <;> exact dX
     rw[hy]at hcd;have Ij:PP ds ((cW h ft fe (ds.drop (i + 1)) ρ1).bind fun r=>.ok ((Yt++[y])++r)):=by
      cases e:cW h ft fe (ds.drop (i + 1)) ρ1 with
      |ok ys=>rw[e]at hcd;dsimp only[Rs.bind]at hcd ⊢;rw[fN];exact hcd
      |ex c n=>rw[e]at hcd;exact hcd
      |no=>rw[e]at hcd;exact hcd
     have hD9:=e9.hh _ _ hD8;have hG9:=e9.nw _ _ hD8 hG8;have ryl:=ry8.length;have hYl:Yt.length < 1000000:=by
      cases e:cW h ft fe (ds.drop (i + 1)) ρ1 with
      |ok ys =>
       rw[e]at Ij;have:=Ij.1;simp only[dy,ck]at this;lia
      |ex c n=>rw[e]at Ij;have:=Ij.1;lia
      |no=>rw[e]at Ij;exact Ij.elim
     refine gO (tU (X:=Y) _ s9 σ7 H9 (.ref D') [v9] (.ref D') [u9] (fun _ H10=>H10=upd H9 D' (.lst (Oe++[v9]))) I9.jM rfl (.cons r9 .nil) ⟨D',Oe,v9,rfl,rfl,hD9,by rw[<- ryl];exact dA hYl (by rw[ef];decide),rfl⟩) fun _ s10 dF=>?_;obtain⟨_,H10,I10,_,e10⟩:=dF;subst e10;obtain⟨J1,J2,J3⟩:=again I10;refine⟨ds.length - (i + 1),by lia,i + 1,ρ1,σ7,_,G9,Yt++[y],Oe++[v9],J1,J2,J3,(sr8.ext e9).off no7 hD9 hG9 hD2,no7,aQ,hG9,(ry8.mono e9.gg).append (.one ahB),hlt,rfl,by rw[dy];exact vk hyi,Ij⟩
    |false =>
     rw[if_neg (by simp)]at hcd ⊢;obtain⟨J1,J2,J3⟩:=again I8;exact⟨ds.length - (i + 1),by lia,i + 1,ρ1,σ7,H8,G8,Yt,Oe,J1,J2,J3,sr8,no7,hD8,hG8,ry8,hlt,rfl,vn hyi,hcd⟩
  ·have ei:i=ds.length:=by lia
   subst ei;obtain⟨_,no⟩:=yl ds.length G' H' RL.en.gg RL.yK;rw[qA]at hcd;dsimp only[cW,Rs.bind]at hcd;rw[eI]at hcd;have hQ:=hcd.2;refine gO (T.done Y rfl rfl rfl hc ds.length [] s4 σ' H' (fun _ _=>False) I4 (stat fr4) zG (no (bE _))) fun r s5 dF=>?_;obtain⟨hr,I5⟩:=dF;subst hr;obtain⟨m,hm,_⟩:=I5.loc;have fC0:H' C=none:=I5.free;refine hQ D' C H' (upd G' D' (.lst Oe)) s5 _ ?_ ?_ ⟨by cases z:H D' with|none=>rfl|some o=>exact absurd (x2.hh _ _ z) (by rw[hD2];simp),G',Oe,_,x2.trans RL.en,hG4,hD4,rfl,ry4⟩ ⟨m,hm⟩ (I3.Np (uB hC) fC0) (toX I5)
   ·have gg:Same G' (upd G' D' (.lst Oe)):=fun b o z=>by rw[aL (aM z hG4)];exact z
    refine⟨(x2.gg.trans RL.en.gg).trans gg,x2.hh.trans RL.en.hh,fun b o z=>?_,fun b xs z=>?_,fun b o z w=>?_⟩
    ·by_cases e:b=D'
     ·subst e;rw[aQ]at z;cases z;exact hD4
     ·rw[aL e]at z;exact RL.en.gh b o z
    ·by_cases e:b=D'
     ·subst e;rw[hD4]at z;cases z
     ·rw[aL e];exact RL.en.tp b xs z
    ·have z2:=x2.hh b o z;rw[aL (aM z2 hD2)];exact RL.en.nw b o z2 (x2.nw b o z w)
   ·have gg:Same G' (upd G' D' (.lst Oe)):=fun b o z=>by rw[aL (aM z hG4)];exact z
    exact bh.mpr ⟨D',Oe,rfl,.of aQ,ry4.mono gg⟩
 have first:∀tk,Jn ds.length { s2 with heap:=h₁,toks:=tk }:=fun tk=>by have IY':Inv Y [] (nY nt caps σ) (upd H2 s2.heap.objs.size (.lst [])) { s2 with heap:=h₁,toks:=tk }:=IY.tok tk;refine⟨0,cZ nt caps ρ,nY nt caps σ,upd H2 D' (.lst []),G2,[],[],IY',T.keep _ _ _ st2 fun b hb o e=>hk b o (cm _ e),fun b hb=>(afg b hb).1.1,srY,mL,aQ,sr2.en.gh.free hD2,aZ.mpr rfl,d_ _,rfl,bE _,by cases e:cW h ft fe ds (cZ nt caps ρ) <;> (rw[e]at hPP;simpa[e,Rs.bind] using hPP)⟩
 exact codeAny_compStart_list (loop _ _ (first _)) (T.self _ 0 _ _ _ (T.keep _ _ _ st2 fun b hb o e=>hk b o (cm _ e)) (loop _ _ (first _)))
theorem RM{elt:ah}{ifs:List ah}{sc:Scope}{pos:Pos}{N:List Str}{nt:Nat}{caps:List Nat}{h:Tg}{ft:ak->Rs Bool}{fe:ak->Rs D}{fi:ak->Rs (List D)}
  (c:ud X sc N nt caps) (hc:X.calm=true) (hnames:∀y∈sc.names,y.2=.local->sc.names.lookup y.1=some .local) (hi:SI X B W tg iter fi) (hno:lC h)
  (ht:∀s₀ H₀ C ex pins B',SG (eH X N s₀ H₀ sc (fY sc X.env) C ex pins) B' tg h)
  (hif:(ifs=[]/\ft=fun _=>.ok true)∨∃c,ifs=[c]/\(∀ρ c n,ft ρ≠.ex c n)/\∀s₀ H₀ C ex pins B',ST (eH X N s₀ H₀ sc (fY sc X.env) C ex pins) B' WF c ft)
  (he:∀s₀ H₀ C ex pins B' E W',nZ ((eH X N s₀ H₀ sc (fY sc X.env) C ex pins).wish E) W'->SE ((eH X N s₀ H₀ sc (fY sc X.env) C ex pins).wish E) B' W' elt fe)
  (hx:(∀ρ c n,fe ρ≠.ex c n)∨Px X W)
  (hs:∀x,gi iter X.env x=pure x:=by intro _;rfl) :
  SE X B W (.ListComp elt [⟨tg,iter,ifs,0⟩] sc pos) (qL h ft fe nt caps fi):=by
 intro pins s σ H Q I hw;obtain⟨ρ,G,sr,p⟩:=hw;rw[eval_ListComp];refine zF c hc hnames hi hno ht hif he hx hs I sr ?_;cases e:qL h ft fe nt caps fi ρ with
 |ok d =>
  rw[e]at p;intro D' C H' G' s5 fl x r _ ⟨m,hm⟩ _ IX;exact⟨m,hm,fun h' hs'=>⟨.ref D',H',IX h' hs',rfl,p _ _ _ x r⟩⟩
 |ex c n=>rw[e]at p;exact p
 |no=>rw[e]at p;exact p
noncomputable def tN(K:ai)(B:Bs)(W:Wi)(f:ak->Rs D):TE:=fun σ H Q=>∃ρ G,SR K B σ H ρ G/\(match f ρ with
 | .ok d=>∀a H',acw K G H a H' d->Q (.ref a) H'
 | .ex c n=>∀H' G',Ext G H G' H'->W c n σ H'
 | .no=>False)
theorem RN{elt:ah}{ifs:List ah}{sc:Scope}{pos:Pos}{N:List Str}{nt:Nat}{caps:List Nat}{h:Tg}{ft:ak->Rs Bool}{fe:ak->Rs D}{fi:ak->Rs (List D)}
  (c:ud X sc N nt caps) (hc:X.calm=true) (hnames:∀y∈sc.names,y.2=.local->sc.names.lookup y.1=some .local) (hi:SI X B W tg iter fi) (hno:lC h)
  (ht:∀s₀ H₀ C ex pins B',SG (eH X N s₀ H₀ sc (fY sc X.env) C ex pins) B' tg h)
  (hif:(ifs=[]/\ft=fun _=>.ok true)∨∃c,ifs=[c]/\∀s₀ H₀ C ex pins B',ST (eH X N s₀ H₀ sc (fY sc X.env) C ex pins) B' WF c ft)
  (he:∀s₀ H₀ C ex pins B',SE (eH X N s₀ H₀ sc (fY sc X.env) C ex pins) B' WF elt fe)
  (hs:∀x,gi iter X.env x=pure x:=by intro _;rfl) :
  PE X (.ListComp elt [⟨tg,iter,ifs,0⟩] sc pos) (tN X.K B W (fu h ft fe nt caps fi)):=by
 intro pins s σ H Q I hw;obtain⟨ρ,G,sr,p⟩:=hw;rw[KR]at p;rw[eval_ListComp];refine zF c hc hnames hi hno ht (hif.imp (fun⟨a,b⟩=>⟨a,by rw[b];rfl⟩) fun⟨c,a,b⟩=>⟨c,a,fun _ _ _=>Bt,fun s₀ H₀ C ex pins B'=>KZ (b s₀ H₀ C ex pins B')⟩) (fun s₀ H₀ C ex pins B' E W' _=>KY (he s₀ H₀ C ex pins B')) (.inl fun _ _ _=>Bt) hs I sr ?_;cases e:qL h (fun ρ=>jt (ft ρ)) (fun ρ=>jt (fe ρ)) nt caps fi ρ with
 |ok d =>
  rw[e]at p;intro D' C H' G' s5 fl x r nl ⟨m,hm⟩ _ IX;exact⟨m,hm,fun h' hs'=>⟨.ref D',H',IX h' hs',rfl,p D' H' nl⟩⟩
 |ex c n=>rw[e]at p;exact p
 |no=>rw[e]at p;exact p
theorem La{elt:ah}{ifs:List ah}{sc:Scope}{pos:Pos}{N:List Str}{nt:Nat}{caps:List Nat}{h:Tg}{ft:ak->Rs Bool}{fe:ak->Rs D}{fi:ak->Rs (List D)}
  (c:ud X sc N nt caps) (hc:X.calm=true) (hnames:∀y∈sc.names,y.2=.local->sc.names.lookup y.1=some .local) (hi:SI X B W tg iter fi) (hno:lC h)
  (ht:∀s₀ H₀ C ex pins B',SG (eH X N s₀ H₀ sc (fY sc X.env) C ex pins) B' tg h)
  (hif:(ifs=[]/\ft=fun _=>.ok true)∨∃c,ifs=[c]/\∀s₀ H₀ C ex pins B',ST (eH X N s₀ H₀ sc (fY sc X.env) C ex pins) B' WF c ft)
  (he:∀s₀ H₀ C ex pins B',SE (eH X N s₀ H₀ sc (fY sc X.env) C ex pins) B' WF elt fe)
  (hs:∀x,gi iter X.env x=pure x:=by intro _;rfl) :
  SE X B W (.ListComp elt [⟨tg,iter,ifs,0⟩] sc pos) (fu h ft fe nt caps fi):=by
 rw[KR];exact RM c hc hnames hi hno ht (hif.imp (fun⟨a,b⟩=>⟨a,by rw[b];rfl⟩) fun⟨c,a,b⟩=>⟨c,a,fun _ _ _=>Bt,fun s₀ H₀ C ex pins B'=>KZ (b s₀ H₀ C ex pins B')⟩) (fun s₀ H₀ C ex pins B' E W' _=>KY (he s₀ H₀ C ex pins B')) (.inl fun _ _ _=>Bt) hs
end
section
variable{X:Cx}{K:ai}{B:Bs}{W:Wi}{σ:St}{G H:Hp}{ρ:ak}{a b:ah}{pos p:Pos}{fa fb:ak->Rs D}
noncomputable def afi(K:ai)(n:Nat):R2:=fun x y H Q=>∃d d',Rep K H d x/\Rep K H d' y/\fW d<=n/\fW d'<=n/\Q (.bl (lR d d')) H
noncomputable def afj(K:ai)(n:Nat):R2:=fun x y H Q=>∃d d',Rep K H d x/\Rep K H d' y/\fW d<=n/\fW d'<=n/\Q (.bl (!lR d d')) H
theorem RQ{n:Nat}(hu:X.A.units + n < bS):qH X (gz .Eq) (afi X.K n):=by intro pins s σ H x y v u Q I rx ry ⟨d,d',r,r',hd,hd',q⟩;exact abV I hd hd' hu r r' rx ry X.prog X.w X.xe _ ⟨.bl _,H,I,rfl,q⟩
theorem acy{n:Nat}(hu:X.A.units + n < bS):qH X (gz .NotEq) (afj X.K n):=by intro pins s σ H x y v u Q I rx ry ⟨d,d',r,r',hd,hd',q⟩;exact QZ I hd hd' hu r r' rx ry X.prog X.w X.xe _ ⟨.bl _,H,I,rfl,q⟩
noncomputable def uL:D->D->Rs D:=fun x y=>if fW x<=8/\fW y<=8 then .ok (.bl (lR x y)) else .no
noncomputable def Xd:D->D->Rs D:=fun x y=>if fW x<=8/\fW y<=8 then .ok (.bl (!lR x y)) else .no
theorem RT:Qf K (afi K 8) uL:=by
 intro B W σ ρ G H x y v u Q s rx ry p;unfold uL at p;by_cases h:fW x<=8/\fW y<=8
 ·rw[if_pos h]at p;exact⟨x,y,rx.mono s.en.gh,ry.mono s.en.gh,h.1,h.2,Post.ok s p (cB.mpr rfl)⟩
 ·rw[if_neg h]at p;exact p.elim
theorem acz:Qf K (afj K 8) Xd:=by
 intro B W σ ρ G H x y v u Q s rx ry p;unfold Xd at p;by_cases h:fW x<=8/\fW y<=8
 ·rw[if_pos h]at p;exact⟨x,y,rx.mono s.en.gh,ry.mono s.en.gh,h.1,h.2,Post.ok s p (cB.mpr rfl)⟩
 ·rw[if_neg h]at p;exact p.elim
theorem cP{k:Nat}(hr:iB k X.A):X.A.units + 8 < bS:=by have:=hr.un;lia
theorem Lb(hu:X.A.units + 8 < bS)(ha:SE X B W a fa)(hb:SE X B W b fb):SE X B W (.Compare a [.Eq] [b] pos) (aV uL fa fb):=Rf (RQ hu) RT ha hb (tR _)
theorem EY(hu:X.A.units + 8 < bS)(ha:SE X B W a fa)(hb:SE X B W b fb):ST X B W (.Compare a [.Eq] [b] pos) (fT (aV uL fa fb)):=qI (RQ hu) RT ha hb (tR _)
theorem aas(hu:X.A.units + 8 < bS)(ha:SE X B W a fa)(hb:SE X B W b fb):ST X B W (.Compare a [.NotEq] [b] pos) (fT (aV Xd fa fb)):=qI (acy hu) acz ha hb (tR _)
noncomputable def Xe:=gI0 fun i j=>D.bl (decide (i < j))
noncomputable def gLe:=gI0 fun i j=>D.bl (decide (i<=j))
noncomputable def gGt:=gI0 fun i j=>D.bl (decide (j < i))
noncomputable def gGe:=gI0 fun i j=>D.bl (decide (j<=i))
theorem Ld(ha:SE X B W a fa)(hb:SE X B W b fb):ST X B W (.Compare a [.Lt] [b] pos) (fT (aV Xe fa fb)):=qI aeJ (vW fun _ _ _=>cB.mpr rfl) ha hb (tR _)
theorem aat(ha:SE X B W a fa)(hb:SE X B W b fb):ST X B W (.Compare a [.Gt] [b] pos) (fT (aV gGt fa fb)):=qI aeK (vW fun _ _ _=>cB.mpr rfl) ha hb (tR _)
theorem afl(ha:SE X B W a fa)(hb:SE X B W b fb):ST X B W (.Compare a [.GtE] [b] pos) (fT (aV gGe fa fb)):=qI aeL (vW fun _ _ _=>cB.mpr rfl) ha hb (tR _)
inductive Ty where
 |int|bool|str|tuple|list|dict
noncomputable def Ty.nm:Ty->String
 | .int=>"int"|.bool=>"bool"|.str=>"str"|.tuple=>"tuple"|.list=>"list"|.dict=>"dict"
noncomputable def isD:D->Ty->Bool
 | .int _,.int=>true
 | .bl _,.bool=>true
 | .bl _,.int=>true
 | .str _,.str=>true
 | .tup _,.tuple=>true
 | .lst _,.list=>true
 |_,_=>false
noncomputable def tyD:D->String
 | .non=>"NoneType"|.bl _=>"bool"|.int _=>"int"|.str _=>"str"|.tup _=>"tuple"|.lst _=>"list"|.zu _ _=>""|.zx _ _=>""|.fn _=>""|.obj _ _ _=>""
noncomputable def isX:D->Bool
 | .zu _ _=>true
 | .zx _ _=>true
 | .fn _=>true
 | .obj _ _ _=>true
 |_=>false
theorem afn(d:D)(t:Ty)(hx:isX d=false):PySem.W.kitOne K (.type (tyD d)) (.type t.nm)=some (isD d t):=by
 cases d <;> first|(cases hx;done)|(cases t <;> kernel_rfl)
theorem acA{pins:List (ae×Obj)}{s:af}{A:aT}{E Q:aa->af->Prop}{d:D}{v:V}{u:aa}{t:Ty}(I:Inv X pins σ H s)(hx:isX d=false)(r:Rep X.K H d v)(rv:RelV v u)(h:∀tk,Q (.bool (isD d t)) { s with toks:=tk }) :
  ar (aw X.prog X.w) A (call (.builtin "isinstance") [u,.type t.nm]) Q E s:=by
 have e:=afn (K:=X.K) d t hx;cases d with
 |non=>rw[jh.mp r]at rv;cases rv;exact m9 PySem.W.kitx_none I.DY True.intro e (fun z=>nomatch z) h
 |bl y=>rw[cB.mp r]at rv;cases rv;exact m9 PySem.W.kitx_bool I.DY True.intro e (fun z=>nomatch z) h
 |int i=>rw[aU.mp r]at rv;obtain⟨t,rfl⟩:=rv;exact m9 PySem.W.kitx_int I.DY True.intro e (fun z=>nomatch z) h
 |str i=>rw[mK.mp r]at rv;obtain⟨t,rfl⟩:=rv;exact m9 PySem.W.kitx_str I.DY True.intro e (fun z=>nomatch z) h
 |tup ds =>
  obtain⟨a,vs,rfl,q,_⟩:=bD.mp r;cases rv;obtain⟨_,_,⟨o,h1,h2,_⟩,_⟩:=I.tuple q;exact m9 PySem.W.kitx_tuple I.DY ⟨o,h1,h2⟩ e (fun z=>nomatch z) h
 |lst ds =>
  obtain⟨a,vs,rfl,q,_⟩:=bh.mp r;cases rv;obtain⟨_,_,⟨o,n,h1,h2,_⟩,_⟩:=I.list q;exact m9 PySem.W.kitx_list I.DY ⟨o,h1,h2⟩ e (fun z=>nomatch z) h
 |zu c n=>cases hx
 |zx c n=>cases hx
 |fn c=>cases hx
 |obj c n ds=>cases hx
noncomputable def ahD(K:ai)(t:Ty):List V->Hp->VK->Prop:=fun xs H Q=>∃v d,xs=[v,.ty t.nm]/\isX d=false/\Rep K H d v/\Q (.bl (isD d t)) H
theorem RV{t:Ty}:eF X (.builtin "isinstance") (ahD X.K t):=by
 intro pins s σ H xs us Q I r ⟨v,d,e,hx,rd,q⟩;subst e;cases r with
 |cons r1 r2 =>
  cases r2 with
  |cons r3 r4 =>
   cases r4;cases r3;exact acA I hx rd r1 fun tk=>⟨.bl _,H,I.tok tk,rfl,q⟩
noncomputable def Ik(t:Ty):D->Rs D:=fun d=>if isX d=false then .ok (.bl (isD d t)) else .no
theorem afo{t:Ty}{x:Str}{e:ah}{p1 p2:Pos}{f:ak->Rs D}(hm:X.mg "isinstance"=none) (hmt:X.mg x=none) (he:SE X B W e f) (hv:ic x=some (.type t.nm)) (hg:Gl X "isinstance":=by rfl) (hgx:Gl X x:=by rfl)
  (hst:ba [e,.Name x p2] X.env=[(false,bb e X.env),(false,bb (.Name x p2) X.env)]:=by rfl) (hst2:ba [.Name x p2] X.env=[(false,bb (.Name x p2) X.env)]:=by rfl) (hn:x≠"__name__":=by decide) (hd:pK x:=by decide) :
  SE X B W (.Call (.Name "isinstance" p1) [e,.Name x p2] [] pos) (fun ρ=>(f ρ).bind (Ik t)):=by
 refine PE.imp (nP (RV (t:=t)) hg hm PyProof.Rows.boot_isinstance (eG he (eG (Xl (v:=.ty t.nm) hgx hmt hv rfl hn hd) jA (by rw[hst2];rfl)) (by rw[hst,hst2])) (by decide) (by decide) (by rw[hst,hst2]) (by rw[hst2];rfl)) fun σ H Q h=>?_;obtain⟨ρ,G,s,p⟩:=pP (k:=fun _=>Ik t) h;refine⟨ρ,G,s,p.mono fun v H1 ⟨ρ1,G1,d,s1,r,q⟩=>?_⟩;unfold Ik at q;by_cases hx:isX d=false
 ·rw[if_pos hx]at q;exact⟨v,d,rfl,hx,r.mono s1.en.gh,Post.ok s1 q (cB.mpr rfl)⟩
 ·rw[if_neg hx]at q;exact q.elim
noncomputable def wB:List D->Option (List Bool)
 | []=>some []
 | .bl b::ds=>(wB ds).map (b::·)
 |_=>none
theorem wC:∀{ds:List D}{vs:List V}{bs:List Bool},bA K G ds vs->wB ds=some bs->vs=bs.map V.bl
 | [],_,bs,r,e=>by cases e;rw[aZ.mp r];rfl
 | .bl b::ds,_,bs,r,e=>by
  obtain⟨v,vs',rfl,r1,r2⟩:=aG.mp r;simp only[wB]at e;cases e1:wB ds with
  |none=>rw[e1]at e;cases e
  |some cs=>rw[e1]at e;cases e;rw[cB.mp r1,wC r2 e1];rfl
 | .non::_,_,_,_,e=>by cases e
 | .int _::_,_,_,_,e=>by cases e
 | .str _::_,_,_,_,e=>by cases e
 | .tup _::_,_,_,_,e=>by cases e
 | .lst _::_,_,_,_,e=>by cases e
 | .zu _ _::_,_,_,_,e=>by cases e
 | .zx _ _::_,_,_,_,e=>by cases e
 | .fn _::_,_,_,_,e=>by cases e
 | .obj _ _ _::_,_,_,_,e=>by cases e
theorem wD:∀{bs:List Bool}{us:List aa},Vals (bs.map V.bl) us->us=bs.map aa.bool
 | [],_,.nil=>rfl
 |b::bs,_,.cons r t=>by rw[wD t];cases r;rfl
theorem Og(bs:List Bool):(b_ bs.length).all (fun i=>bs.getD i false)=bs.all id:=by
 induction bs with
 |nil=>rfl
 |cons b bs ih =>
  rw[ck,mS,uC,List.all_map,uC,<- ih];simp[qs]
theorem Fb{prog:aI}{w:az}{A:aT}(bs:List Bool):TruthOf prog w A (fun i v=>(bs.map aa.bool).toArray[i]?=some v) fun i=>bs.getD i false:=by
 intro i v s Q E hP hQ;have hP':(bs.map aa.bool)[i]?=some v:=by simpa using hP
 rw[cK]at hP';cases e:bs[i]? with
 |none=>rw[e]at hP';cases hP'
 |some b =>
  rw[e]at hP';cases hP';dsimp only at hQ;rw[gm,e]at hQ;exact og hQ
theorem Oh(hc:X.calm=true):eF X (.builtin "all") (fun xs H Q=>∃(p:ae) (bs:List Bool),xs=[.ref p]/\jz X.K H p (bs.map V.bl)/\Q (.bl (bs.all id)) H):=by
 intro pins s σ H xs us Q I r ⟨p,bs,e,q,k⟩;subst e;obtain⟨u,rfl,rx⟩:=r.one;cases rx;obtain⟨its,rv,pl,_⟩:=I.list q;have ei:=wD rv;subst ei;refine call_all_walk (uj pl.isList ?_);refine⟨_,_,_,_,_,_,fun i=>bs.getD i false,rfl,Walks.list (by show X.A.handled=none;exact I.ok.hd hc) _ p (cn (by obtain⟨o,_,e,_⟩:=pl;exact bu e)) (bs.map aa.bool).toArray,⟨⟨_,cE _ rfl,rfl,rfl⟩,pl.isList.push _⟩,Fb bs,fun h' tk hk=>?_⟩;have e:(b_ (bs.map aa.bool).toArray.size).all (fun i=>bs.getD i false)=bs.all id:=by rw[cy,cw];exact Og bs
 rw[e];refine⟨.bl _,H,I.kept (t':=tk) (h':=h') fun b o z=>hk b o ?_ (cm _ z),rfl,k⟩;intro hb;have:b=s.heap.objs.size:=by simpa using hb
 rw[this]at z;exact absurd (bu z) (eQ _)
noncomputable def Oi:List D->Rs D
 | [.lst ds]=>match wB ds with|some bs=>.ok (.bl (bs.all id))|none=>.no
 |_=>.no
theorem acB:nD K (fun xs H Q=>∃(p:ae) (bs:List Bool),xs=[.ref p]/\jz K H p (bs.map V.bl)/\Q (.bl (bs.all id)) H) Oi:=by
 intro B W σ ρ G H ds vs Q s r p;unfold Oi at p;split at p
 ·rename_i es;split at p
  ·rename_i bs e;obtain⟨v,vs',rfl,r1,r2⟩:=aG.mp r;obtain⟨a,us,rfl,q,rr⟩:=bh.mp r1;rw[aZ.mp r2];have e2:=wC rr e;subst e2;exact⟨a,bs,rfl,s.en.gh.seq q,Post.ok s p (cB.mpr rfl)⟩
  ·exact p.elim
 ·exact p.elim
end
section
variable{X:Cx}{pins:List (ae×Obj)}{σ:St}{H:Hp}{s:af}{ea:ae}{c:Str}{n:Int}{tr:Bool}
end
section
variable{X:Cx}{pins:List (ae×Obj)}{σ:St}{H:Hp}{s:af}{ea:ae}
end
end Vl
namespace Vl
open PySem PySem.Spec PySem.Calls PySem.W L2
section
variable{K:ai}
end
section
variable{X:Cx}{B:Bs}{W:Wi}
end
noncomputable def qu:ak->Ou:=fun ρ=>.nx ρ
noncomputable def bG(g k:ak->Ou):ak->Ou:=fun ρ=>Rq (g ρ) k
noncomputable def gR(f:ak->Rs D):ak->Ou:=fun ρ=>oR (f ρ) ρ .rt
noncomputable def Il(f:ak->Rs D):ak->Ou:=fun ρ=>oR (f ρ) ρ fun _=>.nx ρ
noncomputable def ou(c:ak->Rs Bool)(a b:ak->Ou):ak->Ou:=fun ρ=>oR (c ρ) ρ fun x=>if x=true then a ρ else b ρ
noncomputable def lD(f:ak->Rs D)(h:Tg):ak->Ou:=fun ρ=>oR (f ρ) ρ fun d=>oO (h d ρ)
noncomputable def ju(i:Nat)(f:ak->Rs D):ak->Ou:=fun ρ=>oR (f ρ) ρ fun d=>.nx (ρ.set i (.fz d))
noncomputable def RW(x:Str)(fs:ak->Rs (List D)):ak->Ou:=fun ρ=>oR (fs ρ) ρ fun ds=>if ds.length<=1000 then .ex x 0 ρ else .no
noncomputable def jC(g:ak->Ou):ak->Ou:=fun ρ=>Rt (g ρ)
noncomputable def wF(f:ak->Rs D):ak->Rs D:=fun ρ=>(f ρ).bind Yb
noncomputable def fB(f:ak->Rs D)(g:D->Rs D):ak->Rs D:=fun ρ=>(f ρ).bind g
noncomputable def fL(f:ak->Rs D)(g:D->Rs (List D)):ak->Rs (List D):=fun ρ=>(f ρ).bind g
section
variable{X:Cx}{B:Bs}{W:Wi}
theorem cG:tE X B W [] qu:=acg
theorem aH{st:bo}{rest:List bo}{g k:ak->Ou}(h1:SS X B W st g)(h2:tE X B W rest k):tE X B W (st::rest) (bG g k):=Ye h1 h2
theorem aW{st:bo}{g:ak->Ou}(h1:SS X B W st g):tE X B W [st] g:=ach h1
theorem cH{e:ah}{pos}{f:ak->Rs D}(h:SE X B W e f):SS X B W (.Return (some e) pos) (gR f):=aci h
theorem acC{e:ah}{pos:Pos}{f:ak->Rs D}(h:SE X B W e f)(hs:eD e none pos.line X.env=pure false:=by rfl):SS X B W (.Expr e pos) (Il f):=Yg h hs
theorem fD{c:ah}{a b:List bo}{pos:Pos}{fc:ak->Rs Bool}{ga gb:ak->Ou}(hc:ST X B W c fc)(ha:tE X B W a ga)(hb:tE X B W b gb):SS X B W (.If c a b pos) (ou fc ga gb):=aeZ hc ha hb
theorem iD{tg e:ah}{pos:Pos}{f:ak->Rs D}{h:Tg}(he:SE X B W e f)(hg:SG X B tg h)(hs:oi [tg] e pos.line X.env=pure false:=by rfl)(hw:oj [tg] e X.env=pure none:=by rfl)
  (h1:(f9 [tg] X.env).map (·.2)=[assign tg X.env]:=by rfl):SS X B W (.Assign [tg] e pos) (lD f h):=acj he hg hs hw h1
theorem fZ(i:Nat){x:Str}{e:ah}{pos pos':Pos}{f:ak->Rs D}(hN:X.N.Nodup)(he:SE X B W e f)(hi:X.N[i]?=some x:=by rfl)(hx:Kg X.env.scope x:=by first|exact Or.inl rfl|exact Or.inr rfl)(hs:eD e (some (.Name x pos')) pos.line X.env=pure false:=by rfl)(hf:X.fn x=true∨X.env.scope.names.lookup x=some .local:=by first|exact .inl rfl|exact .inr rfl|assumption) :
  SS X B W (.Assign [.Name x pos'] e pos) (ju i f):=acn hN hi hx he hs hf
theorem je{st:bo}{g:ak->Ou}(h:SS X.Xn B WF st g):SS X B W st (jC g):=acq h
theorem Bv{a:ah}{pos:Pos}{fa:ak->Rs D}(ha:SE X B W a fa):SE X B W (.UnaryOp .USub a pos) (wF fa):=abZ ha
theorem rg(i:Nat){x:Str}{pos:Pos}(hN:X.N.Nodup)(hi:X.N[i]?=some x:=by rfl)(hx:Kg X.env.scope x:=by first|exact Or.inl rfl|exact Or.inr rfl)(hf:X.fn x=true∨X.env.scope.names.lookup x=some .local:=by first|exact .inl rfl|exact .inr rfl|assumption):SG X B (.Name x pos) (aK i) :=
 Yh hN hi hx hf
theorem oA{t:Ty}{x:Str}{e:ah}{p1 p2 pos:Pos}{f:ak->Rs D}(hm:X.mg "isinstance"=none) (hmt:X.mg x=none) (he:SE X B W e f) (hv:ic x=some (.type t.nm)) (hg:Gl X "isinstance":=by rfl) (hgx:Gl X x:=by rfl)
  (hst:ba [e,.Name x p2] X.env=[(false,bb e X.env),(false,bb (.Name x p2) X.env)]:=by rfl) (hst2:ba [.Name x p2] X.env=[(false,bb (.Name x p2) X.env)]:=by rfl) (hn:x≠"__name__":=by decide) (hd:pK x:=by decide) :
  SE X B W (.Call (.Name "isinstance" p1) [e,.Name x p2] [] pos) (fB f (Ik t)):=afo hm hmt he hv hg hgx hst hst2 hn hd
theorem Bw{tg iter:ah}{f:ak->Rs D}(hi:SE X B W iter f):SI X B W tg iter (fL f asL):=Yq hi
theorem RX{tg iter:ah}{f:ak->Rs D}(hi:SE X B W iter f):SI X B W tg iter (fL f asT):=acv hi
theorem acD{e:ah}{p pos:Pos}{fa:ak->Rs D}(hc:X.calm=true) (hm:X.mg "all"=none) (ha:SE X B W e fa) (hg:Gl X "all":=by rfl) (he:ba [e] X.env=[(false,bb e X.env)]:=by rfl):SE X B W (.Call (.Name "all" p) [e] [] pos) (fA (aj fa aO) Oi) :=
 jP (Oh hc) acB hg hm rfl (aD ha aR he) (by decide) (by decide) he rfl
theorem cN{e e':ah}{p pos:Pos}{fa fb:ak->Rs D}(hm:X.mg "divmod"=none) (ha:SE X B W e fa) (hb:SE X B W e' fb) (hg:Gl X "divmod":=by rfl) (he:ba [e,e'] X.env=[(false,bb e X.env),(false,bb e' X.env)]:=by rfl) (he':ba [e'] X.env=[(false,bb e' X.env)]:=by rfl) :
  SE X B W (.Call (.Name "divmod" p) [e,e'] [] pos) (fA (aj fa (aj fb aO)) DN) :=
 jP Bp aeY hg hm rfl (aD ha (aD hb aR he') (by rw[he,he'])) (by decide) (by decide) (by rw[he,he']) (by rw[he'];rfl)
end
noncomputable def ql(P:aI)(w:az)(K:ai)(mg:Str->Option aa)(base:ay)(x:Str)(k n:Nat)(v:List D->Rs D):Prop :=
 ∃f fd ps,nO P w K mg base (uf P w K) k f fd ps (Yj K n v)/\mg x=some (.ref f)/\ij K (.ref f)=true/\Binds K fd ps []
theorem acE{P:aI}{w:az}{K:ai}{mg:Str->Option aa}{base:ay}{x:Str}{st:bo}{f:ae}{fd:dn}{N ps:List Str}{k:Nat}{g:ak->Ou}(F:Fun K x x st f fd)(hm:mg x=some (.ref f))(S:bJ N ps (aF st))
  (hbi:∀(kV doc pm:aa) (an:Option ae) (cdv ct:aa) (us:List aa),us.length=ps.length->bindArgs (iL x x (fO st) (cu st) (aF st) .none kV doc pm an cdv ct) ⟨us,[]⟩=pure (ps.zip us))
  (hb:∀(cdv:aa) (A:aT) (outer:List Env) (s:af) (H:Hp) (E:XK) (B:Bs),iB k (A.deeper (lT x (aF st) s.heap.objs.size f cdv)) ->
   nZ (nH (uf P w K) P w K mg base N x (aF st) f cdv A outer s H E) (fun c n _ H'=>E (uU c n) none H') ->
   tE (nH (uf P w K) P w K mg base N x (aF st) f cdv A outer s H E) B (fun c n _ H'=>E (uU c n) none H') (cu st) g) :
  ql P w K mg base x (k + 1) ps.length (fun ds=>dX (g (aY N ds))) :=
 ⟨f,fd,ps,afe F S fun cdv A outer s H E B hr=>hb cdv A outer s H E B hr (oh jd rfl),hm,F.kp,F.binds hbi⟩
section
variable{X:Cx}{B:Bs}{W:Wi}
theorem cJ{x:Str}{p pos:Pos}{e:ah}{es:List ah}{fs:ak->Rs (List D)}{k n kr:Nat}{g:List D->Rs D}(O:ql X.prog X.w X.K X.mg X.base x k n g)(hr:iB kr X.A)(hx:nZ X W)(ha:SA X B W (e::es) fs)(hg:Gl X x:=by rfl)(hdb:pK x:=by decide)
  (he:ba (e::es) X.env=(false,bb e X.env)::ba es X.env:=by rfl) (hpl:(df pos (ba es X.env)).any (·.1)=false:=by rfl) (Xf:k<=kr:=by decide):SE X B W (.Call (.Name x p) (e::es) [] pos) (fA fs (bU n g)):=by
 obtain⟨f,fd,ps,F,hm,hk,hb⟩:=O;exact Yo F (hr.mono Xf) hg hm hk hb hx ha hdb he hpl
end
section
variable{X:Cx}{B:Bs}{W:Wi}
end
end Vl
namespace Vl
open PySem PySem.Spec PySem.W L2
section
variable{X:Cx}{B:Bs}{W:Wi}{σ:L2.St}{H:Hp}{K:ai}
end
end Vl
namespace Vl
open PySem PySem.Spec PySem.Calls PySem.W L2
noncomputable def aau(S sc:Scope)(NX N:List Str)(nt:Nat)(caps:List Nat):Bool :=
 decide (sc.kind=.function) && sc.names.all (fun y=>y.2 != .cell) && sc.names.all (fun y=>y.2 != .free || S.names.lookup y.1 == some .cell || S.names.lookup y.1 == some .free) && decide (N.length=nt + caps.length) &&
  (b_ caps.length).all fun j=>match caps[j]?,N[nt + j]? with|some i,some x=>NX[i]? == some x && sc.names.lookup x == some .free|_,_=>true
theorem rK{X:Cx}{sc:Scope}{N:List Str}{nt:Nat}{caps:List Nat}(S:Scope)(NX:List Str)(h:aau S sc NX N nt caps=true)(hS:X.env.scope=S:=by rfl)(hX:X.N=NX:=by rfl):ud X sc N nt caps:=by
 unfold aau at h;simp only[lS,decide_eq_true_eq,oB,bne_iff_ne,l4,beq_iff_eq,ne_eq]at h;obtain⟨⟨⟨⟨h1,h2⟩,h3⟩,h4⟩,h5⟩:=h;refine⟨h1,fun y hy=>h2 y hy,fun y hy hf=>?_,h4,fun j i x e1 e2=>?_⟩
 ·have:=h3 y hy;unfold Env.kindOf;rw[hS];rcases this with (h|h)|h
  ·exact absurd hf h
  ·exact .inl h
  ·exact .inr h
 ·have:=h5 j (by rw[fw];exact(dm.mp e1).1);rw[e1,e2]at this;simp only[lS,beq_iff_eq]at this;rw[hX];exact this
theorem jK{i:Nat}:lC (aK i):=by
 intro d ρ ρ' no e j ds q;unfold aK at e;cases e;by_cases c:i=j
 ·subst c;have hl:i < ρ.length:=by have:=(dm.mp q).1;simpa using this
  rw[dC hl]at q;cases q;exact fun w=>by cases w
 ·rw[de c]at q;exact no j ds q
noncomputable def vh(h:List D->ak->Option ak):Prop:=∀ds ρ ρ',Ii ρ->h ds ρ=some ρ'->Ii ρ'
theorem RZ:vh kJ:=fun ds ρ ρ' no e=>by
 cases ds with
 |nil=>cases e;exact no
 |cons _ _=>cases e
theorem zH{h:Tg}{k:List D->ak->Option ak}(h1:lC h)(h2:vh k):vh (bR h k):=fun ds ρ ρ' no e=>by
 cases ds with
 |nil=>cases e
 |cons d ds =>
  simp only[bR]at e;cases e1:h d ρ with
  |none=>rw[e1]at e;cases e
  |some ρ1=>rw[e1]at e;exact h2 ds ρ1 ρ' (h1 d ρ ρ1 no e1) e
theorem Sd{n:Nat}{k:List D->ak->Option ak}(h:vh k):lC (jG n k):=fun d ρ ρ' no e=>by
 cases d with
 |tup ds =>
  simp only[jG]at e;split at e
  ·exact h ds ρ ρ' no e
  ·cases e
 |_=>cases e
theorem Le{X:Cx}{B:Bs}{W:Wi}{tg iter:ah}{elt:ah}{sc:Scope}{pos:Pos}{N:List Str}{nt:Nat}{caps:List Nat}{h:Tg}{fe:ak->Rs D}{fi:ak->Rs (List D)}
  (c:ud X sc N nt caps) (hc:X.calm=true) (hnames:sc.names.all (fun y=>y.2 != .local || sc.names.lookup y.1 == some .local)=true) (hi:SI X B W tg iter fi) (hno:lC h)
  (ht:∀s₀ H₀ C ex pins B',SG (eH X N s₀ H₀ sc (fY sc X.env) C ex pins) B' tg h)
  (he:∀s₀ H₀ C ex pins B',SE (eH X N s₀ H₀ sc (fY sc X.env) C ex pins) B' WF elt fe)
  (hs:∀x,gi iter X.env x=pure x:=by intro _;rfl) :
  SE X B W (.ListComp elt [⟨tg,iter,[],0⟩] sc pos) (fu h (fun _=>.ok true) fe nt caps fi) :=
 La c hc (fun y hy hl=>by
  have:=oB.mp hnames y hy;simp only[l4,bne_iff_ne,beq_iff_eq,ne_eq]at this;exact this.elim (fun z=>absurd hl z) id) hi hno ht (.inl ⟨rfl,rfl⟩) he hs
theorem zJ{X:Cx}{B:Bs}{W:Wi}{tg iter:ah}{elt cnd:ah}{sc:Scope}{pos:Pos}{N:List Str}{nt:Nat}{caps:List Nat}{h:Tg}{ft:ak->Rs Bool}{fe:ak->Rs D}{fi:ak->Rs (List D)}
  (c:ud X sc N nt caps) (hc:X.calm=true) (hnames:sc.names.all (fun y=>y.2 != .local || sc.names.lookup y.1 == some .local)=true) (hi:SI X B W tg iter fi) (hno:lC h)
  (ht:∀s₀ H₀ C ex pins B',SG (eH X N s₀ H₀ sc (fY sc X.env) C ex pins) B' tg h)
  (hif:∀s₀ H₀ C ex pins B',ST (eH X N s₀ H₀ sc (fY sc X.env) C ex pins) B' WF cnd ft)
  (he:∀s₀ H₀ C ex pins B',SE (eH X N s₀ H₀ sc (fY sc X.env) C ex pins) B' WF elt fe)
  (hs:∀x,gi iter X.env x=pure x:=by intro _;rfl) :
  SE X B W (.ListComp elt [⟨tg,iter,[cnd],0⟩] sc pos) (fu h ft fe nt caps fi) :=
 La c hc (fun y hy hl=>by
  have:=oB.mp hnames y hy;simp only[l4,bne_iff_ne,beq_iff_eq,ne_eq]at this;exact this.elim (fun z=>absurd hl z) id) hi hno ht (.inr ⟨cnd,rfl,hif⟩) he hs
noncomputable def acF(i j:Nat)(fs:ak->Rs (List D)):ak->Ou:=fun ρ=>oR (fs ρ) ρ fun ds=>match ds with
 | [d,e]=>.nx ((ρ.set i (.fz d)).set j (.fz e))
 |_=>.no
theorem Fd{K:di}(C:ae):kitOne K (.ref C) (.ref C)=some true:=by unfold kitOne;rw[if_pos (by simp)]
theorem acG{l:mM}{k:Nat}{q:aI}{loose:List Str}{XP:(Str->Option aa)->ay->Prop}{YP:az->ay->Prop}{d:DefRec}{K:Params->di}{v:List D->Rs D}(hn:l.most=some 63)(hdf:d.params.defaults=[])(hr:iB k ku)
  (hY:∀(w:az) (h:ay),YP w h->(K w.params).In h) (ahG:∀w:az,abS (K w.params)=[]) (hv:∀ns:List Int,ns.length<=63->v [.lst (ns.map D.int)]=.ok (.bl true))
  (F:∀(w:az) (mg:Str->Option aa) (fa:ae) (h:ay),(K w.params).In h->h.Ns cq mg->mg d.name=some (.ref fa) ->
   ∃fd:dn,(∀(s:af) (u:aa),i_ s fd ⟨[u],[]⟩ [("script",u)])/\∀base:ay,(K w.params).In base->base.Ns cq mg->nO l.prog w (K w.params) mg base (uf l.prog w (K w.params)) k fa fd ["script"] (Yj (K w.params) 1 v)) :
  WalkO q loose XP YP l.row.toRowW d [] (fun f vs=>PySem.call f vs):=by
 refine L2.XF (n:=63) (k:=k) (x:="script") (CX:=fun w=>uf l.prog w (K w.params)) (sp:=fun w=>Yj (K w.params) 1 v) hn (by decide) hdf hr hY F (fun w H a ns hl _ hS=>?_) fun w H s e s' h=>?_
 ·refine⟨rfl,H,[.lst (ns.map D.int)],⟨.refl (.refl _) (fun _ _ e=>e),fun x m=>by rw[ahG]at m;cases m⟩,bA.one (bh.mpr ⟨a,_,rfl,hS,tV ns⟩),?_⟩;rw[hv ns hl];exact fun u H' G' _ r=>cB.mp r
 ·obtain⟨_,_,_,_,_,_,_,_,_,_,z⟩:=h;exact z.elim
section
variable{ρ ρ1:ak}{d x y z:D}{f fa fb:ak->Rs D}{g k a b:ak->Ou}{r:Ou}{ds:List D}{fs:ak->Rs (List D)}{c c1 c2:ak->Rs Bool}{t u:Bool}{i j:Nat}
theorem aN(h:g ρ=.nx ρ1)(h2:k ρ1=r):bG g k ρ=r:=by unfold bG;rw[h];exact h2
theorem Bx(h:g ρ=.rt d):bG g k ρ=.rt d:=by unfold bG;rw[h];rfl
theorem bT:fC d ρ=.ok d:=rfl
theorem aq(h:ρ[i]?=some (.fz d)):ao i ρ=.ok d:=by unfold ao;rw[h]
theorem bf{o:D->D->Rs D}{r:Rs D}(h1:fa ρ=.ok x)(h2:fb ρ=.ok y)(h3:o x y=r):aV o fa fb ρ=r:=by unfold aV;rw[h1];show(fb ρ).bind _=_;rw[h2];exact h3
theorem Sg{n:Int}(h1:fa ρ=.ok (.int n)):wF fa ρ=.ok (.int (-n)):=by unfold wF;rw[h1];rfl
theorem aX:aO ρ=.ok []:=rfl
theorem aC(h1:fa ρ=.ok x)(h2:fs ρ=.ok ds):aj fa fs ρ=.ok (x::ds):=by unfold aj;rw[h1];show(fs ρ).bind _=_;rw[h2];rfl
theorem eO{o:List D->Rs D}{r:Rs D}(h1:fs ρ=.ok ds)(h2:o ds=r):fA fs o ρ=r:=by unfold fA;rw[h1];exact h2
theorem Im{o:D->Rs D}{r:Rs D}(h1:fa ρ=.ok x)(h2:o x=r):fB fa o ρ=r:=by unfold fB;rw[h1];exact h2
theorem gj{n:Nat}{v:List D->Rs D}{r:Rs D}(hl:ds.length=n)(h:v ds=r):bU n v ds=r:=by unfold bU;rw[if_pos hl];exact h
theorem Sh(hl:ds.length<=1000):gq ds=.ok (.tup ds):=by unfold gq;rw[if_pos hl]
theorem Fe(hl:ds.length<=1000):qJ ds=.ok (.lst ds):=by unfold qJ;rw[if_pos hl]
theorem jE(h:fa ρ=.ok (.bl t)):fT fa ρ=.ok t:=by unfold fT;rw[h];rfl
theorem zK(h:c ρ=.ok t):rF c ρ=.ok (!t):=by unfold rF;rw[h];rfl
theorem acH(h:c1 ρ=.ok true):Ra c1 c2 ρ=.ok true:=by unfold Ra;rw[h];rfl
theorem BJ(h:c1 ρ=.ok false)(h2:c2 ρ=.ok t):Ra c1 c2 ρ=.ok t:=by unfold Ra;rw[h];exact h2
theorem rM(h:c1 ρ=.ok false):qj c1 c2 ρ=.ok false:=by unfold qj;rw[h];rfl
theorem rN(h:c1 ρ=.ok true)(h2:c2 ρ=.ok t):qj c1 c2 ρ=.ok t:=by unfold qj;rw[h];exact h2
theorem gU(h:c ρ=.ok true)(h2:a ρ=r):ou c a b ρ=r:=by unfold ou;rw[h];exact h2
theorem bV(h:c ρ=.ok false)(h2:b ρ=r):ou c a b ρ=r:=by unfold ou;rw[h];exact h2
theorem oE(h:fa ρ=.ok x):ju i fa ρ=.nx (ρ.set i (.fz x)):=by unfold ju;rw[h];rfl
theorem lU(h:fa ρ=.ok x):gR fa ρ=.rt x:=by unfold gR;rw[h];rfl
theorem afp(h:fa ρ=.ok x):Il fa ρ=.nx ρ:=by unfold Il;rw[h];rfl
theorem jT{h:Tg}(h1:fa ρ=.ok x)(h2:h x ρ=some ρ1):lD fa h ρ=.nx ρ1:=by unfold lD;rw[h1];show oO (h x ρ)=_;rw[h2];rfl
theorem iG:qu ρ=.nx ρ:=rfl
theorem oF(h:g ρ=.nx ρ1):jC g ρ=.nx ρ1:=by unfold jC;rw[h];rfl
theorem oG{h:Tg}{n:Int}{N:Nat}(h1:fa ρ=.ok (.int n))(hb:n < 2 ^ 62)(hN:n=(N:Int))(h2:cL h g ((b_ N).map fun(i:Nat)=>.int i) ρ=r):jr h g fa ρ=r:=by
 have hc:-(2 ^ 62)<=n/\n < 2 ^ 62:=⟨by subst hN;lia,hb⟩
 unfold jr;rw[h1];simp only[oR];rw[if_pos hc,hN,kz];exact h2
theorem ug{h:Tg}(h1:fa ρ=.ok (.lst ds))(h2:cL h g ds ρ=r):nW h g fa ρ=r:=by unfold nW;rw[h1];exact h2
theorem BK{h:Tg}(h1:fa ρ=.ok (.tup ds))(h2:cL h g ds ρ=r):wk h g fa ρ=r:=by unfold wk;rw[h1];exact h2
theorem Fg{h:Tg}(P:ak->Prop):∀{ds:List D}{ρ:ak},P ρ->(∀d∈ds,∀ρ,P ρ->∃ρ1 ρ',h d ρ=some ρ1/\g ρ1=.nx ρ'/\P ρ')->∃ρ',cL h g ds ρ=.nx ρ'/\P ρ'
 | [],ρ,p,_=>⟨ρ,rfl,p⟩
 |d::ds,ρ,p,st=>by obtain⟨ρ1,ρ2,e1,e2,p2⟩:=st d (by simp) ρ p;obtain⟨ρ',e,p'⟩:=Fg (ds:=ds) P p2 fun d' hd=>st d' (by simp[hd]);refine⟨ρ',?_,p'⟩;simp only[cL,e1,e2];exact e
theorem BL{h:Tg}{ft:ak->Rs Bool}{fe:ak->Rs D}{nt:Nat}{caps:List Nat}{fi:ak->Rs (List D)}{ys:List D}(h1:fi ρ=.ok ds)(h2:cW h ft fe ds (cZ nt caps ρ)=.ok ys)(hl:ys.length<=1000000):fu h ft fe nt caps fi ρ=.ok (.lst ys):=by unfold fu;rw[h1];show jt ((cW h ft fe ds (cZ nt caps ρ)).bind _)=_;rw[h2];show jt (if ys.length<=1000000 then _ else _)=_;rw[if_pos hl];rfl
theorem v_l{o:D->Rs (List D)}(h1:fa ρ=.ok x)(h2:o x=.ok ds):fL fa o ρ=.ok ds:=by unfold fL;rw[h1];exact h2
variable{m n:Int}
theorem aav(h:HX m n):dI (.int m) (.int n)=.ok (.int (m * n)):=by simp[dI,gI,h]
theorem uM(h:0 < n):jN (.int m) (.int n)=.ok (.int (m % n)):=by simp[jN,gI,h]
theorem aaw(h:CDB m n):Eu (.int m) (.int n)=.ok (.int (m / n)):=by simp[Eu,gI,h]
theorem Sq(h:Qt m n):eZ (.int m) (.int n)=.ok (.int (m ^ n.toNat)):=by simp[eZ,gI,h]
theorem cI:bF (.int m) (.int n)=.ok (.int (m + n)):=rfl
theorem zL{a b:List D}(h:a.length + b.length<=1000000):bF (.lst a) (.lst b)=.ok (.lst (a++b)):=by simp only[bF];rw[if_pos h]
theorem lV:Vl.iW (.int m) (.int n)=.ok (.int (m - n)):=rfl
theorem uW(h:CDB m n):DN [.int m,.int n]=.ok (.tup [.int (m / n),.int (m % n)]):=by simp[DN,h]
theorem Fi:Xe (.int m) (.int n)=.ok (.bl (decide (m < n))):=rfl
theorem acI:gLe (.int m) (.int n)=.ok (.bl (decide (m<=n))):=rfl
theorem Io:gGt (.int m) (.int n)=.ok (.bl (decide (n < m))):=rfl
theorem acJ:gGe (.int m) (.int n)=.ok (.bl (decide (n<=m))):=rfl
theorem qw:uL (.int m) (.int n)=.ok (.bl (decide (m=n))):=by simp[uL,fW,lR];rfl
theorem Ss:Xd (.int m) (.int n)=.ok (.bl (!decide (m=n))):=by simp[Xd,fW,lR];rfl
theorem ahH(h1:fW x<=8)(h2:fW y<=8):uL x y=.ok (.bl (lR x y)):=by unfold uL;rw[if_pos ⟨h1,h2⟩]
theorem ahI(h1:fW x<=8)(h2:fW y<=8):Xd x y=.ok (.bl (!lR x y)):=by unfold Xd;rw[if_pos ⟨h1,h2⟩]
theorem wG(h:vU ds m=some d):iY (.lst ds) (.int m)=.ok d:=by simp[iY,h]
theorem cdb(h:0 < n)(h2:n < 2 ^ 200):CDB m n:=⟨h,h2⟩
end
end Vl
namespace Tb
open PySem
noncomputable def it:Nat->Nat->Nat
 | 0,x=>x
 |m + 1,x=>5 * it m x + 1
theorem Sv(m n x:Nat):it (m + n) x=it m (it n x):=by
 induction m with
 |zero=>simp[it]
 |succ m ih=>rw[Nat.succ_add];simp only[it];rw[ih]
theorem acK(k:Nat):∃w,w % 2=1/\∀y,it (2 ^ k) y=y + 2 ^ k * w * (4 * y + 1):=by
 induction k with
 |zero=>exact⟨1,rfl,fun y=>by simp[it];lia⟩
 |succ k ih =>
  obtain⟨w,hw,h⟩:=ih;refine⟨w * (1 + 2 ^ (k + 1) * w),?_,fun y=>?_⟩
  ·have e:2 ^ (k + 1)=2 * 2 ^ k:=by rw[l5];lia
   rw[e,Nat.mul_add,Nat.mul_one,vt];have:w * (2 * 2 ^ k * w) % 2=0:=by
    have:w * (2 * 2 ^ k * w)=2 * (w * 2 ^ k * w):=by grind
    rw[this];exact Nat.mul_mod_right _ _
   lia
  ·have e:2 ^ (k + 1)=2 ^ k + 2 ^ k:=by rw[l5];lia
   rw[e,Sv,h,h]
   grind
theorem afq(k:Nat):∀x e:Nat,∃m,m < 2 ^ k/\it m x % 2 ^ k=e % 2 ^ k:=by
 induction k with
 |zero=>exact fun x e=>⟨0,by decide,by simp[Nat.mod_one]⟩
 |succ k ih =>
  intro x e;obtain⟨m,hm,he⟩:=ih x e;obtain⟨w,hw,hp⟩:=acK k;have e2:2 ^ (k + 1)=2 ^ k * 2:=l5 ..;by_cases c:it m x % 2 ^ (k + 1)=e % 2 ^ (k + 1)
  ·exact⟨m,by rw[e2];lia,c⟩
  ·refine⟨2 ^ k + m,by rw[e2];lia,?_⟩;rw[Sv,hp];have pos:0 < 2 ^ k:=Nat.pos_of_ne_zero (by simp);generalize it m x=a at he c;obtain⟨q,hq⟩:∃q,w * (4 * a + 1)=2 * q + 1:=by
    refine⟨w * (4 * a + 1) / 2,?_⟩;have:w * (4 * a + 1) % 2=1:=by
     rw[vw];have:(4 * a + 1) % 2=1:=by lia
     rw[hw,this]
    lia
   have hq':2 ^ k * w * (4 * a + 1)=2 ^ k * 2 * q + 2 ^ k:=by rw[qS,hq];grind
   rw[hq',e2];rw[e2]at c;generalize 2 ^ k=M at *;have h1:(a + (M * 2 * q + M)) % (M * 2)=(a + M) % (M * 2):=by
    have:a + (M * 2 * q + M)=a + M + M * 2 * q:=by lia
    rw[this,qV]
   rw[h1];have a1:=Nat.mod_add_div a (M * 2);have b1:=Nat.mod_add_div e (M * 2);have al:=m_ a (show 0 < M * 2 by lia);have bl:=m_ e (show 0 < M * 2 by lia);generalize a % (M * 2)=ra at a1 al c;generalize e % (M * 2)=rb at b1 bl c ⊢;have ham:a % M=ra % M:=by rw[<- a1,qS,qV]
   have hbm:e % M=rb % M:=by rw[<- b1,qS,qV]
   have hrr:ra % M=rb % M:=by rw[<- ham,<- hbm];exact he
   have hA:(a + M) % (M * 2)=(ra + M) % (M * 2):=by
    rw[<- a1];have:ra + M * 2 * (a / (M * 2)) + M=ra + M + M * 2 * (a / (M * 2)):=by lia
    rw[this,qV]
   rw[hA];by_cases ha:ra < M
   ·have e3:ra % M=ra:=iX ha;have hb:¬rb < M:=fun z=>c (by rw[iX z]at hrr;lia);have e4:rb % M=rb - M:=by rw[q8 (by lia),iX (by lia)]
    rw[iX (by lia)];lia
   ·have e3:ra % M=ra - M:=by rw[q8 (by lia),iX (by lia)]
    have hb:rb < M:=Nat.lt_of_not_le fun z=>c (by
     have e4:rb % M=rb - M:=by rw[q8 (by lia),iX (by lia)]
     lia)
    have e4:rb % M=rb:=iX hb;rw[q8 (by lia),iX (by lia)];lia
end Tb
namespace Tb
open PySem PySem.SetTable
noncomputable def nF(t:cb):Nat->Probe->Probe
 | 0,p=>p
 |s + 1,p=>nF t s (t.advance p)
theorem pR(t:cb)(a b:Nat)(p:Probe):nF t (a + b) p=nF t b (nF t a p):=by
 induction a generalizing p with
 |zero=>simp[nF]
 |succ a ih=>rw[Nat.succ_add];simp only[nF];exact ih _
theorem lW(t:cb)(s:Nat)(p:Probe):nF t (s + 1) p=t.advance (nF t s p):=by rw[pR];rfl
noncomputable def nG(mask i pt:Nat)(d:Option Nat):Probe:={ j:=i,more:=runEnd mask i - i,i:=i,perturb:=pt,dummy:=d }
theorem acL(mask i:Nat):runEnd mask i - i<=9:=by unfold runEnd;split <;> lia
theorem Lf(t:cb):∀(m:Nat) (p:Probe),m<=p.more->nF t m p={ p with j:=p.j + m,more:=p.more - m }:=by
 intro m
 induction m with
 |zero=>intro p _;simp[nF]
 |succ m ih =>
  intro p h;rw[lW,ih p (by lia)];unfold advance;simp only;rw[if_pos (by lia)];simp only[Probe.mk.injEq,and_true,true_and];lia
theorem wH(t:cb)(p:Probe):nF t (p.more + 1) p=nG t.mask (leap t.mask p.i p.perturb).1 (leap t.mask p.i p.perturb).2 p.dummy:=by rw[lW,Lf t p.more p (bE _)];unfold advance nG;simp only[Nat.sub_self,eQ,gt_iff_lt,if_false]
noncomputable def lp(mask:Nat):Nat->Nat×Nat->Nat×Nat
 | 0,x=>x
 |n + 1,x=>leap mask (lp mask n x).1 (lp mask n x).2
theorem acM(t:cb)(d:Option Nat)(i pt:Nat):∀n,∃s,s<=10 * n/\nF t s (nG t.mask i pt d)=nG t.mask (lp t.mask n (i,pt)).1 (lp t.mask n (i,pt)).2 d:=by
 intro n
 induction n with
 |zero=>exact⟨0,by lia,rfl⟩
 |succ n ih =>
  obtain⟨s,hs,e⟩:=ih;refine⟨s + ((nG t.mask (lp t.mask n (i,pt)).1 (lp t.mask n (i,pt)).2 d).more + 1),?_,?_⟩
  ·have:=acL t.mask (lp t.mask n (i,pt)).1;simp only[nG];lia
  ·rw[pR,e,wH];rfl
theorem afr(mask:Nat)(x:Nat×Nat):∀n,(lp mask n x).2=x.2 / 32 ^ n:=by
 intro n
 induction n with
 |zero=>simp[lp]
 |succ n ih=>simp only[lp,leap,ih];rw[Nat.div_div_eq_div_mul,l5]
theorem afs(mask:Nat)(x:Nat×Nat)(n:Nat):(lp mask (n + 1) x).1 < mask + 1:=m_ _ (by lia)
theorem Sw(mask:Nat)(x:Nat×Nat)(a b:Nat):lp mask (a + b) x=lp mask b (lp mask a x):=by
 induction b with
 |zero=>rfl
 |succ b ih=>rw[Nat.add_succ];simp only[lp,ih]
theorem Yu(mask i:Nat)(hi:i < mask + 1):∀n,lp mask n (i,0)=(it n i % (mask + 1),0):=by
 intro n
 induction n with
 |zero=>simp[lp,it,iX hi]
 |succ n ih =>
  simp only[lp,ih,leap,it,vx,Nat.zero_div,l6,and_true];rw[Nat.mul_comm,vt,vw,Nat.mod_mod,<- vw,<- vt]
theorem Sx{mask k:Nat}(hk:mask + 1=2 ^ k)(i pt:Nat)(hp:pt < 2 ^ 64){e:Nat}(he:e<=mask):∃n,n<=mask + 13/\(lp mask n (i,pt)).1=e:=by
 have h13:(lp mask 13 (i,pt)).2=0:=by rw[afr];exact Nat.div_eq_of_lt (vy hp (by decide))
 have hl:=afs mask (i,pt) 12;obtain⟨m,hm,e1⟩:=afq k (lp mask 13 (i,pt)).1 e;refine⟨13 + m,by lia,?_⟩;rw[Sw];have e2:lp mask 13 (i,pt)=((lp mask 13 (i,pt)).1,0):=by rw[<- h13]
 rw[e2,Yu _ _ hl,hk,e1,iX (by lia)]
theorem hit{t:cb}{k:Nat}(hk:t.mask + 1=2 ^ k)(p:Probe)(h9:p.more<=9)(hp:p.perturb < 2 ^ 64){e:Nat}(he:e<=t.mask):∃s,s<=10 * (t.mask + 14)/\(nF t s p).j=e:=by have hq:(leap t.mask p.i p.perturb).2 < 2 ^ 64:=iO (Nat.div_le_self _ _) hp;obtain⟨n,hn,e1⟩:=Sx hk (leap t.mask p.i p.perturb).1 (leap t.mask p.i p.perturb).2 hq he;obtain⟨s,hs,e2⟩:=acM t p.dummy (leap t.mask p.i p.perturb).1 (leap t.mask p.i p.perturb).2 n;refine⟨p.more + 1 + s,by lia,?_⟩;rw[pR,wH,e2];exact e1
theorem acN(t:cb)(p:Probe)(h9:p.more<=9)(hp:p.perturb < 2 ^ 64):∀s,(nF t s p).more<=9/\(nF t s p).perturb < 2 ^ 64/\(nF t s p).dummy=p.dummy:=by
 intro s
 induction s with
 |zero=>exact⟨h9,hp,rfl⟩
 |succ s ih =>
  rw[lW];obtain⟨a,b,c⟩:=ih;unfold advance;split
  ·exact⟨by simp only;lia,b,c⟩
  ·exact⟨acL _ _,iO (Nat.div_le_self _ _) b,c⟩
theorem Lg(h:Int):bits h < 2 ^ 64:=by unfold bits;have:=i0 h (show(0:Int) < 2 ^ 64 by decide);have:=gp h (show(2 ^ 64:Int)≠0 by decide);lia
noncomputable def pos(t:cb)(h:Int)(s:Nat):Nat:=(nF t s (t.probeStart h)).j
theorem rO(t:cb)(h:Int)(s:Nat):(nF t s (t.probeStart h)).more<=9/\(nF t s (t.probeStart h)).perturb < 2 ^ 64/\(nF t s (t.probeStart h)).dummy=none :=
 acN t _ (acL _ _) (Lg h) s
theorem Yv{t:cb}{k:Nat}(hk:t.mask + 1=2 ^ k)(h:Int)(s0:Nat){e:Nat}(he:e<=t.mask):∃s,s0<=s/\s<=s0 + 10 * (t.mask + 14)/\pos t h s=e:=by obtain⟨a,b,_⟩:=rO t h s0;obtain⟨s,hs,e1⟩:=hit hk (nF t s0 (t.probeStart h)) a b he;exact⟨s0 + s,by lia,by lia,by unfold pos;rw[pR];exact e1⟩
noncomputable def wI(xs:Array Nat):Prop:=∀a b,a < b->b < xs.size->xs.getD a 0 < xs.getD b 0
theorem Yw{xs:Array Nat}{a:Nat}(h:a < xs.size)(d:Nat):xs.getD a d=xs.getD a 0:=by simp[il,h]
theorem Sy{xs:Array Nat}{j:Nat}(R:wI xs):∀(fuel lo hi:Nat),lo<=hi->hi<=xs.size->hi<=lo + fuel->(∀a,a < lo->xs.getD a 0 < j)->(∀a,hi<=a->a < xs.size->j<=xs.getD a 0) ->
  below.go xs j fuel lo hi<=xs.size/\(∀a,a < below.go xs j fuel lo hi->xs.getD a 0 < j)/\(∀a,below.go xs j fuel lo hi<=a->a < xs.size->j<=xs.getD a 0):=by
 intro fuel
 induction fuel with
 |zero =>
  intro lo hi h1 h2 h3 h4 h5;obtain rfl:lo=hi:=by lia
  exact⟨h2,h4,h5⟩
 |succ fuel ih =>
  intro lo hi h1 h2 h3 h4 h5;unfold below.go;by_cases c:lo < hi
  ·rw[if_pos c];simp only;have hm:(lo + hi) / 2 < xs.size:=by lia
   rw[Yw hm];by_cases d:xs.getD ((lo + hi) / 2) 0 < j
   ·rw[if_pos d];refine ih _ _ (by lia) h2 (by lia) (fun a ha=>?_) h5;by_cases e:a=(lo + hi) / 2
    ·rw[e];exact d
    ·exact vy (R a ((lo + hi) / 2) (by lia) hm) d
   ·rw[if_neg d];refine ih _ _ (by lia) (by lia) (by lia) h4 fun a ha hs=>?_;by_cases e:a=(lo + hi) / 2
    ·rw[e];lia
    ·exact dq (by lia) (gx (R ((lo + hi) / 2) a (by lia) hs))
  ·rw[if_neg c];obtain rfl:lo=hi:=by lia
   exact⟨h2,h4,h5⟩
theorem qM{xs:Array Nat}(R:wI xs)(j:Nat):below xs j<=xs.size/\(∀a,a < below xs j->xs.getD a 0 < j)/\(∀a,below xs j<=a->a < xs.size->j<=xs.getD a 0) :=
 Sy R xs.size 0 xs.size (d_ _) (bE _) (by lia) (fun a h=>absurd h (by lia)) fun a h1 h2=>absurd h1 (by lia)
theorem SJ{xs:Array Nat}(R:wI xs){i:Nat}(hi:i < xs.size):below xs (xs.getD i 0)=i:=by
 obtain⟨h1,h2,h3⟩:=qM R (xs.getD i 0);by_cases c:below xs (xs.getD i 0) < i
 ·have:=h3 _ (bE _) (by lia);have:=R _ i c hi;lia
 ·by_cases d:i < below xs (xs.getD i 0)
  ·have:=h2 i d;lia
  ·lia
noncomputable def wJ(t:cb)(j:Nat):Prop:=∃i,i < t.place.size/\t.place.getD i 0=j
theorem Fj{xs:Array Nat}{i:Nat}(hi:i < xs.size):xs[i]?=some (xs.getD i 0):=by simp[il,hi]
theorem zM{t:cb}(R:wI t.place){i:Nat}(hi:i < t.place.size):t.slot (t.place.getD i 0)=.live i:=by unfold slot;simp only;rw[SJ R hi,Fj hi];simp
theorem Ip{t:cb}(nd:t.dummies=#[]){j:Nat}(h:¬wJ t j):t.slot j=.empty:=by
 unfold slot;simp only;rw[if_neg,if_neg]
 ·unfold has;rw[nd];simp
 ·intro c;apply h;have c':t.place[below t.place j]?=some j:=by simpa using c
  obtain⟨hl,e⟩:=gd.mp c';exact⟨_,hl,by simp[il,hl,e]⟩
theorem BP{t:cb}(R:wI t.place){j:Nat}(h:wJ t j):∃i,i < t.place.size/\t.place.getD i 0=j/\t.slot j=.live i:=by obtain⟨i,hi,e⟩:=h;exact⟨i,hi,e,by rw[<- e];exact zM R hi⟩
theorem Yx{xs:Array Nat}(R:wI xs):∀i,i < xs.size->i<=xs.getD i 0:=by
 intro i
 induction i with
 |zero=>intro _;exact d_ _
 |succ i ih=>intro h;have:=ih (by lia);have:=R i (i + 1) (by lia) h;lia
theorem Ir{t:cb}(R:wI t.place)(hs:t.place.size<=t.mask):∃e,e<=t.mask/\¬wJ t e:=by
 have key:∀n,n<=t.place.size->(∀a,a < n->t.place.getD a 0=a)∨∃e,e < n/\t.place.getD e 0≠e/\∀a,a < e->t.place.getD a 0=a:=by
  intro n
  induction n with
  |zero=>intro _;exact .inl fun a h=>absurd h (by lia)
  |succ n ih =>
   intro h;rcases ih (by lia) with h1|⟨e,h1,h2,h3⟩
   ·by_cases c:t.place.getD n 0=n
    ·refine .inl fun a ha=>?_;by_cases d:a=n
     ·rw[d];exact c
     ·exact h1 a (by lia)
    ·exact .inr ⟨n,by lia,c,h1⟩
   ·exact .inr ⟨e,by lia,h2,h3⟩
 rcases key t.place.size (bE _) with h|⟨e,h1,h2,h3⟩
 ·refine⟨t.place.size,hs,fun⟨i,hi,e⟩=>?_⟩;have:=h i hi;lia
 ·refine⟨e,by lia,fun⟨i,hi,e'⟩=>?_⟩;by_cases c:i < e
  ·have:=h3 i c;lia
  ·have hge:=Yx R e h1;by_cases d:i=e
   ·subst d;exact h2 e'
   ·have:=R e i (by lia) hi;lia
theorem SM{t:cb}(R:wI t.place)(nd:t.dummies=#[])(hashAt:Nat->Int)(h:Int):∀(fuel s0 s1:Nat),s0<=s1->s1 < s0 + fuel->¬wJ t (pos t h s1) ->
    ∃s2,s0<=s2/\s2<=s1/\(∀s,s0<=s->s < s2->∃i,i < t.place.size/\t.place.getD i 0=pos t h s/\hashAt i≠h) /\
      ((¬wJ t (pos t h s2) /\ probe.go t hashAt h fuel (nF t s0 (t.probeStart h)) = some (.empty (pos t h s2) none)) ∨
       ∃i,i < t.place.size/\t.place.getD i 0=pos t h s2/\hashAt i=h/\probe.go t hashAt h fuel (nF t s0 (t.probeStart h))=some (.candidate (pos t h s2) i (nF t (s2 + 1) (t.probeStart h)))):=by
  intro fuel
  induction fuel with
  |zero=>intro s0 s1 h1 h2;lia
  |succ fuel ih =>
    intro s0 s1 h1 h2 hl;have hd:=(rO t h s0).2.2;unfold probe.go;by_cases c:wJ t (pos t h s0)
    . obtain⟨i,hi,e1,e2⟩:=BP R c
      have e2':t.slot (nF t s0 (t.probeStart h)).j=.live i:=e2;rw[e2'];simp only;by_cases d:hashAt i=h
      . refine⟨s0,bE _,h1,fun s a b=>absurd a (by lia),.inr ⟨i,hi,e1,d,?_⟩⟩
        rw[if_pos (by simp[d]),lW];rfl
      . rw[if_neg (by simp[d]),<- lW]
        have hne:s0≠s1:=fun z=>hl (z▸c);obtain⟨s2,a1,a2,a3,a4⟩:=ih (s0 + 1) s1 (by lia) (by lia) hl;refine⟨s2,by lia,a2,fun s b1 b2=>?_,a4⟩;by_cases z:s=s0
        . subst z;exact⟨i,hi,e1,d⟩
        . exact a3 s (by lia) b2
    . refine⟨s0,bE _,h1,fun s a b=>absurd a (by lia),.inl ⟨c,?_⟩⟩
      have e2:t.slot (nF t s0 (t.probeStart h)).j=.empty:=Ip nd c;rw[e2];simp only;rw[hd];rfl
theorem SN{t t':cb}(e:t.mask=t'.mask):∀s p,nF t s p=nF t' s p:=by
 intro s
 induction s with
 |zero=>intro p;rfl
 |succ s ih =>
  intro p;simp only[nF];have:t.advance p=t'.advance p:=by unfold advance;rw[e]
  rw[this,ih]
theorem Fl{t t':cb}(e:t.mask=t'.mask)(h:Int)(s:Nat):pos t h s=pos t' h s:=by
 unfold pos;have:t.probeStart h=t'.probeStart h:=by unfold probeStart;rw[e]
 rw[this,SN e]
noncomputable abbrev iz:=Nat×Int×aa
structure Good (t:cb)(L:List iz):Prop where
 pw:∃k,t.mask + 1=2 ^ k
 m7:7<=t.mask
 nd:t.dummies=#[]
 pl:t.place=(L.map (·.1)).toArray
 so:(L.map (·.1)).Pairwise (· < ·)
 le:∀e∈L,e.1<=t.mask
 reach:∀e∈L,∃s,pos t e.2.1 s=e.1/\∀s',s' < s->∃e'∈L,e'.1=pos t e.2.1 s'
section
variable{t:cb}{L:List iz}
theorem Good.sz(g:Good t L):t.place.size=L.length:=by rw[g.pl];simp
theorem Good.at(g:Good t L){i:Nat}(hi:i < L.length):t.place.getD i 0=L[i].1:=by rw[g.pl];simp[il,hi]
theorem Good.rise(g:Good t L):wI t.place:=by intro a b hab hb;rw[g.sz]at hb;rw[g.at (show a < L.length by lia),g.at hb];have:=(l9.mp g.so) a b (by simpa using(show a < L.length by lia)) (by simpa using hb) hab;simpa using this
theorem Good.live(g:Good t L){j:Nat}:wJ t j↔∃e∈L,e.1=j:=by
 constructor
 ·rintro⟨i,hi,e⟩;rw[g.sz]at hi;rw[g.at hi]at e;exact⟨L[i],fI hi,e⟩
 ·rintro⟨e,he,q⟩;obtain⟨i,hi,e1⟩:=nc.mp he;exact⟨i,by rw[g.sz];exact hi,by rw[g.at hi,e1];exact q⟩
theorem Good.uniq(g:Good t L){e e':iz}(h:e∈L)(h':e'∈L)(q:e.1=e'.1):e=e':=by
 obtain⟨i,hi,rfl⟩:=nc.mp h;obtain⟨j,hj,rfl⟩:=nc.mp h';have R:=g.rise;by_cases c:i < j
 ·have:=R i j c (by rw[g.sz];exact hj);rw[g.at hi,g.at hj]at this;lia
 ·by_cases d:j < i
  ·have:=R j i d (by rw[g.sz];exact hi);rw[g.at hi,g.at hj]at this;lia
  ·obtain rfl:i=j:=by lia
   rfl
end
theorem qx{α:Type}(xs:List α)(p:Nat)(hp:p<=xs.length)(x:α):insertAt xs.toArray p x=(xs.take p++x::xs.drop p).toArray:=by unfold insertAt;apply q9.mp;simp only[List.extract_toArray,cy,kA,q_,List.extract_eq_take_drop,Nat.sub_zero,List.drop_zero];rw[vz (l:=xs.drop p) (by simp)];simp
theorem BR(t:cb)(nd:t.dummies=#[])(j:Nat):t.put j=({ t with place:=insertAt t.place (below t.place j) j },below t.place j):=by
 unfold put;have:has t.dummies j=false:=by unfold has;rw[nd];simp
 simp only[this,bP,if_false]
theorem Good.put{t:cb}{L:List iz}(g:Good t L){j:Nat}{h:Int}{x:aa}(hj:j<=t.mask)(hn:¬wJ t j)(hr:∃s,pos t h s=j/\∀s',s' < s->∃e'∈L,e'.1=pos t h s') :
  (t.put j).2<=L.length/\Good (t.put j).1 (L.take (t.put j).2++(j,h,x)::L.drop (t.put j).2):=by
 rw[BR t g.nd];obtain⟨b1,b2,b3⟩:=qM g.rise j;rw[g.sz]at b1 b3;simp only;generalize hp:below t.place j=p at *;refine⟨b1,?_⟩;have mem:∀e:iz,e∈L.take p++(j,h,x)::L.drop p↔e=(j,h,x)∨e∈L:=fun e=>by
  have:L=L.take p++L.drop p:=(ng p L).symm;constructor
  ·intro z;rcases du.mp z with z|z
   ·exact .inr (oC z)
   ·rcases br.mp z with z|z
    ·exact .inl z
    ·exact .inr (vE z)
  ·rintro(z|z)
   ·subst z;simp
   ·rw[this]at z;rcases du.mp z with z|z
    ·exact ie _ z
    ·exact fE _ (fx _ z)
 have pm:∀(hh:Int) (s:Nat),pos { t with place:=insertAt t.place p j } hh s=pos t hh s:=fun hh s=>Fl (by rfl) hh s;refine⟨g.pw,g.m7,g.nd,?_,?_,fun e he=>?_,fun e he=>?_⟩
 ·show insertAt t.place p j=_;rw[g.pl,qx _ _ (by simpa using b1)];simp[vF,vS]
 ·simp only[j6,bX];rw[gT];refine⟨?_,?_,?_⟩
  ·rw[vF];exact kB (oo _ _) g.so
  ·rw[fR];refine⟨fun a ha=>?_,?_⟩
   ·obtain⟨e,he,rfl⟩:=dt.mp ha;obtain⟨i,hi,rfl⟩:=nc.mp he;have hi':p + i < L.length:=by simp at hi;lia
    have q:=b3 (p + i) (by lia) hi';rw[g.at hi']at q;have ne:L[p + i].1≠j:=fun z=>hn (g.live.mpr ⟨_,fI hi',z⟩);simp only[List.getElem_drop];show j < _;lia
   ·rw[vS];exact kB (vT _ _) g.so
  ·intro a ha b hb;obtain⟨e,he,rfl⟩:=dt.mp ha;obtain⟨i,hi,rfl⟩:=nc.mp he;have hi':i < p:=by simp at hi;lia
   have q:=b2 i hi';rw[g.at (show i < L.length by lia)]at q;simp only[List.getElem_take];rcases br.mp hb with z|z
   ·rw[z];exact q
   ·obtain⟨e',he',rfl⟩:=dt.mp z;obtain⟨i',hi2,rfl⟩:=nc.mp he';have hi3:p + i' < L.length:=by simp at hi2;lia
    have:=b3 (p + i') (by lia) hi3;rw[g.at hi3]at this;simp only[List.getElem_drop];lia
 ·rcases(mem e).mp he with z|z
  ·rw[z];exact hj
  ·exact g.le e z
 ·rcases(mem e).mp he with z|z
  ·subst z;obtain⟨s,e1,e2⟩:=hr;refine⟨s,by rw[pm];exact e1,fun s' hs=>?_⟩;obtain⟨e',h1,h2⟩:=e2 s' hs;exact⟨e',(mem e').mpr (.inr h1),by rw[pm];exact h2⟩
  ·obtain⟨s,e1,e2⟩:=g.reach e z;refine⟨s,by rw[pm];exact e1,fun s' hs=>?_⟩;obtain⟨e',h1,h2⟩:=e2 s' hs;exact⟨e',(mem e').mpr (.inr h1),by rw[pm];exact h2⟩
noncomputable def iH(owner:Array (Option Nat))(j:Nat):Prop:=owner.getD j (some 0)=none
theorem Oj{mask:Nat}{t:cb}(ht:t.mask=mask)(owner:Array (Option Nat)):∀(fuel i pt n:Nat),n < fuel->iH owner (lp mask n (i,pt)).1 ->
  ∃j s,layClean.free mask owner fuel i pt=some j/\(nF t s (nG mask i pt none)).j=j/\iH owner j/\∀s',s' < s->¬iH owner (nF t s' (nG mask i pt none)).j:=by
 intro fuel
 induction fuel with
 |zero=>intro i pt n h;lia
 |succ fuel ih =>
  intro i pt n hn hN;unfold layClean.free;have run:∀s,s<=runEnd mask i - i->(nF t s (nG mask i pt none)).j=i + s:=fun s hs=>by rw[Lf t s _ hs];rfl
  have hre:i<=runEnd mask i:=by unfold runEnd;split <;> lia
  cases e:(b_ (runEnd mask i + 1 - i)).find? fun k=>(owner.getD (i + k) (some 0)).isNone with
  |some k =>
   simp only;have h1:=List.find?_some e;have h2:=List.mem_of_find?_eq_some e;have h3:=fw.mp h2;refine⟨i + k,k,rfl,run k (by lia),by simpa[iH] using h1,fun s' hs z=>?_⟩;rw[run s' (by lia)]at z;have:=List.find?_eq_some_iff_append.mp e;obtain⟨_,as,bs,e1,e2⟩:=this;have hs':s'∈as:=by
    have hm:s'∈b_ (runEnd mask i + 1 - i):=fw.mpr (by lia);have ps:=List.pairwise_lt_range (n:=runEnd mask i + 1 - i);rw[e1]at hm ps;rcases du.mp hm with hm|hm
    ·exact hm
    ·rcases br.mp hm with hm|hm
     ·lia
     ·have:=(fR.mp (gT.mp ps).2.1).1 s' hm;lia
   have:=e2 s' hs';rw[show owner.getD (i + s') (some 0)=none from z]at this;simp at this
  |none =>
   simp only;have h1:=List.find?_eq_none.mp e;have no:∀s,s<=runEnd mask i - i->¬iH owner (i + s):=fun s hs z=>by have:=h1 s (fw.mpr (by lia));rw[show owner.getD (i + s) (some 0)=none from z]at this;simp at this
   cases n with
   |zero=>exact absurd hN (no 0 (by lia))
   |succ n =>
    have e3:lp mask (n + 1) (i,pt)=lp mask n (leap mask i pt):=by rw[Nat.add_comm,Sw];rfl
    rw[e3]at hN;obtain⟨j,s,a1,a2,a3,a4⟩:=ih (leap mask i pt).1 (leap mask i pt).2 n (by lia) hN;have hl:nF t (runEnd mask i - i + 1) (nG mask i pt none)=nG mask (leap mask i pt).1 (leap mask i pt).2 none:=by have:=wH t (nG mask i pt none);rw[ht]at this;exact this
    refine⟨j,runEnd mask i - i + 1 + s,a1,by rw[pR,hl];exact a2,a3,fun s' hs z=>?_⟩;by_cases c:s'<=runEnd mask i - i
    ·rw[run s' c]at z;exact no s' c z
    ·obtain⟨q,rfl⟩:∃q,s'=runEnd mask i - i + 1 + q:=⟨s' - (runEnd mask i - i + 1),by lia⟩
     rw[pR,hl]at z;exact a4 q (by lia) z
theorem rP{α β:Type}{f g:α->Option β}:∀{l:List α},(∀a∈l,f a=g a)->l.filterMap f=l.filterMap g
 | [],_=>rfl
 |a::l,h=>by have ih:=rP (l:=l) fun b hb=>h b (fx _ hb);simp only[n_,ih,h a e_]
noncomputable def fG(M:Nat)(owner:Array (Option Nat)):List (Nat×Nat):=(b_ M).filterMap fun j=>(owner.getD j none).map (j,·)
theorem mO{M:Nat}{owner:Array (Option Nat)}{j i:Nat}:(j,i)∈fG M owner↔j < M/\owner.getD j none=some i:=by
 unfold fG;simp only[kc,fw,rf,vx];constructor
 ·rintro⟨a,h1,b,h2,rfl,rfl⟩;exact⟨h1,h2⟩
 ·rintro⟨h1,h2⟩;exact⟨j,h1,i,h2,rfl,rfl⟩
theorem yM{M:Nat}{owner:Array (Option Nat)}:((fG M owner).map (·.1)).Pairwise (· < ·):=by
 have e:(fG M owner).map (·.1)=(b_ M).filter fun j=>(owner.getD j none).isSome:=by unfold fG;rw[v3,<- List.filterMap_eq_filter];congr 1;funext j;generalize hz:owner.getD j none=o;cases o <;> simp[Option.guard,hz]
 rw[e];exact kB v7 List.pairwise_lt_range
theorem Fo{f f':Nat->Option (Nat×Nat)}{j:Nat}{v:Nat×Nat}:∀{l:List Nat},l.Nodup->j∈l->f j=none->f' j=some v->(∀a,a≠j->f' a=f a)->(l.filterMap f').Perm (v::l.filterMap f)
 | [],_,h,_,_,_=>by cases h
 |a::l,nd,h,h1,h2,h3=>by
  have nd':=gE.mp nd;by_cases c:a=j
  ·subst c;have same:l.filterMap f'=l.filterMap f:=rP fun b hb=>h3 b fun z=>nd'.1 (z▸hb);rw[oD h2,v8 h1,same]
  ·have hm:j∈l:=(br.mp h).resolve_left (bz c);have ih:=Fo nd'.2 hm h1 h2 h3;cases e:f a with
   |none =>
    rw[v8 (by rw[h3 a c];exact e),v8 e];exact ih
   |some b =>
    rw[oD (by rw[h3 a c];exact e),oD e];exact(ih.cons b).trans (ip.swap ..)
theorem Iu{M:Nat}{owner:Array (Option Nat)}(hs:owner.size=M){j k:Nat}(hj:j < M)(hn:owner.getD j none=none):(fG M (owner.setIfInBounds j (some k))).Perm ((j,k)::fG M owner):=by
 unfold fG;refine Fo (j:=j) List.nodup_range (fw.mpr hj) (by rw[hn];rfl) ?_ fun a ha=>?_
 ·have:(owner.setIfInBounds j (some k)).getD j none=some k:=by simp[il,hs,hj]
  rw[this];rfl
 ·have:(owner.setIfInBounds j (some k)).getD a none=owner.getD a none:=by simp only[kC];rw[vc (bz ha)]
  rw[this]
structure LC (t:cb)(hs:List Int)(owner:Array (Option Nat))(k:Nat):Prop where
 sz:owner.size=t.mask + 1
 pm:((fG (t.mask + 1) owner).map (·.2)).Perm (b_ k)
 reach:∀j i,(j,i)∈fG (t.mask + 1) owner->∃h,hs[i]?=some h/\∃s,pos t h s=j/\∀s',s' < s->¬iH owner (pos t h s')
theorem Lh{owner:Array (Option Nat)}{j:Nat}(h:iH owner j):j < owner.size/\owner.getD j none=none:=by
 unfold iH at h;by_cases c:j < owner.size
 ·simp only[il,c,dif_pos]at h ⊢;exact⟨trivial,h⟩
 ·simp[il,c]at h
theorem LC.step{t:cb}{hs:List Int}{owner:Array (Option Nat)}{k:Nat}(g:LC t hs owner k)(pw:∃q,t.mask + 1=2 ^ q)(hk:k<=t.mask){h:Int}(hh:hs[k]?=some h) :
  ∃j,layClean.free t.mask owner (turns t.mask) (bits h % (t.mask + 1)) (bits h)=some j/\LC t hs (owner.setIfInBounds j (some k)) (k + 1):=by
 obtain⟨q,hq⟩:=pw;have emp:∃e,e<=t.mask/\iH owner e:=by
  refine Classical.byContradiction fun c=>?_;have all:∀e,e < t.mask + 1->∃i,(e,i)∈fG (t.mask + 1) owner:=fun e he=>by
   cases z:owner.getD e none with
   |some i=>exact⟨i,mO.mpr ⟨he,z⟩⟩
   |none =>
    refine absurd ⟨e,by lia,?_⟩ c;have hl:e < owner.size:=by rw[g.sz];exact he
    simp only[iH,il,hl,dif_pos]at z ⊢;exact z
  have l1:(fG (t.mask + 1) owner).length=k:=by have:=g.pm.length_eq;simpa using this
  have l2:((fG (t.mask + 1) owner).map (·.1))=b_ (t.mask + 1):=by
   unfold fG;rw[v3];have:(b_ (t.mask + 1)).filterMap (fun x=>Option.map (·.1) (Option.map (x,·) (owner.getD x none)))=(b_ (t.mask + 1)).filterMap some:=by refine rP fun x hx=>?_;obtain⟨i,hi⟩:=all x (fw.mp hx);rw[(mO.mp hi).2];rfl
   rw[this];simp
  have l3:=congrArg jb l2;simp at l3;lia
 obtain⟨e,he,hN⟩:=emp;obtain⟨n,hn,en⟩:=Sx hq (bits h % (t.mask + 1)) (bits h) (Lg h) he;obtain⟨j,s,f1,f2,f3,f4⟩:=Oj (t:=t) rfl owner (turns t.mask) (bits h % (t.mask + 1)) (bits h) n (by unfold turns;lia) (by rw[en];exact hN);obtain⟨hj,hjn⟩:=Lh f3;have hp:=Iu (k:=k) g.sz (by rw[<- g.sz];exact hj) hjn;have stays:∀a,¬iH owner a->¬iH (owner.setIfInBounds j (some k)) a:=fun a ha z=>by
  by_cases c:a=j
  ·subst c;have:=Lh z;simp[il,hj]at this
  ·apply ha;unfold iH at z ⊢;simp only[kC]at z ⊢;rw[vc (bz c)]at z;exact z
 refine⟨j,f1,⟨by simp[g.sz],?_,fun j' i' hm=>?_⟩⟩
 ·have:=(hp.map (fun(x:Nat×Nat)=>x.2)).trans (ip.cons k g.pm);refine this.trans ?_;rw[List.range_succ];exact kD (l₁:=[k]) (l₂:=b_ k)
 ·rcases br.mp (hp.mem_iff.mp hm) with z|z
  ·cases z;exact⟨h,hh,s,f2,fun s' hs'=>stays _ (f4 s' hs')⟩
  ·obtain⟨h',e1,s1,e2,e3⟩:=g.reach j' i' z;exact⟨h',e1,s1,e2,fun s' hs'=>stays _ (e3 s' hs')⟩
theorem SQ{mask i:Nat}(h:i<=mask):i + (runEnd mask i - i)<=mask:=by unfold runEnd;split <;> lia
theorem acO(t:cb)(p:Probe)(h:p.j + p.more<=t.mask):∀s,(nF t s p).j + (nF t s p).more<=t.mask:=by
 intro s
 induction s with
 |zero=>exact h
 |succ s ih =>
  rw[lW];unfold advance;split
  ·simp only;lia
  ·exact SQ (Nat.le_of_lt_succ (m_ _ (by lia)))
theorem Tc(t:cb)(h:Int)(s:Nat):pos t h s<=t.mask:=by have:=acO t (t.probeStart h) (SQ (Nat.le_of_lt_succ (m_ _ (by lia)))) s;unfold pos;lia
theorem Td{t:cb}(pw:∃q,t.mask + 1=2 ^ q)(hs:List Int)(hn:hs.length<=t.mask):∀(rest pre:List Int) (owner:Array (Option Nat)),hs=pre++rest->LC t hs owner pre.length ->
  ∃BW,rest.foldl (init:=some (owner,pre.length)) (fun acc h=>do
    let (owner,k) <- acc
    let j <- layClean.free t.mask owner (turns t.mask) (bits h % (t.mask + 1)) (bits h)
    pure (owner.setIfInBounds j (some k),k + 1))=some (BW,hs.length)/\LC t hs BW hs.length:=by
 intro rest
 induction rest with
 |nil =>
  intro pre owner e g;rw[eI]at e;subst e;exact⟨owner,rfl,g⟩
 |cons h rest ih =>
  intro pre owner e g;have hk:hs[pre.length]?=some h:=by rw[e];simp
  have hl:pre.length<=t.mask:=by rw[e]at hn;simp at hn;lia
  obtain⟨j,f1,g1⟩:=g.step pw hl hk;obtain⟨BW,e1,g2⟩:=ih (pre++[h]) (owner.setIfInBounds j (some pre.length)) (by rw[e];simp) (by simpa using g1);refine⟨BW,?_,g2⟩;rw[ll];have:(some (owner,pre.length) >>= fun x=>match x with
    | (owner,k)=>layClean.free t.mask owner (turns t.mask) (bits h % (t.mask + 1)) (bits h) >>= fun j=>pure (owner.setIfInBounds j (some k),k + 1))=some (owner.setIfInBounds j (some pre.length),(pre++[h]).length):=by
   show(layClean.free t.mask owner (turns t.mask) (bits h % (t.mask + 1)) (bits h) >>= fun j=>pure (owner.setIfInBounds j (some pre.length),pre.length + 1))=_;rw[f1];simp
  exact(congrArg (fun o=>rest.foldl _ o) this).trans e1
theorem LC.start(t:cb)(hs:List Int):LC t hs (rh (t.mask + 1) none) 0:=by
 have e:fG (t.mask + 1) (rh (t.mask + 1) none)=[]:=by
  unfold fG;rw[List.filterMap_eq_nil_iff];intro j hj;have:(rh (t.mask + 1) (none:Option Nat)).getD j none=none:=by simp only[kC,Array.getElem?_replicate];split <;> rfl
  rw[this];rfl
 refine⟨by simp,by rw[e];exact .refl _,fun j i h=>?_⟩;rw[e]at h;cases h
theorem Fp{t:cb}(pw:∃q,t.mask + 1=2 ^ q)(hs:Array Int)(hn:hs.size<=t.mask):∃owner,layClean t.mask hs=some owner/\LC t hs.toList owner hs.size:=by obtain⟨owner,e,g⟩:=Td pw hs.toList (by simpa using hn) hs.toList [] (rh (t.mask + 1) none) rfl (LC.start t _);refine⟨owner,?_,by simpa using g⟩;unfold layClean;rw[<- Array.foldl_toList];have e':=congrArg (Option.map (·.1)) e;exact e'
theorem BX:∀(fuel size n:Nat),(∃q,size=2 ^ q)->8<=size->n < size * 2 ^ fuel->∃q,sizeAbove.go n fuel size=2 ^ q/\8<=sizeAbove.go n fuel size/\n < sizeAbove.go n fuel size/\(sizeAbove.go n fuel size=size∨sizeAbove.go n fuel size<=2 * n):=by
 intro fuel
 induction fuel with
 |zero=>intro size n ⟨q,hq⟩ h8 h;exact⟨q,hq,h8,by simpa[sizeAbove.go] using h,.inl rfl⟩
 |succ fuel ih =>
  intro size n ⟨q,hq⟩ h8 h;unfold sizeAbove.go;by_cases c:size<=n
  ·rw[if_pos c];obtain⟨q',a1,a2,a3,a4⟩:=ih (size * 2) n ⟨q + 1,by rw[hq,l5]⟩ (by lia) (by rw[qS,<- Nat.pow_succ'];exact h);refine⟨q',a1,a2,a3,.inr ?_⟩;rcases a4 with a4|a4
   ·rw[a4];lia
   ·exact a4
  ·rw[if_neg c];exact⟨q,hq,h8,by lia,.inl rfl⟩
theorem BZ(n:Nat)(hn:n < 2 ^ 60):(∃q,sizeAbove n - 1 + 1=2 ^ q)/\7<=sizeAbove n - 1/\n<=sizeAbove n - 1/\(sizeAbove n - 1=7∨sizeAbove n<=2 * n):=by
 obtain⟨q,a1,a2,a3,a4⟩:=BX 64 8 n ⟨3,rfl⟩ (bE _) (vy hn (by decide));unfold sizeAbove;refine⟨⟨q,by rw[<- a1];lia⟩,by lia,by lia,?_⟩;rcases a4 with a4|a4
 ·left;lia
 ·right;exact a4
theorem Ol{mask:Nat}(pw:∃q,mask + 1=2 ^ q)(m7:7<=mask)(finger moves:Nat)(led plain:Bool)(es:List (Int×aa))(hn:es.length<=mask) :
  ∃t' order L,laid mask finger moves led plain (es.map (·.1)).toArray=some (t',order)/\t'.mask=mask/\t'.led=led/\t'.plain=plain/\t'.moves=moves/\Good t' L/\order.filterMap (fun i=>es.toArray[i]?)=(L.map (·.2)).toArray/\(L.map (·.2)).Perm es:=by
 let t0:cb:={ mask,place:=#[],dummies:=#[],finger,led,moves,plain }
 obtain⟨owner,e1,g⟩:=Fp (t:=t0) pw (es.map (·.1)).toArray (by simpa using hn)
 let live:=fG (mask + 1) owner
 let t1:cb:={ mask,place:=(live.map (·.1)).toArray,dummies:=#[],finger,led,moves,plain }
 have hi:∀j i,(j,i)∈live->∃e,es[i]?=some e:=fun j i h=>by obtain⟨hh,a1,_⟩:=g.reach j i h;simp only[cK,rf]at a1;obtain⟨e,a2,_⟩:=a1;exact⟨e,a2⟩
 let L:List iz:=live.filterMap fun x=>(es[x.2]?).map fun e=>(x.1,e)
 have hL1:∀l:List (Nat×Nat),(∀x∈l,∃e,es[x.2]?=some e)->(l.filterMap fun x=>(es[x.2]?).map fun e=>((x.1,e):iz)).map (·.1)=l.map (·.1):=by
  intro l
  induction l with
  |nil=>intro _;rfl
  |cons x l ih =>
   intro h;obtain⟨e,he⟩:=h x e_;rw[oD (by rw[he];rfl),bX,bX,ih fun y hy=>h y (fx _ hy)]
 have hL2:∀l:List (Nat×Nat),(l.filterMap fun x=>(es[x.2]?).map fun e=>((x.1,e):iz)).map (·.2)=(l.map (·.2)).filterMap fun i=>es[i]?:=by intro l;rw[v3,List.filterMap_map];refine rP fun x _=>?_;simp only[Function.comp];cases es[x.2]? <;> rfl
 have rg:∀l:List (Int×aa),(b_ l.length).filterMap (fun i=>l[i]?)=l:=by
  intro l
  induction l with
  |nil=>rfl
  |cons a l ih =>
   rw[ck,mS,oD (by rfl),List.filterMap_map];congr 1
 have pmL:(L.map (·.2)).Perm es:=by
  show((live.filterMap fun x=>(es[x.2]?).map fun e=>((x.1,e):iz)).map (·.2)).Perm es;rw[hL2];have:=(g.pm.filterMap fun i=>es[i]?)
  have e2:(es.map (·.1)).toArray.size=es.length:=by simp
  rw[e2]at this;rw[rg]at this;exact this
 refine⟨t1,(live.map (·.2)).toArray,L,?_,rfl,rfl,rfl,rfl,⟨pw,m7,rfl,?_,?_,fun e he=>?_,fun e he=>?_⟩,?_,pmL⟩
 ·unfold laid;have e1':layClean mask (es.map (·.1)).toArray=some owner:=e1;rw[e1'];rfl
 ·show(live.map (·.1)).toArray=_;rw[show L.map (·.1)=live.map (·.1) from hL1 live fun x hx=>hi x.1 x.2 hx]
 ·rw[show L.map (·.1)=live.map (·.1) from hL1 live fun x hx=>hi x.1 x.2 hx];exact yM
 ·obtain⟨x,hx,h2⟩:=kc.mp he;obtain⟨e',_,rfl⟩:=rf.mp h2;have:=(mO (j:=x.1) (i:=x.2)).mp hx;show x.1<=mask;lia
 ·obtain⟨x,hx,h2⟩:=kc.mp he;obtain⟨e',h3,rfl⟩:=rf.mp h2;obtain⟨hh,a1,s,a2,a3⟩:=g.reach x.1 x.2 hx;simp only[cK,h3,oI,Option.some.injEq]at a1;subst a1;have pm:∀s,pos t1 e'.1 s=pos t0 e'.1 s:=fun s=>Fl (t:=t1) (t':=t0) rfl _ s;refine⟨s,by rw[pm];exact a2,fun s' hs=>?_⟩;have nn:=a3 s' hs;have hlt:pos t0 e'.1 s' < mask + 1:=Nat.lt_succ_of_le (Tc t0 e'.1 s');cases z:owner.getD (pos t0 e'.1 s') none with
  |none =>
   refine absurd ?_ nn;have hl:pos t0 e'.1 s' < owner.size:=by rw[g.sz];exact hlt
   simp only[iH,il,hl,dif_pos]at z ⊢;exact z
  |some i =>
   have hm:(pos t0 e'.1 s',i)∈live:=mO.mpr ⟨hlt,z⟩;obtain⟨e2,he2⟩:=hi _ _ hm;refine⟨(pos t0 e'.1 s',e2),kc.mpr ⟨_,hm,by rw[he2];rfl⟩,by rw[pm]⟩
 ·rw[show L.map (·.2)=(live.map (·.2)).filterMap fun i=>es[i]? from hL2 live];simp
end Tb
namespace Tb
open PySem PySem.Spec PySem.SetTable
noncomputable abbrev TK(prog:aI)(w:az):=n9 (cv prog w)
noncomputable abbrev hK(prog:aI)(w:az)(ks:List Int):Int:=tupleKeyHash (cv prog w) ks
noncomputable def acP(prog:aI)(w:az)(h:ay)(e:iz)(ks:List Int):Prop:=∃b,e.2.2=.ref b/\c_ (cv prog w) h ks b/\e.2.1=hK prog w ks
section
variable{prog:aI}{w:az}{A:aT}{E:aa->af->Prop}{s:af}
theorem Ca{n:Nat}{v:aa}(h:rj v=true):rn n v=pure false:=by
 cases v with
 |ref a=>simp[rj]at h
 |_=>first|rfl|(unfold rn;rfl)
theorem rQ{ks:List Int}{b:ae}{Q:Bool->af->Prop}(hk:c_ (cv prog w) s.heap ks b)(h:Q false s):ar (aw prog w) A (rn 8 (.ref b)) Q E s:=by
 have hT:=hk.typeIs;obtain⟨o,items,n,ho,hc,hd,hi⟩:=hk;unfold rn;refine ag (nh hT ?_);simp only[beq_self_eq_true,if_true];refine ag (aS ?_);simp only[eK,bP,if_false];refine ag (j7 ho hd ?_);refine ag ?_;show ar _ _ (forIn items _ _) _ _ s;rw[<- Array.forIn_toList];refine v_ _ (fun rest r s'=>r.1=none/\s'=s/\∀v∈rest,rj v=true) _ ?_ ?_ _ _ ⟨rfl,rfl,hi.byValue⟩
 ·rintro v rest r s' ⟨hr,rfl,hall⟩;rw[Ca (hall v e_)];refine ag (aS ?_);simp only[bP,if_false];exact aS ⟨rfl,rfl,fun u hu'=>hall u (fx _ hu')⟩
 ·rintro⟨r1,r2⟩ s' ⟨hr,rfl,_⟩;simp only at hr;subst hr;exact aS h
theorem Yy{ks:List Int}{b:ae}{Q:Bool->af->Prop}(hk:c_ (cv prog w) s.heap ks b)(ys:List aa)(hy:∀y∈ys,∃k' b',y=.ref b'/\c_ (cv prog w) s.heap k' b')(h:Q false s) :
  ar (aw prog w) A (searchCouldBeSeen (.ref b) ys) Q E s:=by
 unfold searchCouldBeSeen;refine ag ?_;refine v_ _ (fun rest r s'=>r.1=none/\s'=s/\∀y∈rest,∃k' b',y=.ref b'/\c_ (cv prog w) s.heap k' b') _ ?_ ?_ _ _ ⟨rfl,rfl,hy⟩
 ·rintro v rest r s' ⟨hr,rfl,hall⟩;obtain⟨k',b',rfl,hk'⟩:=hall v e_;have Li:∀y∈rest,∃k' b',y=aa.ref b'/\c_ (cv prog w) s'.heap k' b':=fun y hy=>hall y (fx _ hy);dsimp only;by_cases c:b=b'
  ·subst c;simp only[beq_self_eq_true,Bool.true_or,if_true];exact aS ⟨rfl,rfl,Li⟩
  ·have hc:(b == b')=false:=by simpa using c
   simp only[hc,rj,Bool.false_and,wa,bP,if_false];refine ag (wpAny_eqIsQuiet_tuple hk ?_);simp only[eK,bP,if_false];refine ag (wpAny_eqIsQuiet_tuple hk' ?_);simp only[eK,bP,if_false];refine ag (rQ hk ?_);simp only[bP,if_false];refine ag (rQ hk' ?_);simp only[bP,if_false];exact aS ⟨rfl,rfl,Li⟩
 ·rintro⟨r1,r2⟩ s' ⟨hr,rfl,_⟩;simp only at hr;subst hr;exact aS h
theorem Fq{a:ae}{Q:Bool->af->Prop}(h:Q true s):ar (aw prog w) A (isSame (.ref a) (.ref a)) Q E s:=by unfold isSame;simp only[beq_self_eq_true,if_true];exact aS h
end
section
variable{prog:aI}{w:az}{A:aT}{E:aa->af->Prop}{s:af}
noncomputable abbrev dg(L:List iz)(ep:Nat)(t:cb):Obj:={ cls:=.type "set",dict:=none,data:=.set (L.map (·.2)).toArray ep t }
theorem Good.fits{t:cb}{L:List iz}(g:Good t L)(hl:L.length<=t.mask):t.fits ((L.map (·.2)).toArray).size=true:=by
 unfold j5.fits;have h1:t.fill<=t.mask:=by unfold fill;rw[g.nd,g.sz];simpa using hl
 simp[g.sz,h1]
theorem Good.odd{t:cb}{L:List iz}(g:Good t L):t.gaveWay=false:=by
 obtain⟨k,hk⟩:=g.pw;have h7:=g.m7;unfold gaveWay;cases k with
 |zero=>simp at hk;lia
 |succ k =>
  have:t.mask % 2=1:=by rw[l5]at hk;lia
  simp[this]
theorem Iv{a b:ae}{ks:List Int}{L:List iz}{ep:Nat}{t:cb}{f:iz->List Int}{Q:SetFound->af->Prop}(ho:s.heap.get? a=some (dg L ep t))(g:Good t L)(hl:L.length<=t.mask)(hf:∀e∈L,acP prog w s.heap e (f e))
  (hb:c_ (cv prog w) s.heap ks b) (hu:A.units < bS) (q1:(∃e∈L,f e=ks)->Q (.there none) s)
  (q2:∀j,j<=t.mask->¬wJ t j->(∃n,pos t (hK prog w ks) n=j/\∀n',n' < n->∃e'∈L,e'.1=pos t (hK prog w ks) n')->(∀e∈L,f e≠ks)->Q (.free j false) s) :
  ∀(fuel s0 sE:Nat) (Iw:Option Probe),s0<=sE->sE < s0 + fuel->sE < s0 + 10 * turns t.mask->¬wJ t (pos t (hK prog w ks) sE)->Iw.getD (t.probeStart (hK prog w ks))=nF t s0 (t.probeStart (hK prog w ks)) ->
   (∀n,n < s0->∃e∈L,e.1=pos t (hK prog w ks) n/\f e≠ks)->ar (aw prog w) A (rL a (.ref b) (hK prog w ks) true fuel Iw) Q E s:=by
 intro fuel
 induction fuel with
 |zero=>intro s0 sE _ h1 h2;lia
 |succ fuel ih =>
  intro s0 sE Iw h1 h2 h2' hE hst hpre;unfold rL;refine ag (kF ho rfl (g.fits hl) ?_);simp only[g.odd,bP,if_false];obtain⟨s2,a1,a2,a3,a4⟩:=SM g.rise g.nd (fun i=>((((L.map (·.2)).toArray)[i]?).map (·.1)).getD 0) (hK prog w ks) (10 * turns t.mask) s0 sE h1 h2' hE;have hh:∀i (hi:i < L.length),((((L.map (·.2)).toArray)[i]?).map (·.1)).getD 0=L[i].2.1:=fun i hi=>by simp[hi]
  have passed:∀n,n < s2->∃e∈L,e.1=pos t (hK prog w ks) n/\f e≠ks:=fun n hn=>by
   by_cases c:n < s0
   ·exact hpre n c
   ·obtain⟨i,hi,e1,e2⟩:=a3 n (by lia) hn;rw[g.sz]at hi;rw[g.at hi]at e1;rw[hh i hi]at e2;refine⟨L[i],fI hi,e1,fun z=>e2 ?_⟩;obtain⟨b',_,_,e3⟩:=hf _ (fI hi);rw[e3,z]
  rcases a4 with ⟨hne,hp⟩|⟨i,hi,e1,e2,hp⟩
  ·-- an empty slot
   have hp':t.probe (fun i=>((((L.map (·.2)).toArray)[i]?).map (·.1)).getD 0) (hK prog w ks) (Iw.getD (t.probeStart (hK prog w ks)))=some (.empty (pos t (hK prog w ks) s2) none):=by rw[hst];exact hp
   generalize hr:t.probe _ (hK prog w ks) (Iw.getD (t.probeStart (hK prog w ks)))=r;obtain rfl:r=_:=hr.symm.trans hp';simp only;refine aS (q2 _ (Tc t _ _) hne ⟨s2,rfl,fun n hn=>?_⟩ fun e he z=>?_)
   ·obtain⟨e,he,q,_⟩:=passed n hn;exact⟨e,he,q⟩
   ·obtain⟨b',_,_,e3⟩:=hf e he;obtain⟨n,r1,r2⟩:=g.reach e he;rw[e3,z]at r1 r2;by_cases c:n < s2
    ·obtain⟨e',he',q,ne⟩:=passed n c;have:=g.uniq he' he (q.trans r1);subst this;exact ne z
    ·by_cases d:s2 < n
     ·obtain⟨e',he',q⟩:=r2 s2 d;exact hne (g.live.mpr ⟨e',he',q⟩)
     ·obtain rfl:n=s2:=by lia
      exact hne (g.live.mpr ⟨e,he,r1.symm⟩)
  ·-- a key with the same hash
   rw[g.sz]at hi;have e1':=e1;rw[g.at hi]at e1;obtain⟨b',hv,hk',hx⟩:=hf _ (fI hi);have hp':t.probe (fun i=>((((L.map (·.2)).toArray)[i]?).map (·.1)).getD 0) (hK prog w ks) (Iw.getD (t.probeStart (hK prog w ks)))=some (.candidate (pos t (hK prog w ks) s2) i (nF t (s2 + 1) (t.probeStart (hK prog w ks)))):=by rw[hst];exact hp
   generalize hr:t.probe _ (hK prog w ks) (Iw.getD (t.probeStart (hK prog w ks)))=r;obtain rfl:r=_:=hr.symm.trans hp';simp only;have ei:((L.map (·.2)).toArray)[i]?=some (L[i].2.1,.ref b'):=by
    have:((L.map (·.2)).toArray)[i]?=some L[i].2:=by simp[hi]
    rw[this,<- hv]
   have rest:ar (aw prog w) A (do
     let some (_,y):=((L.map (·.2)).toArray)[i]?|unsupported "internal:set-entry"
     let equal <- gf [y] (eqBool y (.ref b))
     let (es',_,t') <- setState a
     if true && equal then return .there none
     let some same:=t'.sameMemory t.moves t.mask|unsupported "set.changed-during-lookup:is-the-new-block-at-the-old-address"
     let still <- match (if same then t'.slot (pos t (hK prog w ks) s2) else .empty) with
      | .live i'=>match es'[i']? with
       |some (_,y')=>do pure (if <- isSame y' y then some i' else none)
       |none=>pure none
      |_=>pure none
     match still with
     |none=>rule "set.search.anew";rL a (.ref b) (hK prog w ks) true fuel none
     |some i'=>if equal then return .there (some i') else rL a (.ref b) (hK prog w ks) true fuel (some (nF t (s2 + 1) (t.probeStart (hK prog w ks))))) Q E s:=by
    rw[ei];simp only;refine ag (f_ ((TK prog w).eqBool hu hk' hb ?_));refine ag (kF ho rfl (g.fits hl) ?_);by_cases c:f L[i]=ks
    ·simp only[c,decide_true,Bool.and_self,if_true];exact aS (q1 ⟨_,fI hi,c⟩)
    ·simp only[c,decide_false,oz,bP,if_false];have hsm:t.sameMemory t.moves t.mask=some true:=by unfold sameMemory;simp
     rw[hsm];simp only[if_true];have hsl:t.slot (pos t (hK prog w ks) s2)=.live i:=by rw[<- e1'];exact zM g.rise (by rw[g.sz];exact hi)
     rw[hsl];simp only[ei];refine ag (Fq (ag (aS ?_)));simp only[if_true];have hne:s2≠sE:=fun z=>hE (z▸g.live.mpr ⟨_,fI hi,e1⟩);refine ih (s2 + 1) sE _ (by lia) (by lia) (by lia) hE rfl fun n hn=>?_;by_cases d:n=s2
     ·subst d;exact⟨_,fI hi,e1,c⟩
     ·exact passed n (by lia)
   cases ajO:t.led with
   |true=>simp only[eK,bP,if_false];exact rest
   |false =>
    simp only[l_,if_true];refine ag (Yy hb _ (fun y hy=>?_) ?_)
    ·obtain⟨e,he,rfl⟩:=dt.mp hy;have he':e∈(L.map (·.2)):=by have:=Array.mem_toList_iff.mp he;have:=(Array.mem_filter.mp this).1;simpa using this
     obtain⟨e0,h0,rfl⟩:=dt.mp he';obtain⟨b2,hv2,hk2,_⟩:=hf e0 h0;exact⟨_,b2,hv2,hk2⟩
    ·simp only[bP,if_false];exact rest
end
section
variable{prog:aI}{w:az}{A:aT}{E:aa->af->Prop}{s:af}
theorem Ft{ks:List Int}{b:ae}{Q:Bool->af->Prop}(hk:c_ (cv prog w) s.heap ks b)(h:Q true s):ar (aw prog w) A (rS 8 (.ref b)) Q E s:=by
 have hT:=hk.typeIs;obtain⟨o,items,n,ho,hc,hd,hi⟩:=hk;have allI:∀v∈items.toList,∃i t,v=.int i t:=by
  clear hd;generalize items.toList=l at hi
  induction hi with
  |nil=>intro v hv;cases hv
  |cons h1 _ ih =>
   intro v hv;rcases br.mp hv with rfl|hv
   ·cases v with
    |int i t=>exact⟨i,t,rfl⟩
    |_=>simp[cv,aa.isInt]at h1
   ·exact ih v hv
 unfold rS;refine ag (wb hT F.slot_tuple_hash.lookup ?_);simp only;refine ag (j7 ho hd ?_);simp only[oP];refine ag ?_;rw[<- Array.forIn_toList];refine v_ _ (fun rest r s'=>r.1=none/\s'=s/\∀v∈rest,∃i t,v=.int i t) _ ?_ ?_ _ _ ⟨rfl,rfl,allI⟩
 ·rintro v rest r s' ⟨hr,rfl,hall⟩;obtain⟨i,t,rfl⟩:=hall v e_;have:rS 7 (.int i t)=pure true:=by unfold rS;rfl
  rw[this];refine ag (aS ?_);simp only[eK,bP,if_false];exact aS ⟨rfl,rfl,fun u hu'=>hall u (fx _ hu')⟩
 ·rintro⟨r1,r2⟩ s' ⟨hr,rfl,_⟩;simp only at hr;subst hr;exact aS h
noncomputable abbrev vm(w:az):Bool:=w.params.followText "set-order"
noncomputable def cX(prog:aI)(w:az)(U:ae->List Int->Prop)(h:ay)(a:ae)(aP:LL):Prop :=
 ∃(L:List iz) (ep:Nat) (t:cb) (f:Int×aa->List Int),h.get? a=some (dg L ep t)/\Good t L/\L.length * 5 < t.mask * 3/\t.mask < 8192/\(t.plain=true/\t.led=!vm w)/\(∀e∈L,acP prog w h e (f e.2))/\(L.map fun e=>f e.2).Perm aP/\aP.Nodup/\∀e∈L,∀b,e.2.2=.ref b->U b (f e.2)
theorem wK{h h':ay}{a:ae}{L:List iz}{ep:Nat}{t:cb}{ks:List Int}{b:ae}(ho:h.get? a=some (dg L ep t))(hs:dQ a h h')(hk:c_ (cv prog w) h ks b):c_ (cv prog w) h' ks b:=by
 obtain⟨o,items,n,h1,h2,h3,h4⟩:=hk;have ne:b≠a:=fun z=>by subst z;rw[ho]at h1;cases h1;cases h3
 exact⟨o,items,n,(hs.2 b ne).trans h1,h2,h3,h4⟩
theorem Fv{a:ae}{L L':List iz}{ep:Nat}{t t':cb}{Q:Unit->af->Prop}(ho:s.heap.get? a=some (dg L ep t))(hz:L'.length<=1000000)(h:∀h',dQ a s.heap h'->h'.get? a=some (dg L' (ep + 1) t')->Q () { s with heap:=h' }) :
  ar (aw prog w) A (storeSet a (L'.map (·.2)).toArray t') Q E s:=by
 refine wpAny_storeSet_of ho rfl (h _ (i4 s.heap a _) ?_) (by rw[ef];simp;lia);have hd:(dg L ep t).data=.set (L.map (·.2)).toArray ep t:=rfl;have:=gS (Obj.putSet (L'.map (·.2)).toArray t') ho (by rw[putSet_of _ _ hd];rfl);rw[putSet_of _ _ hd]at this;exact this
theorem Te{a:ae}{L:List iz}{ep:Nat}{t:cb}{Q:Unit->af->Prop}(ho:s.heap.get? a=some (dg L ep t))(g:Good t L)(hl:L.length<=t.mask)(h1:1<=L.length)(hz:L.length<=4900)(hp:t.plain=true)
  (h:∀h' L' t',dQ a s.heap h'->h'.get? a=some (dg L' (ep + 1) t')->Good t' L'->L'.length * 5 < t'.mask * 3->(t'.mask=7∨t'.mask + 1<=8 * L'.length)/\L'.length * 4<=t'.mask->(t'.plain=true/\t'.led=t.led)->(L'.map (·.2)).Perm (L.map (·.2))->Q () { s with heap:=h' }) :
  ar (aw prog w) A (setRelay a (grown L.length)) Q E s:=by
 have hg:grown L.length=L.length * 4:=by unfold grown;rw[if_neg (by lia)]
 rw[hg];obtain⟨s1,s2,s3,s4⟩:=BZ (L.length * 4) (by lia);unfold setRelay;refine ag (kF ho rfl (g.fits hl) ?_);have hsz:¬sizeAbove (L.length * 4) > sizeLine:=by rw[ef];lia
 simp only[hsz,if_false];obtain⟨t',order,L',e1,e2,e3,e4,e5,g',e6,e7⟩:=Ol s1 s2 t.finger (t.movedTo (sizeAbove (L.length * 4) - 1)) t.led t.plain (L.map (·.2)) (by simp;lia);have hlen:L'.length=L.length:=by have:=e7.length_eq;simpa using this
 have er:t.relaid (((L.map (·.2)).toArray).map (·.1)) (L.length * 4)=some (t',order):=by
  unfold relaid;have:((L.map (·.2)).toArray).map (·.1)=((L.map (·.2)).map (·.1)).toArray:=by simp
  rw[this];exact e1
 have main:ar (aw prog w) A (do
   let some (t,order):=t.relaid (((L.map (·.2)).toArray).map (·.1)) (L.length * 4)|unsupported "internal:set-table-without-room"
   let es':=order.filterMap (((L.map (·.2)).toArray)[·]?)
   if es'.size != ((L.map (·.2)).toArray).size then unsupported "internal:set-table-lost-an-element"
   pure (es',t)) (fun r s'=>ar (aw prog w) A (storeSet a r.1 r.2) Q E s') E s:=by
  rw[er];simp only;rw[e6];have:((L'.map (·.2)).toArray.size != ((L.map (·.2)).toArray).size)=false:=by simp[hlen]
  rw[this];simp only[bP,if_false];refine aS ?_;refine Fv (t':=t') ho (by lia) fun h' hs hg=>h h' L' t' hs hg g' (by rw[e2,hlen];lia) ?_ ⟨e4.trans hp,e3⟩ e7;rw[e2,hlen];refine⟨?_,s3⟩;rcases s4 with s4|s4
  ·exact .inl s4
  ·right;lia
 exact ag main
end
section
variable{prog:aI}{w:az}{U:ae->List Int->Prop}{A:aT}{E:aa->af->Prop}{s:af}
theorem cX.len{h:ay}{a:ae}{aP:LL}(x:cX prog w U h a aP):∃(L:List iz) (ep:Nat) (t:cb),h.get? a=some (dg L ep t)/\L.length=aP.length:=by obtain⟨L,ep,t,f,ho,_,_,_,_,_,hp,_⟩:=x;exact⟨L,ep,t,ho,by have:=hp.length_eq;simpa using this⟩
theorem Yz{m:Nat}(h:∃k,m + 1=2 ^ k)(hl:m < 16380):m < 8192:=by
 obtain⟨k,hk⟩:=h;have:k<=13:=Nat.le_of_not_lt fun z=>by
  have:=Nat.pow_le_pow_right (show 0 < 2 by decide) z;rw[<- hk]at this;have e:2 ^ (13 + 1)=16384:=by decide
  lia
 have:=Nat.pow_le_pow_right (show 0 < 2 by decide) this;rw[<- hk]at this;have e:2 ^ 13=8192:=by decide
 lia
theorem rR{m:Nat}(n:Nat)(h:∃k,m + 1=2 ^ k)(lo:2 ^ n < 2 * (m + 1))(hi:m + 1 < 2 ^ (n + 1)):m + 1=2 ^ n:=by obtain⟨k,hk⟩:=h;rw[hk]at lo hi ⊢;have h1:n < k + 1:=(Nat.pow_lt_pow_iff_right (a:=2) (by decide)).mp (by rw[l5 2 k,Nat.mul_comm];exact lo);have h2:k < n + 1:=(Nat.pow_lt_pow_iff_right (a:=2) (by decide)).mp hi;rw[show k=n by lia]
noncomputable def Mk(h:ay)(a:ae):Prop:=∀L ep t,h.get? a=some (dg L ep t)->t.mask=7∨t.mask=31∨t.mask=127∨t.mask=511∨t.mask=2047∨t.mask=8191
theorem Mk.of{h:ay}{a:ae}{L:List iz}{ep:Nat}{t:cb}(ho:h.get? a=some (dg L ep t))(m:t.mask=7∨t.mask=31∨t.mask=127∨t.mask=511∨t.mask=2047∨t.mask=8191):Mk h a:=fun L2 ep2 t2 h2=>by rw[ho]at h2;have:=congrArg Obj.data (dE h2);have e:Data.set (L.map (·.2)).toArray ep t=.set (L2.map (·.2)).toArray ep2 t2:=this;injection e with _ _ e;rw[<- e];exact m
theorem Iz{q:Bool}{a b:ae}{ks:List Int}{aP:LL}{Q:Bool->af->Prop}(hS:cX prog w U s.heap a aP)(hq:q=true->Mk s.heap a)(hn:aP.length < if q then 4900 else 2040)(hb:c_ (cv prog w) s.heap ks b)(hU:U b ks)(hu:A.units < bS)
  (h:∀h' added,dQ a s.heap h'->cX prog w U h' a (if ks∈aP then aP else ks::aP)->(q=true->Mk h' a)->Q added { s with heap:=h' }):ar (aw prog w) A (setAddHashed a (.ref b) (hK prog w ks)) Q E s:=by
 have hS0:=hS;obtain⟨L,ep,t,f,ho,g,room,mb,⟨pl,ld⟩,hf,hp,nd,uu⟩:=hS;have hlen:L.length=aP.length:=by have:=hp.length_eq;simpa using this
 have h7:=g.m7;have hl:L.length<=t.mask:=by lia
 have aiS:t.mask < 8192:=mb;have hn4:aP.length < 4900:=by cases q <;> simp at hn <;> lia
 have self:∀added,(ks∈aP)->Q added s:=fun added hm=>by have:=h s.heap added (dQ.refl a s.heap) (by rw[if_pos hm];exact hS0) hq;cases s;exact this
 unfold setAddHashed;refine f_ ?_;unfold setAddHashedIn;refine ag (kF ho rfl (g.fits hl) ?_);have hby:byScan (.ref b) (L.map (·.2)).toArray=false:=by simp[byScan,aa.scannable]
 simp only[hby,bP,if_false];obtain⟨e0,he0,hE0⟩:=Ir g.rise (by rw[g.sz];exact hl);obtain⟨k,hk⟩:=g.pw;obtain⟨sE,_,hsE,pE⟩:=Yv hk (hK prog w ks) 0 he0;refine ag ?_;unfold setSearch;refine Iv (f:=fun e=>f e.2) (Q:=fun r s'=>ar (aw prog w) A (match r with
  | .free slot wasDummy=>_
  |_=>_) Q E s') ho g hl hf hb hu (fun hm=>?_) (fun j hj hnl hr hno=>?_) 100000 0 sE none (d_ _) (by lia) (by unfold turns;lia) (by rw[pE];exact hE0) rfl (fun n hn=>absurd hn (by lia))
 ·obtain⟨e,he,q⟩:=hm;exact aS (self false (hp.mem_iff.mp (dt.mpr ⟨e,he,q⟩)))
 ·have hnk:¬ks∈aP:=fun z=>by obtain⟨e,he,q⟩:=dt.mp (hp.mem_iff.mpr z);exact hno e he q
  obtain⟨p1,g'⟩:=g.put (h:=hK prog w ks) (x:=.ref b) hj hnl hr;simp only;refine ag (kF ho rfl (g.fits hl) ?_);have epl:(t.put j).1.plain=true:=by rw[BR t g.nd];exact pl
  have emk:(t.put j).1.mask=t.mask:=by rw[BR t g.nd]
  have eld:(t.put j).1.led=!vm w:=by rw[BR t g.nd];exact ld
  generalize hpt:t.put j=tp at p1 g' epl emk eld;obtain⟨t',p⟩:=tp;simp only at p1 g' epl emk eld ⊢;simp only[epl,if_true];refine ag (Ft hb ?_);simp only[if_true];have ein:insertAt (L.map (·.2)).toArray p (hK prog w ks,aa.ref b)=((L.take p++(j,hK prog w ks,aa.ref b)::L.drop p).map (·.2)).toArray:=by rw[qx _ _ (by simpa using p1)];simp[vF,vS]
  rw[ein];generalize hL':L.take p++(j,hK prog w ks,aa.ref b)::L.drop p=L' at g' ⊢;have hlen':L'.length=L.length + 1:=by rw[<- hL'];simp;lia
  have Tf:L'.Perm ((j,hK prog w ks,aa.ref b)::L):=by rw[<- hL'];refine(List.perm_middle).trans ?_;rw[ng]
  have hfj:∀e∈L,e.2≠(hK prog w ks,aa.ref b):=fun e he z=>by obtain⟨b',h1,h2,h3⟩:=hf e he;rw[z]at h1;cases h1;exact hno e he (h2.inj hb)
  let f':Int×aa->List Int:=fun x=>if x=(hK prog w ks,aa.ref b) then ks else f x
  have keys:∀{h':ay},dQ a s.heap h'->∀e∈L',acP prog w h' e (f' e.2):=fun {h'} hs e he=>by
   rcases br.mp (Tf.mem_iff.mp he) with z|z
   ·subst z;exact⟨b,rfl,by simp only[f',if_true];exact wK ho hs hb,by simp only[f',if_true]⟩
   ·obtain⟨b',h1,h2,h3⟩:=hf e z;have:f' e.2=f e.2:=by simp only[f'];rw[if_neg (hfj e z)]
    exact⟨b',h1,by rw[this];exact wK ho hs h2,by rw[this];exact h3⟩
  have aax:(L'.map fun e=>f' e.2).Perm (ks::aP):=by
   refine(Tf.map _).trans ?_;simp only[bX,f',if_true];refine ip.cons _ ?_;have:(L.map fun e=>if e.2=(hK prog w ks,aa.ref b) then ks else f e.2)=L.map fun e=>f e.2:=nv fun e he=>by rw[if_neg (hfj e he)]
   rw[this];exact hp
  have nd':(ks::aP).Nodup:=gE.mpr ⟨hnk,nd⟩;have uu':∀e∈L',∀c,e.2.2=.ref c->U c (f' e.2):=fun e he c ec=>by
   rcases br.mp (Tf.mem_iff.mp he) with z|z
   ·subst z;cases ec;simp only[f',if_true];exact hU
   ·rw[show f' e.2=f e.2 by simp only[f'];rw[if_neg (hfj e z)]];exact uu e z c ec
  refine ag (Fv (t':=t') ho (by lia) fun h1 hs1 ho1=>?_);have hfill:t'.fill=L'.length:=by unfold fill;rw[g'.nd,g'.sz];simp
  have esz:(L.map (·.2)).toArray.size + 1=L'.length:=by simp[hlen']
  cases htf:t'.tooFull with
  |false =>
   simp only[l_,oz,bP,if_false];have hroom:L'.length * 5 < t'.mask * 3:=by unfold tooFull at htf;rw[hfill]at htf;simpa using htf
   refine aS (h h1 true hs1 ?_ ?_)
   ·rw[if_neg hnk];exact⟨L',ep + 1,t',f',ho1,g',hroom,by rw[emk];exact mb,⟨epl,eld⟩,keys hs1,aax,nd',uu'⟩
   ·exact fun z=>.of ho1 (by rw[emk];exact hq z _ _ _ ho)
  |true =>
   simp only[l_,qv,if_true];rw[esz];refine ag (Te (s:={ s with heap:=h1 }) ho1 g' (by rw[emk];lia) (by lia) (by lia) epl fun h2 L2 t2 hs2 ho2 g2 r2 m2 p2 pm2=>?_);have hv:∀e∈L2,∃e1∈L',e1.2=e.2:=fun e he=>by have:e.2∈L'.map (·.2):=pm2.mem_iff.mp (dt.mpr ⟨e,he,rfl⟩);obtain⟨e1,h1,h2⟩:=dt.mp this;exact⟨e1,h1,h2⟩
   have hl2:L2.length=L'.length:=by have:=pm2.length_eq;simpa using this
   have full:t'.mask * 3<=L'.length * 5:=by unfold tooFull at htf;rw[hfill]at htf;simpa using htf
   rw[emk]at full;obtain⟨m2,m3⟩:=m2;rw[hl2]at m2 m3;have mk:q=true->t2.mask=7∨t2.mask=31∨t2.mask=127∨t2.mask=511∨t2.mask=2047∨t2.mask=8191:=fun z=>by
    rcases hq z _ _ _ ho with e|e|e|e|e|e <;> rw[e]at full room
    ·have:=rR 5 g2.pw (by lia) (by lia);lia
    ·have:=rR 7 g2.pw (by lia) (by lia);lia
    ·have:=rR 9 g2.pw (by lia) (by lia);lia
    ·have:=rR 11 g2.pw (by lia) (by lia);lia
    ·have:=rR 13 g2.pw (by lia) (by lia);lia
    ·lia
   refine aS (h h2 true (hs1.trans hs2) ?_ fun z=>.of ho2 (mk z));rw[if_neg hnk];refine⟨L2,ep + 1 + 1,t2,f',ho2,g2,r2,?_,⟨p2.1,p2.2.trans eld⟩,fun e he=>?_,?_,nd',fun e he c ec=>let ⟨e1,h1,q⟩:=hv e he;by rw[<- q];exact uu' e1 h1 c (by rw[q];exact ec)⟩
   ·cases q with
    |true=>have:=mk rfl;lia
    |false=>simp only[bP,if_false]at hn;exact Yz g2.pw (by lia)
   ·obtain⟨e1,he1,q⟩:=hv e he;obtain⟨b',k1,k2,k3⟩:=keys (hs1.trans hs2) e1 he1;rw[q]at k1 k2 k3;exact⟨b',k1,k2,k3⟩
   ·have:=(pm2.map f')
    rw[gr,gr]at this;exact this.trans aax
theorem Om{a b:ae}{ks:List Int}{aP:LL}{Q:Bool->af->Prop}(hS:cX prog w U s.heap a aP)(hm:Mk s.heap a)(hn:aP.length < 4900)(hb:c_ (cv prog w) s.heap ks b)(hU:U b ks)(hu:A.units < bS)
  (h:∀h' added tk,dQ a s.heap h'->cX prog w U h' a (if ks∈aP then aP else ks::aP)->Mk h' a->Q added { s with heap:=h',toks:=s.toks + tk }):ar (aw prog w) A (setAdd a (.ref b)) Q E s:=by
 unfold setAdd;refine f_ (ag (wpAny_pyHash_tuple hu hb ?_));exact Iz (q:=true) (s:={ s with toks:=s.toks + (ks.length + 1) }) hS (fun _=>hm) hn hb hU hu fun h' added hs hS' hm'=>h h' added _ hs hS' (hm' rfl)
end
noncomputable def ins(acc:LL)(k:List Int):LL:=if k∈acc then acc else k::acc
noncomputable def bI(l:LL):LL:=l.foldl ins []
theorem YB(acc:LL)(k:List Int):(ins acc k).length<=acc.length + 1:=by unfold ins;split <;> simp
theorem wL(l:LL):(bI l).length<=l.length:=by
 unfold bI;have:∀(l acc:LL),(l.foldl ins acc).length<=acc.length + l.length:=by
  intro l
  induction l with
  |nil=>intro acc;simp
  |cons a l ih=>intro acc;rw[ll];have:=ih (ins acc a);have:=YB acc a;simp only[ck];lia
 simpa using this l []
theorem acQ(acc:LL)(k:List Int):acc.length<=(ins acc k).length:=by unfold ins;split <;> simp
theorem uN(l:LL)(k:List Int):bI (l++[k])=ins (bI l) k:=by unfold bI;rw[List.foldl_append];rfl
theorem zN(l:LL):∀m,(bI l).length<=(bI (l++m)).length
 | []=>by simp
 |x::m=>by have:=zN (l++[x]) m;rw[fN,List.singleton_append]at this;exact dq (by rw[uN];exact acQ _ _) this
section
variable{prog:aI}{w:az}{U:ae->List Int->Prop}{A:aT}{R:Result->af->Prop}{I:ae}{fp wr:List ae}{G:Array kS->Array kS->Prop}{n:Nat}{P:Nat->aa->Prop}{St:Nat->af->Prop}
theorem cX.moved{h h':ay}{a:ae}{aP:LL}(x:cX prog w U h a aP)(k:∀b o,(b=a∨∃ks,c_ (cv prog w) h ks b)->h.get? b=some o->h'.get? b=some o):cX prog w U h' a aP:=by obtain⟨L,ep,t,f,ho,g,room,mb,pl,hf,hp,nd⟩:=x;refine⟨L,ep,t,f,k _ _ (.inl rfl) ho,g,room,mb,pl,fun e he=>?_,hp,nd⟩;obtain⟨b,h1,h2,h3⟩:=hf e he;have h2':=h2;obtain⟨o,items,m,q1,q2,q3,q4⟩:=h2;exact⟨b,h1,⟨o,items,m,k _ _ (.inr ⟨_,h2'⟩) q1,q2,q3,q4⟩,h3⟩
theorem Mk.moved{h h':ay}{a:ae}{aP:LL}(x:cX prog w U h a aP)(m:Mk h a)(k:∀o,h.get? a=some o->h'.get? a=some o):Mk h' a:=by obtain⟨L,ep,t,ho,_⟩:=x.len;exact .of (k _ ho) (m _ _ _ ho)
theorem Ti{h:ay}{b c:ae}{ks:List Int}{o:Obj}(hk:c_ (cv prog w) h ks b)(hc:h.get? c=some o)(hd:∀xs m,o.data≠.seq xs m):b≠c:=fun z=>by subst z;obtain⟨o',items,m,q1,q2,q3,q4⟩:=hk;rw[hc]at q1;cases q1;exact hd _ _ q3
theorem aay(W:WalksS prog w A.in1 I fp wr G n P St)(D:ae)(hDf:D∉fp)(hu:A.in1.units < bS)(ks:Nat->List Int)(hn:(bI ((b_ n).map ks)).length < 4900)(hwt:∀i s,St i s->∀b∈wr,∀o,s.heap.get? b=some o->∀xs m,o.data≠.seq xs m) :
  ∀(k i:Nat) (s:af),n - i=k->i<=n->St i s->(∀j v,P j v->∃b,v=.ref b/\b∉wr/\c_ (cv prog w) s.heap (ks j) b/\U b (ks j)) ->
   cX prog w U s.heap D (bI ((b_ i).map ks))->Mk s.heap D ->
   (∀s',Moved (D::wr) G s s'->cX prog w U s'.heap D (bI ((b_ n).map ks))->R (.ok (.ret .none)) s') ->
   ja (aw prog w) A (.builtin "set.update.loop" ⟨[.ref D,.ref I],[]⟩) R s:=by
 have hDw:D∉wr:=fun h=>hDf (W.sub _ h);have sub:∀b∈wr,b∈D::wr:=fun b hb=>fx _ hb;intro k
 induction k with
 |zero =>
  intro i s hk hi st hP hS hMk hR;have hw:=hwt i s st;obtain rfl:i=n:=by lia
  refine i5 PyProof.Rows.F.entry_set_update_loop ?_;rw[me wc _];show ar _ A.in1 (fy (.ref I) >>= _) _ _ s;refine ag (W.done s _ _ st fun s1 hm=>?_);show ar _ A.in1 (ret aa.none) _ _ s1;refine aS (hR s1 (hm.mono sub) (hS.moved fun b o hb e=>hm.heap b o (fun hbw=>?_) e));rcases hb with rfl|⟨k',hk'⟩
  ·exact hDw hbw
  ·exact Ti hk' e (hw b hbw o e) rfl
 |succ k ih =>
  intro i s hk hi st hP hS hMk hR;have hw:=hwt i s st;refine i5 PyProof.Rows.F.entry_set_update_loop ?_;rw[me wc _];show ar _ A.in1 (fy (.ref I) >>= _) _ _ s;refine ag (W.item i s _ _ (by lia) st fun v s1 hv st1 hm=>?_);have nw:∀b o,(b=D∨∃k',c_ (cv prog w) s.heap k' b)->s.heap.get? b=some o->b∉wr:=fun b o hb e hbw=>by
   rcases hb with rfl|⟨k',hk'⟩
   ·exact hDw hbw
   ·exact Ti hk' e (hw b hbw o e) rfl
  have key1:∀{b:ae}{k':List Int},c_ (cv prog w) s.heap k' b->c_ (cv prog w) s1.heap k' b:=fun {b k'} hk'=>by have hk0:=hk';obtain⟨o,items,m,q1,q2,q3,q4⟩:=hk';exact⟨o,items,m,hm.heap b o (nw b o (.inr ⟨_,hk0⟩) q1) q1,q2,q3,q4⟩
  have hS1:cX prog w U s1.heap D (bI ((b_ i).map ks)):=hS.moved fun b o hb e=>hm.heap b o (nw b o hb e) e;obtain⟨b,rfl,hbw,hbk,hbU⟩:=hP i v hv;show ar _ A.in1 (gf [aa.ref b] (setAdd D (.ref b)) >>= _) _ _ s1;have hlen:(bI ((b_ i).map ks)).length < 4900:=by
   have e:b_ n=b_ i++(b_ (n - i)).map (i + ·):=by rw[<- List.range_add];congr 1;lia
   rw[e,j6]at hn;exact iO (zN _ _) hn
  refine ag (f_ (Om hS1 (hMk.moved hS fun o e=>hm.heap D o hDw e) hlen (key1 hbk) hbU hu fun h2 added tk hs2 hS2 ahM=>?_));have hS2':cX prog w U h2 D (bI ((b_ (i + 1)).map ks)):=by rw[List.range_succ,j6,List.map_singleton,uN];exact hS2
  obtain⟨L1,ep1,t1,ho1,_⟩:=hS1.len;refine aS ⟨ny wc _,ih (i + 1) _ (by lia) (by lia) (W.frame _ s1 _ _ st1 (kG _ _) fun b hb o e=>?_) (fun j v hv=>?_) hS2' ahM fun s3 hm3 hS3=>?_⟩
  ·rw[hs2.2 b (fun z:b=D=>hDf (z▸hb))];exact e
  ·obtain⟨b,rfl,q1,q2,q3⟩:=hP j v hv;exact⟨b,rfl,q1,wK ho1 hs2 (key1 q2),q3⟩
  ·refine hR s3 (Moved.trans W.gtrans ((hm.mono sub).then_heap (kG _ _) fun b o hb e=>?_) hm3) hS3;rw[hs2.2 b (fun z:b=D=>hb (by rw[z];exact e_))];exact e
end
section
variable{prog:aI}{w:az}{A:aT}{E:aa->af->Prop}{s:af}
noncomputable abbrev cQ(led:Bool):Obj:={ cls:=.type "set",dict:=none,data:=.set #[] 0 (.fresh 0 0 led) }
theorem Tj(v:aa){Q₁:aa->af->Prop}(h:Q₁ (.ref s.heap.objs.size) { s with heap:=s.heap.push (cQ (!vm w)) }) :
  ja (aw prog w) A (.call (.builtin "set.__new__") ⟨[.type "set",v],[]⟩) (wants Q₁ E) s:=by
 refine codeAny_of_tree ?_;show ar _ A.in1 (do { checkBuiltinCall "set.__new__" ⟨[.type "set",v],[]⟩;again (.builtin "set.__new__" ⟨[.type "set",v],[]⟩) }) _ _ s;refine ag (rV (F.newCall_set_1 v) (aS ⟨ny F.plain_set_new _,i5 F.entry_set_new ?_⟩));rw[me F.plain_set_new _];have e:=sub_set_self;obtain⟨hp,g,d,tk,os⟩:=s;unfold Builtin.«set.__new__» cz.Frozenset.newClass;dsimp only
 wp_walk
 refine oQ (aS ?_);simp only[newObj];exact ag (wpAny_alloc (aS (aS h)))
theorem Fw{v:aa}{Q:aa->af->Prop}
  (hup:ar (aw prog w) A.in1.in1 (nz "set.__init__" s.heap.objs.size v) (fun _ s2=>Q (.ref s.heap.objs.size) s2) E { s with heap:=s.heap.push (cQ (!vm w)) }) :
  ar (aw prog w) A (call (.type "set") [v]) Q E s:=by
 obtain⟨cc,tl,hmro⟩:=kH.mro;have hmade:=kH.made;have hsub:=kH.sub;have nt:=kH.notType;have cc:=kH.canCreate;have tc:=F.typeCall_set_1 v;refine qB (codeAny_of_tree ?_);show ar _ _ (callAny (.type "set") _) _ _ _;refine aS ⟨Code.quiet_builtin _ (by decide+kernel),i5 F.entry_type_call ?_⟩;rw[aT.under_plain (weight_type_call_type "set" [v] []) rfl]
 repeat (any_goals (first|assumption|wp_step))
 refine lj (Tj v (E:=E) (Q₁:=fun obj s1=>obj=.ref s.heap.objs.size/\s1={ s with heap:=s.heap.push (cQ (!vm w)) }) ⟨rfl,rfl⟩) fun r s1 hr=>?_;cases r with
 |error e=>exact hr
 |ok fl =>
  cases fl with
  |ret obj =>
   obtain⟨e1,e2⟩:=hr;subst e1 e2;have hget:(s.heap.push (cQ (!vm w))).get? s.heap.objs.size=some (cQ (!vm w)):=cE _ rfl;have hty:we { s with heap:=s.heap.push (cQ (!vm w)) } (.ref s.heap.objs.size) "set":=⟨_,hget,rfl⟩
   have li:=kH.init.lookup;have bi:=kH.init.bind (.ref s.heap.objs.size)
   repeat (any_goals (first|assumption|wp_step))
   refine lj (codeAny_call_builtin (R:=wants (fun r s2=>r=.none/\Q (.ref s.heap.objs.size) s2) E) kH.init.plain F.entry_set_init (check_set_init_1 hty ?_)) fun r2 s2 hr2=>?_
   ·unfold Builtin.«set.__init__» noKeywords;have hu:=hup;generalize hU:nz=U at hu ⊢
    wp_walk
    exact eM hu (fun _ s2 hq=>aS ⟨rfl,hq⟩) fun _ _ x=>x
   ·cases r2 with
    |error e=>exact hr2
    |ok fl2 =>
     cases fl2 with
     |ret r =>
      obtain⟨rfl,hq⟩:=hr2
      repeat (any_goals (first|assumption|wp_step))
     |_=>exact hr2.elim
  |_=>exact hr.elim
end
namespace F
theorem sub_tuple_set:isSubtype (.type "tuple") (.type "set")=pure false:=by rw[mf];kernel_rfl
theorem sub_tuple_frozenset:isSubtype (.type "tuple") (.type "frozenset")=pure false:=by rw[mf];kernel_rfl
end F
section
variable{prog:aI}{w:az}{U:ae->List Int->Prop}{A:aT}{E:aa->af->Prop}{s:af}
theorem YC{h:ay}{D:ae}(ho:h.get? D=some (cQ (!vm w))):cX prog w U h D []:=by
 have no:∀(e:iz) (p:Prop),e∈([]:List iz)->p:=fun e p he=>by cases he
 exact⟨[],0,.fresh 0 0 (!vm w),fun _=>[],ho,⟨⟨3,rfl⟩,bE 7,rfl,rfl,qr.nil,fun e he=>no e _ he,fun e he=>no e _ he⟩,(show 0 < 21 by decide),(show(7:Nat) < 8192 by decide),⟨rfl,rfl⟩,fun e he=>no e _ he,ip.refl _,wm,fun e he=>no e _ he⟩
theorem Tn{h:ay}{D:ae}(ho:h.get? D=some (cQ (!vm w))):Mk h D:=.of (L:=[]) (ep:=0) (t:=.fresh 0 0 (!vm w)) ho (.inl rfl)
theorem Fx{l D:ae}{items:Array aa}{aP:LL}{Q:Unit->af->Prop}(hh:A.handled=none)(hu:A.units + 2 < bS)(hl:s.heap.IsList l items)(hS:cX prog w U s.heap D [])(hMk:Mk s.heap D)(hlD:l≠D)(hz:(bI aP).length < 4900)
  (hk:∀(i:Nat) v,items[i]?=some v->∃b,v=.ref b/\c_ (cv prog w) s.heap (aP.getD i []) b/\U b (aP.getD i [])) (hlen:aP.length=items.size)
  (h:∀h' tk,(∀b o,b≠D->s.heap.get? b=some o->h'.get? b=some o)->cX prog w U h' D (bI aP)->Q () { s with heap:=h',toks:=tk }) :
  ar (aw prog w) A (nz "set.__init__" D (.ref l)) Q E s:=by
 have hl0:=hl;have er:(b_ items.size).map (fun i=>aP.getD i [])=aP:=by
  rw[<- hlen];apply mh
  ·simp
  ·intro i h1 h2;simp at h1;simp[oS,h1]
 obtain⟨ol,hol,hcl,nl,hdl⟩:=hl;obtain⟨oc,od,odt,osl⟩:=ol;simp only at hcl hdl;subst hcl hdl;have e1:=F.sub_list_set;have e2:=F.sub_list_frozenset;have e3:(aa.type "list" == aa.type "dict")=false:=by decide
 unfold nz;generalize hPI:kU=PI
 wp_walk
 subst hPI;refine uj hl0 ?_;refine ag (o3 ?_);have hlt:l < s.heap.objs.size:=bu hol;obtain⟨L0,ep0,t0,hD0,_⟩:=hS.len;have uh:D < s.heap.objs.size:=bu hD0;have push:∀b o,s.heap.get? b=some o->(s.heap.push { cls:=.type "list_iterator",data:=.fields #[.ref l,.int 0 0] }).get? b=some o:=fun b o e=>cm _ e;have W:=(Walks.list (prog:=prog) (w:=w) (A:=A.in1) (by simpa using hh) s.heap.objs.size l (cn hlt) items).toS;refine aay W D (fun z=>?_) (by show A.units + 1 < bS;lia) (fun i=>aP.getD i []) (by rw[er];exact hz) (fun i s' st b hb o e xs m=>?_) (items.size - 0) 0 _ rfl (d_ _) ⟨⟨_,cE _ rfl,rfl,rfl⟩,hl0.push _⟩ (fun j v hv=>?_) (hS.moved fun b o _ e=>push b o e) (hMk.moved hS fun o e=>push D o e) fun s' hm hS'=>?_
 ·simp only[br,da,or_false]at z;rcases z with z|z
  ·exact absurd z (cn uh)
  ·exact hlD z.symm
 ·obtain rfl:b=s.heap.objs.size:=by simpa using hb
  obtain⟨⟨o',h1,h2,h3⟩,_⟩:=st;rw[e]at h1;cases h1;rw[h3];intro z;cases z
 ·obtain⟨b,rfl,hb,hU⟩:=hk j v hv;have hb0:=hb;obtain⟨o,its,m,q1,q2,q3,q4⟩:=hb;refine⟨b,rfl,?_,⟨o,its,m,push _ _ q1,q2,q3,q4⟩,hU⟩;simp only[br,da,or_false];exact cn (bu q1)
 ·obtain⟨h',g',d',tk',os'⟩:=s';have eg:g'=s.gens:=hm.gens;have ed:d'=s.drawn:=hm.drawn;have eo:os'=s.os:=hm.os;subst eg ed eo;rw[er]at hS';refine aS (h h' tk' (fun b o hb e=>hm.heap b o ?_ (push b o e)) hS');simp only[br,da,or_false,not_or];exact⟨hb,cn (bu e)⟩
theorem Cd{l D:ae}{items:Array aa}{aP:LL}{Q:Unit->af->Prop}(hh:A.handled=none)(hu:A.units + 2 < bS)(hl:s.heap.IsTuple l items)(hS:cX prog w U s.heap D [])(hMk:Mk s.heap D)(hlD:l≠D)(hz:(bI aP).length < 4900)
  (hk:∀(i:Nat) v,items[i]?=some v->∃b,v=.ref b/\c_ (cv prog w) s.heap (aP.getD i []) b/\U b (aP.getD i [])) (hlen:aP.length=items.size)
  (h:∀h' tk,(∀b o,b≠D->s.heap.get? b=some o->h'.get? b=some o)->cX prog w U h' D (bI aP)->Q () { s with heap:=h',toks:=tk }) :
  ar (aw prog w) A (nz "set.__init__" D (.ref l)) Q E s:=by
 have hl0:=hl;have er:(b_ items.size).map (fun i=>aP.getD i [])=aP:=by
  rw[<- hlen];apply mh
  ·simp
  ·intro i h1 h2;simp at h1;simp[oS,h1]
 obtain⟨ol,hol,hcl,nl,hdl⟩:=hl;obtain⟨oc,od,odt,osl⟩:=ol;simp only at hcl hdl;subst hcl hdl;have e1:=F.sub_tuple_set;have e2:=F.sub_tuple_frozenset;have e3:(aa.type "tuple" == aa.type "dict")=false:=by decide
 unfold nz;generalize hPI:kU=PI
 wp_walk
 subst hPI;refine qi hl0 ?_;refine ag (o3 ?_);have hlt:l < s.heap.objs.size:=bu hol;obtain⟨L0,ep0,t0,hD0,_⟩:=hS.len;have uh:D < s.heap.objs.size:=bu hD0;have push:∀b o,s.heap.get? b=some o->(s.heap.push { cls:=.type "tuple_iterator",data:=.fields #[.ref l,.int 0 0] }).get? b=some o:=fun b o e=>cm _ e;have W:=(Walks.tuple (prog:=prog) (w:=w) (A:=A.in1) (by simpa using hh) s.heap.objs.size l (cn hlt) items).toS;refine aay W D (fun z=>?_) (by show A.units + 1 < bS;lia) (fun i=>aP.getD i []) (by rw[er];exact hz) (fun i s' st b hb o e xs m=>?_) (items.size - 0) 0 _ rfl (d_ _) ⟨⟨_,cE _ rfl,rfl,rfl⟩,hl0.push _⟩ (fun j v hv=>?_) (hS.moved fun b o _ e=>push b o e) (hMk.moved hS fun o e=>push D o e) fun s' hm hS'=>?_
 ·simp only[br,da,or_false]at z;rcases z with z|z
  ·exact absurd z (cn uh)
  ·exact hlD z.symm
 ·obtain rfl:b=s.heap.objs.size:=by simpa using hb
  obtain⟨⟨o',h1,h2,h3⟩,_⟩:=st;rw[e]at h1;cases h1;rw[h3];intro z;cases z
 ·obtain⟨b,rfl,hb,hU⟩:=hk j v hv;have hb0:=hb;obtain⟨o,its,m,q1,q2,q3,q4⟩:=hb;refine⟨b,rfl,?_,⟨o,its,m,push _ _ q1,q2,q3,q4⟩,hU⟩;simp only[br,da,or_false];exact cn (bu q1)
 ·obtain⟨h',g',d',tk',os'⟩:=s';have eg:g'=s.gens:=hm.gens;have ed:d'=s.drawn:=hm.drawn;have eo:os'=s.os:=hm.os;subst eg ed eo;rw[er]at hS';refine aS (h h' tk' (fun b o hb e=>hm.heap b o ?_ (push b o e)) hS');simp only[br,da,or_false,not_or];exact⟨hb,cn (bu e)⟩
theorem Ce{l:ae}{items:Array aa}{aP:LL}{Q:aa->af->Prop}(hh:A.handled=none)(hu:A.units + 8 < bS)(hl:s.heap.IsList l items∨s.heap.IsTuple l items)(hz:(bI aP).length < 4900)
  (hk:∀(i:Nat) v,items[i]?=some v->∃b,v=.ref b/\c_ (cv prog w) s.heap (aP.getD i []) b/\U b (aP.getD i [])) (hlen:aP.length=items.size)
  (h:∀h' tk,(∀b o,s.heap.get? b=some o->h'.get? b=some o)->cX prog w U h' s.heap.objs.size (bI aP)->Q (.ref s.heap.objs.size) { s with heap:=h',toks:=tk }) :
  ar (aw prog w) A (call (.type "set") [.ref l]) Q E s:=by
 refine Fw ?_;have push:∀b o,s.heap.get? b=some o->(s.heap.push (cQ (!vm w))).get? b=some o:=fun b o e=>cm _ e;have hlt:l < s.heap.objs.size:=by rcases hl with ⟨o,e,_⟩|⟨o,e,_⟩ <;> exact bu e
 have hk':∀(i:Nat) v,items[i]?=some v->∃b,v=.ref b/\c_ (cv prog w) (s.heap.push (cQ (!vm w))) (aP.getD i []) b/\U b (aP.getD i []):=fun i v hv=>by obtain⟨b,e,⟨o,its,m,q1,q2,q3,q4⟩,hU⟩:=hk i v hv;exact⟨b,e,⟨o,its,m,push _ _ q1,q2,q3,q4⟩,hU⟩
 have hS:cX prog w U (s.heap.push (cQ (!vm w))) s.heap.objs.size []:=YC (cE _ rfl);have dX:∀h' tk,(∀b o,b≠s.heap.objs.size->(s.heap.push (cQ (!vm w))).get? b=some o->h'.get? b=some o)->cX prog w U h' s.heap.objs.size (bI aP)->Q (.ref s.heap.objs.size) { s with heap:=h',toks:=tk }:=fun h' tk k hS' =>
  h h' tk (fun b o e=>k b o (cn (bu e)) (push b o e)) hS'
 rcases hl with hl|hl
 ·exact Fx (s:={ s with heap:=s.heap.push (cQ (!vm w)) }) (by simpa using hh) (by show A.units + 1 + 1 + 2 < bS;lia) (hl.push _) hS (Tn (w:=w) (cE _ rfl)) (cn hlt) hz hk' hlen dX
 ·exact Cd (s:={ s with heap:=s.heap.push (cQ (!vm w)) }) (by simpa using hh) (by show A.units + 1 + 1 + 2 < bS;lia) (hl.push _) hS (Tn (w:=w) (cE _ rfl)) (cn hlt) hz hk' hlen dX
end
end Tb
namespace Tb
open PySem PySem.Spec PySem.SetTable
theorem wM{α:Type}:∀{l:List α}{n:Nat}(h:n < l.length),(l[n]::l.eraseIdx n).Perm l
 |a::l,0,_=>by simp
 |a::l,n + 1,h=>by have ih:=wM (l:=l) (n:=n) (by simpa using h);simp only[List.getElem_cons_succ,rX];exact(ip.swap ..).trans (ih.cons a)
theorem YD{α:Type}(next:Nat->Nat):∀(fuel k:Nat) (left:List α) (out:Array α),left.length<=fuel->(wo next fuel k left out).toList.Perm (out.toList++left):=by
 intro fuel
 induction fuel with
 |zero =>
  intro k left out h;obtain rfl:left=[]:=r8.mp (by lia);unfold wo;simp
 |succ fuel ih =>
  intro k left out h;unfold wo;cases left with
  |nil=>simp
  |cons a l =>
   have hlt:next k % (a::l).length < (a::l).length:=m_ _ (by simp);rw[cS hlt];simp only;have hlen:((a::l).eraseIdx (next k % (a::l).length)).length<=fuel:=by rw[List.length_eraseIdx_of_lt hlt];simp only[ck]at h ⊢;lia
   refine(ih (k + 1) _ _ hlen).trans ?_;rw[q_,fN];exact o6 _ (wM hlt)
theorem Oo{α:Type}(next:Nat->Nat)(xs:Array α):(wq next xs).toList.Perm xs.toList:=by unfold wq;simpa using YD next xs.size 0 xs.toList #[] (by simp)
noncomputable def lE(w:az)(D:ae)(ep:Nat)(L:List iz):Array (Int×aa):=if vm w=true then wq (w.params.setOrder D ep) (L.map (·.2)).toArray else (L.map (·.2)).toArray
theorem zO(w:az)(D:ae)(ep:Nat)(L:List iz):(lE w D ep L).toList.Perm (L.map (·.2)):=by
 unfold lE;split
 ·simpa using Oo (w.params.setOrder D ep) (L.map (·.2)).toArray
 ·exact .refl _
theorem pU(w:az)(D:ae)(ep:Nat)(L:List iz):(lE w D ep L).size=L.length:=by have:=(zO w D ep L).length_eq;simpa using this
structure Lies (t:cb)(L:List iz):Prop where
 pl:t.place=(L.map (·.1)).toArray
 so:(L.map (·.1)).Pairwise (· < ·)
 fl:t.fill<=t.mask
theorem Lies.sz{t:cb}{L:List iz}(g:Lies t L):t.place.size=L.length:=by rw[g.pl];simp
theorem Lies.at{t:cb}{L:List iz}(g:Lies t L){i:Nat}(hi:i < L.length):t.place.getD i 0=L[i].1:=by rw[g.pl];simp[il,hi]
theorem Lies.rise{t:cb}{L:List iz}(g:Lies t L):wI t.place:=by intro a b hab hb;rw[g.sz]at hb;rw[g.at (show a < L.length by lia),g.at hb];have:=(l9.mp g.so) a b (by simpa using(show a < L.length by lia)) (by simpa using hb) hab;simpa using this
theorem Lies.fits{t:cb}{L:List iz}(g:Lies t L)(hl:L.length<=t.mask):t.fits ((L.map (·.2)).toArray).size=true:=by unfold j5.fits;have h1:=g.fl;simp[g.sz,h1]
theorem Good.lies{t:cb}{L:List iz}(g:Good t L)(hl:L.length<=t.mask):Lies t L:=⟨g.pl,g.so,by unfold fill;rw[g.nd,g.sz];simpa using hl⟩
noncomputable def gk(w:az)(t:cb)(i:Nat):Nat:=if vm w=true then 0 else if i=0 then 0 else t.place.getD (i - 1) 0 + 1
section
variable{prog:aI}{w:az}{A:aT}{E:aa->af->Prop}{s:af}
theorem Lj{D:ae}{L:List iz}{ep:Nat}{t:cb}{i:Nat}{Q:Option (aa×Nat)->af->Prop}(ho:s.heap.get? D=some (dg L ep t))(g:Lies t L)(hl:L.length<=t.mask)(pl:t.plain=true)(ld:t.led=!vm w)(hi:i<=L.length)
  (h:Q (((lE w D ep L)[i]?).map fun e=>(e.2,gk w t (i + 1))) s):ar (aw prog w) A (setNext D (gk w t i) i ep) Q E s:=by
 unfold setNext;refine ag (kF ho rfl (g.fits hl) ?_);unfold setsByText;refine ag (ag (oQ (aS ?_)));cases hb:vm w with
 |true =>
  have hb':((aw prog w).w.params.followText "set-order")=true:=hb;simp only[hb',if_true,bne_self_eq_false,bP,if_false];unfold setWalk setsByText;refine ag (ag (kF ho rfl (g.fits hl) ?_));refine ag (ag (oQ (aS ?_)));simp only[hb',if_true];refine ag (oQ (aS (aS ?_)));unfold lE gk at h;simp only[hb,if_true]at h;simp only[gk,hb,if_true];exact h
 |false =>
  have hb':((aw prog w).w.params.followText "set-order")=false:=hb;simp only[hb',bP,if_false];rw[hb]at ld;have hbl:below t.place (gk w t i)=i:=by
   unfold gk;rw[hb];simp only[bP,if_false];obtain⟨b1,b2,b3⟩:=qM g.rise (if i=0 then 0 else t.place.getD (i - 1) 0 + 1);by_cases c:i=0
   ·subst c;simp only[if_true]at b2 ⊢;cases hz:below t.place 0 with
    |zero=>rfl
    |succ n=>have:=b2 0 (by lia);lia
   ·rw[if_neg c]at b1 b2 b3 ⊢;have him:i - 1 < t.place.size:=by rw[g.sz];lia
    have c1:¬below t.place (t.place.getD (i - 1) 0 + 1) < i:=fun z=>by have:=b3 (i - 1) (by lia) him;lia
    have c2:¬i < below t.place (t.place.getD (i - 1) 0 + 1):=fun z=>by have h1:=b2 i z;have h2:=g.rise (i - 1) i (by lia) (by lia);lia
    lia
  have dX:ar (aw prog w) A (pure (match ((L.map (·.2)).toArray)[below t.place (gk w t i)]?,t.place[below t.place (gk w t i)]? with
    |some (_,x),some j=>some (x,j + 1)
    |_,_=>none):Sem (Option (aa×Nat))) Q E s:=by
   rw[hbl];refine aS ?_;unfold lE gk at h;simp only[hb,bP,if_false,Nat.add_eq_zero_iff,wt,and_false,Nat.add_sub_cancel]at h;by_cases c:i < L.length
   ·have e1:((L.map (·.2)).toArray)[i]?=some L[i].2:=by simp[c]
    have e2:t.place[i]?=some (t.place.getD i 0):=Fj (by rw[g.sz];exact c);rw[e1]at h ⊢;rw[e2];exact h
   ·have e1:((L.map (·.2)).toArray)[i]?=none:=by simp;lia
    rw[e1]at h ⊢;exact h
  have hdr:∀c:Bool,(!t.plain && c)=false:=fun c=>by rw[pl];rfl
  have hld:∀c:Bool,(!t.led && c)=false:=fun c=>by rw[ld];rfl
  have drop:∀{c:Bool}{x y:Sem (Option (aa×Nat))},c=false->ar (aw prog w) A y Q E s->ar (aw prog w) A (if c=true then x else y) Q E s:=fun {c x y} hc hy=>by rw[hc];exact hy
  refine drop (hdr _) ?_;refine ag ?_;show ar _ _ (if (!t.led && !((L.map (·.2)).toArray).isEmpty)=true then unsupported "set:maker-not-led" else pure ()) _ _ _;rw[hld];exact aS dX
end
theorem dY:Slot "set_iterator" "__next__" "set_iterator.__next__" :=
 .of (owner:="set_iterator") (n:="__next__") (by rw[w6,w8];kernel_rfl) (by decide+kernel) (by decide+kernel) (by decide+kernel) (by first|exact .inl (by decide+kernel)|exact .inr (by decide+kernel)) (by rw[mf];kernel_rfl)
theorem oH:entryFor table "set_iterator.__next__"=some Builtin.«set_iterator.__next__»:=entryFor_of_tree (by kernel_rfl)
theorem qy(a:aa):argsOk "set_iterator.__next__" ⟨[a],[]⟩:=by unfold argsOk;kernel_rfl
theorem Cg:entryFor table "set.__iter__"=some Builtin.«frozenset.__iter__»:=entryFor_alias (id':="frozenset.__iter__") (by kernel_rfl) rfl (by decide+kernel) (by kernel_rfl)
theorem qC:Slot "set_iterator" "__iter__" "set_iterator.__iter__" :=
 .of (owner:="set_iterator") (n:="__iter__") (by rw[w6,w8];kernel_rfl) (by decide+kernel) (by decide+kernel) (by decide+kernel) (by first|exact .inl (by decide+kernel)|exact .inr (by decide+kernel)) (by rw[mf];kernel_rfl)
theorem wN:entryFor table "set_iterator.__iter__"=some Builtin.«dict_keyiterator.__iter__»:=entryFor_alias (id':="dict_keyiterator.__iter__") (by kernel_rfl) rfl (by decide+kernel) (by kernel_rfl)
theorem yN(a:aa):argsOk "set_iterator.__iter__" ⟨[a],[]⟩:=by unfold argsOk;kernel_rfl
noncomputable def dN(w:az)(t:cb)(D:ae)(n ep i:Nat):Obj:={ cls:=.type "set_iterator",data:=.fields #[cx (gk w t i),cx i,.ref D,cx n,cx ep] }
section
variable{prog:aI}{w:az}{A:aT}{E:aa->af->Prop}{s:af}{D I:ae}{L:List iz}{ep:Nat}{t:cb}
structure Goes (w:az)(L:List iz)(t:cb):Prop where
 g:Lies t L
 hl:L.length<=t.mask
 pl:t.plain=true
 ld:t.led=!vm w
theorem Tp{Q:aa->af->Prop}(ho:s.heap.get? D=some (dg L ep t))(g:Goes w L t)(h:Q (.ref s.heap.objs.size) { s with heap:=s.heap.push (dN w t D L.length ep 0) }):ar (aw prog w) A (kU (.ref D)) Q E s:=by
 have hT:s.TypeIs (.ref D) "set":=⟨_,ho,rfl⟩
 refine w9 hT F.slot_set_iter (g9 F.slot_set_iter hT Cg ?_ (F.args_set_iter_1 _));unfold Builtin.«frozenset.__iter__» cz.Frozenset.slot0 cz.Frozenset.sizeOf cz.Frozenset.addrOf;simp only[slotArgs,w_,eK,bP,if_false,eC,bne_self_eq_false];refine ag (ag (aS (aS ?_)));refine ag (ag (xc ho rfl (g.g.fits g.hl) (aS ?_)));have hdr:ar (aw prog w) A.in1 (setDrawn D) (fun b s'=>b=false/\s'=s) E s:=by unfold setDrawn setsByText;refine ag (kF ho rfl (g.g.fits g.hl) ?_);refine ag (ag (oQ (aS (aS ⟨?_,rfl⟩))));show(_ && (!t.plain && _))=false;rw[g.pl];simp
 refine ag (eM hdr (fun b s' hb=>?_) fun _ _ z=>z);obtain⟨rfl,rfl⟩:=hb;simp only[bP,if_false];refine ag (aS ?_);refine ag (wpAny_setEpoch_of ho rfl (g.g.fits g.hl) ?_);have e0:gk w t 0=0:=by unfold gk;simp
 have eo:(dN w t D L.length ep 0)={ cls:=.type "set_iterator",data:=.fields ([cx 0,cx 0,aa.ref D,cx ((L.map (·.2)).toArray.size:Nat),cx (ep:Nat)]:List aa).toArray }:=by unfold dN;rw[e0];simp
 rw[eo]at h;exact ag (gN (aS ⟨_,rfl,"set_iterator",_,⟨_,cE _ rfl,rfl⟩,dY.lookup,h⟩))
theorem uo{i:Nat}{Q:Option aa->af->Prop}{e:Int×aa}(hI:s.heap.get? I=some (dN w t D L.length ep i))(ho:s.heap.get? D=some (dg L ep t))(g:Goes w L t)(hi:i < L.length)(he:(lE w D ep L)[i]?=some e)
  (h:∀h',dQ I s.heap h'->h'.get? I=some (dN w t D L.length ep (i + 1))->Q (some e.2) { s with heap:=h' }):ar (aw prog w) A (fy (.ref I)) Q E s:=by
 have hT:s.TypeIs (.ref I) "set_iterator":=⟨_,hI,rfl⟩
 unfold fy;refine ag (ml (j8 (name:=i6 "__next__") hT dY (g9 dY hT oH ?_ (qy _))));unfold Builtin.«set_iterator.__next__»;simp only[slotArgs,w_,eK,bP,if_false,eC,bne_self_eq_false];refine ag (aS ?_);refine ag (r_ hI rfl ?_);simp only[cx];refine ag (xc ho rfl (g.g.fits g.hl) ?_);have hz:((((L.map (·.2)).toArray.size:Nat):Int) != ((L.length:Nat):Int))=false:=by simp
 simp only[hz,bP,if_false,kz];refine ag (Lj ho g.g g.hl g.pl g.ld (gx hi) ?_);rw[he];simp only[oI];have hd0:(dN w t D L.length ep i).data=.fields #[cx (gk w t i),cx i,.ref D,cx L.length,cx ep]:=rfl;refine ag (iS hI hd0 (by simp) ?_);have hd1:=j3 hd0 (·.setIfInBounds 0 (cx (gk w t (i + 1))));have hI1:=gS (ik (·.setIfInBounds 0 (cx (gk w t (i + 1))))) hI (m8 hd1);refine ag (iS hI1 hd1 (by simp) ?_);have hd2:=j3 hd1 (·.setIfInBounds 1 (cx (i + 1:Nat)));have hI2:=gS (ik (·.setIfInBounds 1 (cx (i + 1:Nat)))) hI1 (m8 hd2);refine aS ⟨_,rfl,aS (h _ ((i4 ..).trans (i4 ..)) ?_)⟩;refine hI2.trans ?_;unfold dN ik;simp[cx]
theorem Oq{Q:Option aa->af->Prop}(hh:A.handled=none)(hI:s.heap.get? I=some (dN w t D L.length ep L.length))(ho:s.heap.get? D=some (dg L ep t))(g:Goes w L t)
  (h:∀h',xf I s.heap h'->Q none { s with heap:=h' }):ar (aw prog w) A (fy (.ref I)) Q E s:=by
 have hT:s.TypeIs (.ref I) "set_iterator":=⟨_,hI,rfl⟩
 unfold fy;refine ag (ml (j8 (name:=i6 "__next__") hT dY (g9 dY hT oH ?_ (qy _))));unfold Builtin.«set_iterator.__next__»;simp only[slotArgs,w_,eK,bP,if_false,eC,bne_self_eq_false];refine ag (aS ?_);refine ag (r_ hI rfl ?_);simp only[cx];refine ag (xc ho rfl (g.g.fits g.hl) ?_);have hz:((((L.map (·.2)).toArray.size:Nat):Int) != ((L.length:Nat):Int))=false:=by simp
 simp only[hz,bP,if_false,kz];refine ag (Lj ho g.g g.hl g.pl g.ld (bE _) ?_);have he:(lE w D ep L)[L.length]?=none:=by rw[se];rw[pU];exact bE _
 rw[he];simp only[Option.map_none];have hd0:(dN w t D L.length ep L.length).data=.fields #[cx (gk w t L.length),cx L.length,.ref D,cx L.length,cx ep]:=rfl;refine ag (iS hI hd0 (by simp) ?_);refine ag ?_;simp only[newExc,newTuple];refine ag (gN ?_ (by size_fits));refine ag (m:=nB _ _) (rV (a:=aa.none) (by first|rfl|(simp only[nB];rfl)) ?_);refine gN ?_ (by size_fits);simp only[raiseNew];refine ag (xh ?_);rw[show A.in1.handled=none from hh];refine ag (aS (qE ?_));refine ag (o7 (T:="StopIteration") (b:=true) ⟨_,cE _ rfl,rfl⟩ xi ?_);exact aS (h _ (((i4 ..).extBut.push _).push _))
theorem Ot(hh:A.handled=none)(hne:D≠I)(g:Goes w L t) :
  Walks prog w A I [I,D] [I] L.length (fun i v=>∃e,(lE w D ep L)[i]?=some e/\v=e.2) (fun i h=>h.get? I=some (dN w t D L.length ep i)/\h.get? D=some (dg L ep t)) where
 sub:=fun b hb=>by simp at hb;simp[hb]
 frame:=fun _ _ _ st hk=>⟨hk I (by simp) _ st.1,hk D (by simp) _ st.2⟩
 item:=fun i s Q E hi st hQ=>by
  have hlt:i < (lE w D ep L).size:=by rw[pU];exact hi
  refine uo st.1 st.2 g hi (nE hlt) fun h' hs hI'=>?_;exact hQ _ h' s.toks ⟨_,nE hlt,rfl⟩ ⟨hI',(hs.2 D hne).trans st.2⟩ fun b o hb e=>(hs.2 b (fun z=>hb (by simp[z]))).trans e
 done:=fun s Q E st hQ=>Oq hh st.1 st.2 g fun h' he=>hQ h' s.toks fun b o hb e=>he b o (fun z=>hb (by simp[z])) e
 self:=fun i s Q E st hQ=>by
  have hT:s.TypeIs (.ref I) "set_iterator":=⟨_,st.1,rfl⟩
  refine w9 hT qC (g9 qC hT wN ?_ (yN _));show ar _ _ (ret (.ref I)) _ _ s;exact aS ⟨_,rfl,"set_iterator",_,hT,dY.lookup,hQ⟩
end
section
variable{prog:aI}{w:az}{A:aT}{E:aa->af->Prop}{s:af}{D I:ae}{L:List iz}{ep:Nat}{t:cb}
noncomputable abbrev bO:Obj:={ cls:=.type "list",data:=.seq ([]:List aa).toArray }
theorem Tq{Q:Bool->af->Prop}(ho:s.heap.get? D=some (dg L ep t))(h:Q false s):ar (aw prog w) A (sf (.ref D)) Q E s:=by
 have hT:s.TypeIs (.ref D) "set":=⟨_,ho,rfl⟩
 unfold sf;refine ag (wb hT F.slot_set_len.lookup ?_);have e1:splitId "set.__len__"=some ("set","__len__"):=by kernel_rfl
 simp only[e1];refine ag (o7 hT sub_set_self ?_);simp only[eK,bP,if_false];have pick:∀{c:Bool}{x y:Sem Bool},c=true->ar (aw prog w) A x Q E s->ar (aw prog w) A (if c=true then x else y) Q E s:=fun {c x y} hc hy=>by rw[hc];exact hy
 refine pick (by decide+kernel) ?_;refine ag (nh hT ?_);exact aS h
theorem Fy{Q:List aa->af->Prop}(hh:A.handled=none)(ho:s.heap.get? D=some (dg L ep t))(g:Goes w L t)(hn:L.length<=4900)
  (hQ:∀h' tk,(∀b o,s.heap.get? b=some o->h'.get? b=some o)->s.heap.objs.size<=h'.objs.size->Q ((lE w D ep L).toList.map (·.2)) { s with heap:=h',toks:=tk }):ar (aw prog w) A (collect (.ref D)) Q E s:=by
 have uh:D < s.heap.objs.size:=bu ho;unfold collect;refine ag (o3 (i5 F.entry_proto_collect ?_));rw[me F.plain_proto_collect _];show ar _ A.in1 (newList [] >>= fun l=>again (.builtin "list.__iadd__" ⟨[l,.ref D],[]⟩)) _ _ s;refine ag (gN ?_);refine aS ⟨ny sg _,i5 F.entry_list_iadd ?_⟩;rw[me sg _];have p1:∀b o,s.heap.get? b=some o->(s.heap.push bO).get? b=some o:=fun b o e=>cm _ e;have hD1:(s.heap.push bO).get? D=some (dg L ep t):=p1 _ _ ho;have hS1:(s.heap.push bO).get? s.heap.objs.size=some bO:=cE _ rfl;show ar _ A.in1 (nI (.ref s.heap.objs.size) (.ref D) (.ref s.heap.objs.size)) _ _ _;unfold nI;have hT:we { s with heap:=s.heap.push bO } (.ref D) "set":=⟨_,hD1,rfl⟩
 refine ag (nh hT ?_);have k1:si (.ref s.heap.objs.size) (.ref D)=false:=by simp[si];exact i9 uh
 have k2:(aa.type "set" == aa.type "list")=false:=by decide
 have k3:(aa.type "set" == aa.type "tuple")=false:=by decide
 simp only[k1,k2,k3,wa,bP,if_false];refine ag (Tp hD1 g ?_);have p2:∀b o,(s.heap.push bO).get? b=some o->((s.heap.push bO).push (dN w t D L.length ep 0)).get? b=some o:=fun b o e=>cm _ e;have hD2:=p2 _ _ hD1;have hS2:=p2 _ _ hS1;have hI2:((s.heap.push bO).push (dN w t D L.length ep 0)).get? (s.heap.push bO).objs.size=some (dN w t D L.length ep 0):=cE _ rfl;have Ci:(s.heap.push bO).objs.size=s.heap.objs.size + 1:=j4 ..;refine ag (f_ (Tq hD2 ?_));have pick:∀{c:Bool}{x y:Sem nK}{R:nK->af->Prop}{F':aa->af->Prop}{s':af},c=true->ar (aw prog w) A.in1 x R F' s'->ar (aw prog w) A.in1 (if c=true then x else y) R F' s':=fun {c x y R F' s'} hc hy=>by rw[hc];exact hy
 refine pick (by decide+kernel) ?_;refine ag (iq ?_);refine ag ?_;show ar _ A.in1 (sj s.heap.objs.size (·.push .none) >>= fun _=>sj s.heap.objs.size (·.pop)) _ _ _;refine ag (o8 hS2 rfl ?_);have hS3:=gS (eA (·.push aa.none)) hS2 rfl;refine o8 hS3 rfl ?_;have yO:=gS (eA (·.pop)) hS3 rfl;generalize hH:(((s.heap.push bO).push (dN w t D L.length ep 0)).update s.heap.objs.size (eA (·.push aa.none))).update s.heap.objs.size (eA (·.pop))=H at yO;have oth:∀b o,b≠s.heap.objs.size->((s.heap.push bO).push (dN w t D L.length ep 0)).get? b=some o->H.get? b=some o:=fun b o hb e=>by rw[<- hH];exact(jS _ _ (bz hb)).trans ((jS _ _ (bz hb)).trans e)
 have W:=(Ot (prog:=prog) (w:=w) (A:=A.in1) (D:=D) (I:=(s.heap.push bO).objs.size) (ep:=ep) (by simpa using hh) (by rw[Ci];exact cn (ky uh)) g).toS;have hSf:s.heap.objs.size∉[(s.heap.push bO).objs.size,D]:=by simp only[br,da,or_false,not_or];exact⟨by rw[Ci];exact cn (xj _),i9 uh⟩
 refine aS ⟨ny F.plain_extend_loop _,codeAny_extend_loopS W (by rw[ef];lia) s.heap.objs.size hSf _ L.length 0 _ _ _ rfl (d_ _) ⟨oth _ _ (by rw[Ci];exact wt _) hI2,oth _ _ (cn uh) hD2⟩ yO (ItemsOf.nil _) fun s' acc c hm hS' hacc=>?_⟩;show ar _ A (load s.heap.objs.size >>= _) _ _ s';refine ag (qh hS' ?_);have hacc':acc.toList=(lE w D ep L).toList.map (·.2):=by
  apply xk;intro i;rw[cK,j9,j9];cases e:acc[i]? with
  |some v =>
   obtain⟨x,hx,rfl⟩:=hacc.2 i v e;rw[hx];rfl
  |none =>
   have:acc.size<=i:=by simpa using e
   rw[hacc.1]at this;rw[se (by rw[pU];exact this)];rfl
 obtain⟨h',g',d',tk',os'⟩:=s';have eg:g'=s.gens:=hm.gens;have ed:d'=s.drawn:=hm.drawn;have eo:os'=s.os:=hm.os;subst eg ed eo;show ar _ _ (pure acc.toList) _ _ _;rw[hacc'];refine aS (hQ h' tk' (fun b o e=>hm.heap b o ?_ (oth b o (cn (bu e)) (p2 _ _ (p1 _ _ e)))) (gx (bu hS')));simp only[br,da,or_false,not_or];exact⟨cn (bu e),by rw[Ci];exact cn (ky (bu e))⟩
end
section
variable{prog:aI}{w:az}{A:aT}{E:aa->af->Prop}{s:af}
end
section
variable{prog:aI}{w:az}{U:ae->List Int->Prop}{A:aT}{E:aa->af->Prop}{s:af}
end
section
variable{prog:aI}{w:az}{U:ae->List Int->Prop}{A:aT}{E:aa->af->Prop}{s:af}
end
section
variable{prog:aI}{w:az}{U:ae->List Int->Prop}{A:aT}{E:aa->af->Prop}{s:af}
end
section
variable{prog:aI}{w:az}{U:ae->List Int->Prop}{A:aT}{E:aa->af->Prop}{s:af}
end
section
variable{prog:aI}{w:az}{U:ae->List Int->Prop}{A:aT}{E:aa->af->Prop}{s:af}
end
end Tb
namespace So
open PySem PySem.W PyProof.Rows
noncomputable def Sp(lt:Nat->Nat->Bool)(n:Nat){α:Type}:KasT α->(α->Prop)->Prop
 | .ret a,Q=>Q a
 | .ask i j k,Q=>i < n/\j < n/\Sp lt n (k (lt i j)) Q
section
variable{lt:Nat->Nat->Bool}{n:Nat}{α β:Type}
structure Ar (n:Nat)(p:Array Nat):Prop where
 sz:p.size=n
 lt:∀i,p.getD i 0 < n
 pm:p.toList.Perm (b_ n)
noncomputable def Up(lt:Nat->Nat->Bool)(p:Array Nat)(m:Nat):Prop:=∀i j,i < j->j < m->lt (p.getD j 0) (p.getD i 0)=false
noncomputable def Dn(lt:Nat->Nat->Bool)(p:Array Nat)(m:Nat):Prop:=∀i j,i < j->j < m->lt (p.getD i 0) (p.getD j 0)=false
structure Ord (lt:Nat->Nat->Bool):Prop where
 tr:∀a b c,lt b a=false->lt c b=false->lt c a=false
 as:∀a b,lt a b=true->lt b a=false
theorem irr(O:Ord lt)(a:Nat):lt a a=false:=by
 cases h:lt a a with
 |false=>rfl
 |true=>have:=O.as a a h;rw[h]at this;cases this
end
end So
namespace So
open PySem PySem.W PyProof.Rows PySem.Calls
noncomputable def tH:List Int->List Int->Bool
 | [],[]=>false
 | [],_::_=>true
 |_::_,[]=>false
 |a::as,b::bs=>if a=b then tH as bs else decide (a < b)
theorem IK:∀a b:List Int,tH a b=true->tH b a=false
 | [],[],h=>by cases h
 | [],_::_,h=>rfl
 |_::_,[],h=>by cases h
 |a::as,b::bs,h=>by
  unfold tH at h ⊢;by_cases c:a=b
  ·subst c;simp only[if_true]at h ⊢;exact IK as bs h
  ·rw[if_neg c]at h;rw[if_neg (bz c)];have:=of_decide_eq_true h;exact decide_eq_false (by lia)
theorem IV:∀a b c:List Int,tH b a=false->tH c b=false->tH c a=false
 | [],[],[],_,_=>rfl
 | [],[],_::_,_,_=>rfl
 | [],_::_,[],_,h=>by cases h
 | [],_::_,_::_,_,_=>rfl
 |_::_,[],_,h,_=>by cases h
 |a::as,b::bs,[],_,h=>by cases h
 |a::as,b::bs,c::cs,h1,h2=>by
  unfold tH at h1 h2 ⊢;by_cases e1:b=a
  ·subst e1;simp only[if_true]at h1;by_cases e2:c=b
   ·subst e2;simp only[if_true]at h2 ⊢;exact IV as bs cs h1 h2
   ·rw[if_neg e2]at h2 ⊢;exact h2
  ·rw[if_neg e1]at h1;have g1:=of_decide_eq_false h1;by_cases e2:c=b
   ·subst e2;rw[if_neg e1];exact h1
   ·rw[if_neg e2]at h2;have g2:=of_decide_eq_false h2;rw[if_neg (by lia)];exact decide_eq_false (by lia)
theorem Tt:∀a b:List Int,tH a b=false->tH b a=false->a=b
 | [],[],_,_=>rfl
 | [],_::_,h,_=>by cases h
 |_::_,[],_,h=>by cases h
 |a::as,b::bs,h1,h2=>by
  unfold tH at h1 h2;by_cases c:a=b
  ·subst c;simp only[if_true]at h1 h2;rw[Tt as bs h1 h2]
  ·rw[if_neg c]at h1;rw[if_neg (bz c)]at h2;have:=of_decide_eq_false h1;have:=of_decide_eq_false h2;lia
theorem acS(aP:LL):Ord fun i j=>tH (aP.getD i []) (aP.getD j []):=⟨fun a b c h1 h2=>IV _ _ _ h1 h2,fun a b h=>IK _ _ h⟩
section
variable{prog:aI}{w:az}{A:aT}{E:aa->af->Prop}{s:af}
noncomputable def afv(prog:aI)(w:az)(A:aT)(κ:fm)(vs:List aa)(lt:Nat->Nat->Bool)(s:af):Prop :=
 ∀i j (C:Bool->af->Prop) (E:aa->af->Prop),i < vs.length->j < vs.length->C (lt i j) s->ar (aw prog w) A (keyLt' κ (vs.getD i aa.none) (vs.getD j aa.none)) C E s
noncomputable def IW(lt:Nat->Nat->Bool)(vs:List aa)(st:bj):Prop:=∃p:Array Nat,Ar vs.length p/\Up lt p vs.length/\(aE st).map (·.2)=kK (p.toList.map fun i=>vs.getD i aa.none)/\fq st=none
theorem Tv{b:Bool}{Q:Bool->af->Prop}:∀{ks js:List Int}{xs ys:List aa}(i:Nat),ItemsAre (cv prog w) ks xs->ItemsAre (cv prog w) js ys->Q (tH ks js) s ->
  KatLex prog w A b (decide (xs.length < ys.length)) Q (xs.zip ys) i s:=by
 have gen:∀(d:Bool) {ks js:List Int}{xs ys:List aa}(i:Nat),ItemsAre (cv prog w) ks xs->ItemsAre (cv prog w) js ys->d=decide (xs.length < ys.length)->Q (tH ks js) s->KatLex prog w A b d Q (xs.zip ys) i s:=by
  intro d ks
  induction ks with
  |nil =>
   intro js xs ys i hx hy hd hq;cases hx;cases hy with
   |nil=>subst hd;exact kat_nil hq
   |cons h1 h2=>subst hd;exact kat_nil hq
  |cons k ks ih =>
   intro js xs ys i hx hy hd hq;cases hx with
   |cons h1 h2 =>
    cases hy with
    |nil=>subst hd;exact kat_nil hq
    | @cons j v js vs h3 h4 =>
     obtain⟨t,rfl⟩:=mw h1;obtain⟨u,rfl⟩:=mw h3;refine kat_cons (wpAny_eqBool_int ?_);by_cases e:k=j
     ·subst e;rw[show(k == k)=true from by simp];refine kat_yes (ih (i + 1) h2 h4 (by rw[hd];simp) ?_);unfold tH at hq;rw[if_pos rfl]at hq;exact hq
     ·rw[show(k == j)=false from by simp[e]];unfold tH at hq;rw[if_neg e]at hq;refine kat_no ?_;cases (b && i == 0) with
      |true=>exact oneLt_int hq
      |false=>exact kat_one _ _ (wpAny_lt_int hq)
 intro ks js xs ys i hx hy hq;exact gen _ i hx hy rfl hq
theorem YF{a b:ae}{ks js:List Int}{f:Bool}{Q:Bool->af->Prop}(ha:c_ (cv prog w) s.heap ks a)(hb:c_ (cv prog w) s.heap js b)(hq:Q (tH ks js) s) :
  ar (aw prog w) A (keyLt' (tuples' f) (.ref a) (.ref b)) Q E s:=by
 obtain⟨o,xs,n,h1,h2,h3,h4⟩:=ha;obtain⟨o',ys,n',h1',h2',h3',h4'⟩:=hb;refine kat_lt h1 h3 h1' h3' ?_;have:=Tv (prog:=prog) (w:=w) (A:=A) (b:=f) 0 h4 h4' hq;simpa using this
noncomputable def KeysAre(prog:aI)(w:az)(h:ay)(vs:List aa)(aP:LL):Prop :=
 aP.length=vs.length/\∀(i:Nat) v,vs[i]?=some v->∃b,v=.ref b/\c_ (cv prog w) h (aP.getD i []) b
theorem KeysAre.moved{h h':ay}{vs:List aa}{aP:LL}(k:KeysAre prog w h vs aP) (hm:∀b o,h.get? b=some o->o.cls=.type "tuple"->h'.get? b=some o):KeysAre prog w h' vs aP :=
 ⟨k.1,fun i v hv=>let ⟨b,e,o,its,m,q1,q2,q3,q4⟩:=k.2 i v hv;⟨b,e,o,its,m,hm _ _ q1 q2,q2,q3,q4⟩⟩
theorem KeysAre.asks{f:Bool}{vs:List aa}{aP:LL}(k:KeysAre prog w s.heap vs aP):afv prog w A (tuples' f) vs (fun i j=>tH (aP.getD i []) (aP.getD j [])) s:=by intro i j C E hi hj hC;obtain⟨b,e,hb⟩:=k.2 i vs[i] (cS hi);obtain⟨b',e',hb'⟩:=k.2 j vs[j] (cS hj);rw[show vs.getD i aa.none=.ref b by simp[hi,e],show vs.getD j aa.none=.ref b' by simp[hj,e']];exact YF hb hb' hC
theorem KeysAre.tups{h:ay}:∀{vs:List aa}{aP:LL},KeysAre prog w h vs aP->(∀ks∈aP,ks≠[])->∃fs:List aa,KatTups h vs fs/\fs.length=vs.length/\∀v∈fs,∃i t,v=.int i t
 | [],aP,k,hn=>⟨[],.nil,rfl,fun v hv=>by cases hv⟩
 |v::vs,[],k,hn=>by cases k.1
 |v::vs,ks::aP,k,hn=>by
  obtain⟨fs,t,l,e⟩:=KeysAre.tups (vs:=vs) (aP:=aP) ⟨by have:=k.1;simpa using this,fun i u hu=>by have:=k.2 (i + 1) u (by simpa using hu);simpa using this⟩ fun x hx=>hn x (.tail _ hx);obtain⟨b,rfl,o,its,m,q1,q2,q3,q4⟩:=k.2 0 v (by simp);have hne:=hn ks (.head _);simp at q4;generalize hits:its.toList=L at q4;cases q4 with
  |nil=>exact absurd rfl hne
  | @cons i v' ks' vs' h1 h2 =>
   obtain⟨tk,rfl⟩:=mw h1;have h0:its[0]?=some (aa.int i tk):=by rw[<- j9,hits];rfl
   refine⟨.int i tk::fs,.cons q1 q2 q3 h0 t,by simp[l],fun u hu=>?_⟩;rcases br.mp hu with rfl|hu
   ·exact⟨_,_,rfl⟩
   ·exact e u hu
noncomputable def Qg(a b:List Int):Prop:=tH b a=false
noncomputable def Ja(x:List Int):LL->LL
 | []=>[x]
 |y::ys=>if tH y x=true then y::Ja x ys else x::y::ys
noncomputable def bH(l:LL):LL:=l.foldr Ja []
theorem uq(x:List Int):∀l,(Ja x l).Perm (x::l)
 | []=>.refl _
 |y::ys=>by
  unfold Ja;split
  ·exact((uq x ys).cons y).trans (ip.swap x y ys)
  ·exact .refl _
theorem cV:∀l,(bH l).Perm l
 | []=>.refl _
 |x::l=>(uq x (bH l)).trans ((cV l).cons x)
theorem Lk(x:List Int):∀l,l.Pairwise Qg->(Ja x l).Pairwise Qg
 | [],_=>by simp[Ja]
 |y::ys,h=>by
  obtain⟨h1,h2⟩:=fR.mp h;unfold Ja;split
  ·rename_i c;refine fR.mpr ⟨fun z hz=>?_,Lk x ys h2⟩;rcases br.mp ((uq x ys).mem_iff.mp hz) with rfl|hz
   ·exact IK _ _ c
   ·exact h1 z hz
  ·rename_i c;have c':tH y x=false:=by simpa using c
   refine fR.mpr ⟨fun z hz=>?_,h⟩;rcases br.mp hz with rfl|hz
   ·exact c'
   ·exact IV _ _ _ c' (h1 z hz)
theorem rT:∀l,(bH l).Pairwise Qg
 | []=>.nil
 |x::l=>Lk x _ (rT l)
theorem ur:∀{l l':LL},l.Perm l'->l.Pairwise Qg->l'.Pairwise Qg->l=l'
 | [],l',p,_,_=>(List.nil_perm.mp p).symm
 |x::l,[],p,_,_=>by cases List.perm_nil.mp p
 |x::l,y::l',p,h,h'=>by
  obtain⟨h1,h2⟩:=fR.mp h;obtain⟨h1',h2'⟩:=fR.mp h';have e:x=y:=by
   have m1:=br.mp (p.mem_iff.mp (e_ (a:=x) (l:=l)));have m2:=br.mp (p.mem_iff.mpr (e_ (a:=y) (l:=l')));rcases m1 with m1|m1
   ·exact m1
   ·rcases m2 with m2|m2
    ·exact m2.symm
    ·exact Tt _ _ (h1' x m1) (h1 y m2)
  subst e;rw[ur (p.cons_inv) h2 h2']
theorem wO{l l':LL}(p:l.Perm l')(h:l.Pairwise Qg):l=bH l':=ur (p.trans (cV l').symm) h (rT l')
noncomputable def Fz(aP:LL)(p:Array Nat):Prop:=p.toList.Perm (b_ aP.length)/\(p.toList.map fun i=>aP.getD i [])=bH aP
theorem Tw{aP:LL}{p:Array Nat}(a:Ar aP.length p)(u:Up (fun i j=>tH (aP.getD i []) (aP.getD j [])) p aP.length):Fz aP p:=by
 refine⟨a.pm,wO ?_ ?_⟩
 ·have:=a.pm.map fun i=>aP.getD i [];refine this.trans (o9 ?_);apply mh
  ·simp
  ·intro i h1 h2;simp at h1;simp[h1]
 ·rw[l9];intro i j hi hj hij;simp only[cw,ke]at hi hj;have:=u i j hij (by rw[<- a.sz];exact hj);simp only[List.getElem_map,Array.getElem_toList];unfold Qg;rw[kC,kC,nE hi,nE hj]at this;exact this
theorem FJ{aP:LL}(h:aP.length < 2):Fz aP (kK (b_ aP.length)):=by
 refine⟨.refl _,wO ?_ ?_⟩
 ·refine o9 ?_;apply mh
  ·simp
  ·intro i h1 h2;simp at h1;simp[h1]
 ·rw[l9];intro i j hi hj hij;simp at hi hj;lia
end
end So
namespace Sb
open PySem PySem.W PyProof.Rows
section
variable{prog:aI}{w:az}{A:aT}{E:aa->af->Prop}{s:af}{a₀ x0:Array ax}{κ:fm}{rk:ax->Int}{lo:Nat}{p0:Array (Nat×Nat×Nat)}
noncomputable def Ax(prog:aI)(w:az)(A:aT)(s:af)(κ:fm)(rk:ax->Int)(a₀:Array ax):Prop :=
 ∀x y (C:Bool->af->Prop) (E:aa->af->Prop),x∈a₀.toList->y∈a₀.toList->C (decide (rk x < rk y)) s->ar (aw prog w) A (keyLt' κ x.1 y.1) C E s
noncomputable def R(rk:ax->Int)(xs:Array ax)(i:Nat):Int:=match xs[i]? with|some p=>rk p|none=>0
theorem jj{xs ys:Array ax}{i j:Nat}(h:xs[i]?=ys[j]?):R rk xs i=R rk ys j:=by unfold R;rw[h]
theorem gW{xs:Array ax}{i:Nat}{x:ax}(h:xs[i]?=some x):R rk xs i=rk x:=by unfold R;rw[h]
noncomputable def Up(rk:ax->Int)(xs:Array ax)(lo n:Nat):Prop:=∀i j,i<=j->j < n->R rk xs (lo + i)<=R rk xs (lo + j)
noncomputable def Dn(rk:ax->Int)(xs:Array ax)(lo n:Nat):Prop:=∀i j,i<=j->j < n->R rk xs (lo + j)<=R rk xs (lo + i)
structure SB (κ:fm)(a₀ x0:Array ax)(p0:Array (Nat×Nat×Nat))(lo:Nat)(st:bj):Prop where
 perm:(aE st).Perm a₀
 kind:kindOf st=κ
 failed:fq st=none
 pend:cf st=p0
 keep:∀k,k < lo->(aE st)[k]?=x0[k]?
theorem SB.size{st:bj}(h:SB κ a₀ x0 p0 lo st):(aE st).size=a₀.size:=h.perm.size_eq
theorem SB.setArr{st:bj}(h:SB κ a₀ x0 p0 lo st){xs:Array ax}(hp:xs.Perm (aE st))(hk:∀k,k < lo->xs[k]?=(aE st)[k]?):SB κ a₀ x0 p0 lo (setArr st xs) :=
 ⟨hp.trans h.perm,h.kind,h.failed,h.pend,fun k hl=>(hk k hl).trans (h.keep k hl)⟩
theorem Tz{xs:Array ax}(hp:xs.Perm a₀){i:Nat}{x:ax}(h:xs[i]?=some x):x∈a₀.toList:=by obtain⟨hi,rfl⟩:=gd.mp h;exact(sm.mp hp).mem_iff.mp (by simp)
theorem bK{st:bj}{xs:Array ax}{i:Nat}{x:ax}{Q:ax->bj->Prop}(h:xs[i]?=some x)(hq:Q x st):wpS (aw prog w) A E s (dk xs i) Q st:=by rw[elem'_eq,h];exact bq hq
theorem wQ{st:bj}{x y:ax}{Q:Option Bool->bj->Prop}(ha:Ax prog w A s κ rk a₀)(hk:kindOf st=κ)(hx:x∈a₀.toList)(hy:y∈a₀.toList)(h:Q (some (decide (rk x < rk y))) st) :
  wpS (aw prog w) A E s (lt' x y) Q st:=by
 rw[lt'_eq];refine a_ (g_ ?_);rw[hk];refine a_ (mo (ml (ha x y _ _ hx hy ⟨rfl,?_⟩)));exact bq h
theorem rW{st:bj}{i j:Nat}{Q:Option Bool->bj->Prop}(ha:Ax prog w A s κ rk a₀)(hB:SB κ a₀ x0 p0 lo st)(hi:i < a₀.size)(hj:j < a₀.size)
  (h:Q (some (decide (R rk (aE st) i < R rk (aE st) j))) st):wpS (aw prog w) A E s (ltAt' i j) Q st:=by
 have e1:(aE st)[i]?=some ((aE st)[i]'(by rw[hB.size];exact hi)):=getElem?_pos _ i _;have e2:(aE st)[j]?=some ((aE st)[j]'(by rw[hB.size];exact hj)):=getElem?_pos _ j _;rw[gW e1,gW e2]at h;rw[ltAt'_eq];refine a_ (g_ ?_);exact a_ (bK e1 (a_ (bK e2 (wQ ha hB.kind (Tz hB.perm e1) (Tz hB.perm e2) h))))
theorem vo{st:bj}{i j:Nat}{Q:Unit->bj->Prop}(h:Q () (setArr st (ir (aE st) i j ((j - i) / 2)))) :
  wpS (aw prog w) A E s (o_ i j) Q st:=by
 rw[reverseSlice'_eq];exact i7 h
theorem wR{xs:Array ax}{i j:Nat}(hj:j<=xs.size)(k:Nat) :
  R rk (ir xs i j ((j - i) / 2)) k=if i<=k/\k < j then R rk xs (i + j - 1 - k) else R rk xs k:=by
 have e:=getElem?_mirror_all (i:=i) hj k;by_cases h1:i<=k/\k < j
 ·rw[if_pos h1]at e ⊢;exact jj e
 ·rw[if_neg h1]at e ⊢;exact jj e
theorem fH{xs:Array ax}{i j:Nat}(hj:j<=xs.size)(heq:∀k,i<=k->k < j->R rk xs k=R rk xs (j - 1))(k:Nat) :
  R rk (ir xs i j ((j - i) / 2)) k=R rk xs k:=by
 rw[wR hj];split
 ·rw[heq _ (by lia) (by lia),heq k (by lia) (by lia)]
 ·rfl
theorem SB.rev{st:bj}(h:SB κ a₀ x0 p0 lo st){i j:Nat}(hi:lo<=i)(hj:j<=a₀.size):SB κ a₀ x0 p0 lo (PyProof.Rows.setArr st (ir (aE st) i j ((j - i) / 2))) :=
 h.setArr (mirror_perm _ _ _ _) fun k hk=>by rw[getElem?_mirror_all (by rw[h.size];exact hj),if_neg (by lia)]
noncomputable def TF(lo a nrem:Nat):StateT bj Sem AscSt :=
 forIn [a:nrem] ((none,a):AscSt) fun _ __s=>do
  let __x <- ltAt' (lo + __s.snd) (lo + __s.snd - 1)
  match __x with
  |some smaller=>if smaller=true then pure (ForInStep.done (none,__s.snd)) else pure (ForInStep.yield (none,__s.snd + 1))
  |_=>pure (ForInStep.done (some none,__s.snd))
noncomputable def FN(lo n nrem:Nat):StateT bj Sem (Option Nat):=do
 o_ lo (lo + n)
 let __s <- TF lo n nrem
 match __s.fst with
 |some r=>pure r
 |none=>pure (some __s.snd)
noncomputable def Ln(lo n nrem:Nat):StateT bj Sem DescSt :=
 forIn [n:nrem] ((none,n,0):DescSt) fun _ __s=>do
  let __x <- ltAt' (lo + __s.snd.fst) (lo + __s.snd.fst - 1)
  match __x with
  |some smaller =>
   if smaller=true then
    if __s.snd.snd > 0 then do
     o_ (lo + __s.snd.fst - (__s.snd.snd + 1)) (lo + __s.snd.fst)
     pure (ForInStep.yield (none,__s.snd.fst + 1,0))
    else pure (ForInStep.yield (none,__s.snd.fst + 1,0))
   else do
    let __x <- ltAt' (lo + __s.snd.fst - 1) (lo + __s.snd.fst)
    match __x with
    |some larger =>
     if larger=true then pure (ForInStep.done (none,__s.snd.fst,__s.snd.snd))
     else pure (ForInStep.yield (none,__s.snd.fst + 1,__s.snd.snd + 1))
    |_=>pure (ForInStep.done (some none,__s.snd.fst,__s.snd.snd))
  |_=>pure (ForInStep.done (some none,__s.snd.fst,__s.snd.snd))
noncomputable def FP(lo n nrem:Nat):StateT bj Sem (Option Nat):=do
 liftM (rule "list.sort.descending-run")
 let __s <- Ln lo (n + 1) nrem
 match __s.fst with
 |some r=>pure r
 |none =>
  if __s.snd.snd > 0 then do
   o_ (lo + __s.snd.fst - (__s.snd.snd + 1)) (lo + __s.snd.fst)
   FN lo __s.snd.fst nrem
  else FN lo __s.snd.fst nrem
theorem TJ(lo nrem:Nat):countRun' lo nrem=(do
  let __s <- TF lo 1 nrem
  match __s.fst with
  |some r=>pure r
  |none =>
   if (__s.snd == nrem)=true then pure (some __s.snd)
   else if __s.snd > 1 then do
    let __x <- ltAt' lo (lo + __s.snd - 1)
    match __x with
    |some rose=>if rose=true then pure (some __s.snd) else do
      o_ lo (lo + __s.snd)
      FP lo __s.snd nrem
    |_=>pure none
   else FP lo __s.snd nrem):=by
 rw[countRun'_eq];unfold FP FN Ln TF;dsimp only;congr 1;funext __s;obtain⟨r,n⟩:=__s;cases r with
 |some r=>rfl
 |none =>
  dsimp only;split
  ·rfl
  ·split
   ·congr 1;funext x;cases x with
    |none=>rfl
    |some rose =>
     dsimp only;split
     ·rfl
     ·congr 1;funext _r;congr 1;funext _u;congr 1;congr 1;funext s2;obtain⟨r2,n2,q2⟩:=s2;cases r2 with
      |some r2=>rfl
      |none =>
       dsimp only;split
       ·congr 1;funext _v;congr 1;funext _w;congr 1;funext s3;obtain⟨r3,n3⟩:=s3;cases r3 <;> rfl
       ·congr 1;funext _w;congr 1;funext s3;obtain⟨r3,n3⟩:=s3;cases r3 <;> rfl
   ·congr 1;funext _u;congr 1;congr 1;funext s2;obtain⟨r2,n2,q2⟩:=s2;cases r2 with
    |some r2=>rfl
    |none =>
     dsimp only;split
     ·congr 1;funext _v;congr 1;funext _w;congr 1;funext s3;obtain⟨r3,n3⟩:=s3;cases r3 <;> rfl
     ·congr 1;funext _w;congr 1;funext s3;obtain⟨r3,n3⟩:=s3;cases r3 <;> rfl
end
section
variable{prog:aI}{w:az}{A:aT}{E:aa->af->Prop}{s:af}{a₀ x0:Array ax}{κ:fm}{rk:ax->Int}{lo:Nat}{p0:Array (Nat×Nat×Nat)}
theorem Lp{st:bj}{a nrem:Nat}{Q:AscSt->bj->Prop}(h0:Ax prog w A s κ rk a₀)(hn:lo + nrem<=a₀.size)(ha:1<=a)(han:a<=nrem)(hB:SB κ a₀ x0 p0 lo st)
  (hs:Up rk (aE st) lo a)
  (h:∀n,a<=n->n<=nrem->Up rk (aE st) lo n->(n=nrem∨R rk (aE st) (lo + n) < R rk (aE st) (lo + (n - 1)))->Q (none,n) st) :
  wpS (aw prog w) A E s (TF lo a nrem) Q st:=by
 unfold TF;refine eT (I:=fun x c st'=>st'=st/\c=(none,x)/\Up rk (aE st) lo x) ?step ?dX ⟨rfl,rfl,hs⟩
 case dX =>
  rintro c st' ⟨rfl,rfl,hs'⟩;rw[show max a nrem=nrem by lia]at hs' ⊢;exact h nrem han (bE _) hs' (.inl rfl)
 case step =>
  rintro x c st' hax hxn ⟨rfl,rfl,hs'⟩;dsimp only;rw[show lo + x - 1=lo + (x - 1) by lia];refine a_ (rW h0 hB (by lia) (by lia) ?_);by_cases hless:R rk (aE st') (lo + x) < R rk (aE st') (lo + (x - 1))
  ·simp only[hless,decide_true,if_true];exact bq (h x hax (by lia) hs' (.inr hless))
  ·simp only[hless,decide_false,bP,if_false];refine bq ⟨rfl,rfl,fun i j hij hj=>?_⟩;by_cases hjx:j < x
   ·exact hs' i j hij hjx
   ·have hj':j=x:=by lia
    subst hj';by_cases hi':i=j
    ·subst hi';exact hG _
    ·exact eP (hs' i (j - 1) (by lia) (by lia)) (pd.mp hless)
theorem zP{st:bj}{n nrem:Nat}{Q:Option Nat->bj->Prop}(h0:Ax prog w A s κ rk a₀)(hn:lo + nrem<=a₀.size)(h1:1<=n)(hnn:n<=nrem)(hB:SB κ a₀ x0 p0 lo st)
  (hs:Dn rk (aE st) lo n) (h:∀m st',SB κ a₀ x0 p0 lo st'->1<=m->m<=nrem->Up rk (aE st') lo m->Q (some m) st') :
  wpS (aw prog w) A E s (FN lo n nrem) Q st:=by
 unfold FN;have hsz:lo + n<=(aE st).size:=by rw[hB.size];lia
 refine a_ (vo ?_);have hB':SB κ a₀ x0 p0 lo (setArr st (ir (aE st) lo (lo + n) ((lo + n - lo) / 2))):=hB.rev (bE _) (by lia);refine a_ (Lp h0 hn h1 hnn hB' ?_ fun m hm1 hm2 hsm _=>bq (h m _ hB' (by lia) hm2 hsm));intro i j hij hj;show R rk (ir (aE st) lo (lo + n) ((lo + n - lo) / 2)) (lo + i)<=R rk (ir (aE st) lo (lo + n) ((lo + n - lo) / 2)) (lo + j);rw[wR hsz,wR hsz,if_pos (by lia),if_pos (by lia)];have:=hs (n - 1 - j) (n - 1 - i) (by lia) (by lia);rw[show lo + (lo + n) - 1 - (lo + i)=lo + (n - 1 - i) by lia,show lo + (lo + n) - 1 - (lo + j)=lo + (n - 1 - j) by lia];exact this
theorem TQ{st:bj}{n nrem:Nat}{Q:DescSt->bj->Prop}(h0:Ax prog w A s κ rk a₀)(hn:lo + nrem<=a₀.size)(h1:1<=n)(hnn:n<=nrem)(hB:SB κ a₀ x0 p0 lo st)
  (hs:Dn rk (aE st) lo n)
  (h:∀m neq st',SB κ a₀ x0 p0 lo st'->n<=m->m<=nrem->Dn rk (aE st') lo m->neq + 1<=m->(∀i,lo + m - (neq + 1)<=i->i < lo + m->R rk (aE st') i=R rk (aE st') (lo + m - 1))->Q (none,m,neq) st') :
  wpS (aw prog w) A E s (Ln lo n nrem) Q st:=by
 unfold Ln;refine eT (I:=fun x c st'=>∃neq,c=(none,x,neq)/\SB κ a₀ x0 p0 lo st'/\Dn rk (aE st') lo x/\neq + 1<=x /\
   (∀i,lo + x - (neq + 1)<=i->i < lo + x->R rk (aE st') i=R rk (aE st') (lo + x - 1))) ?step ?dX ⟨0,rfl,hB,hs,by lia,fun i h1 h2=>by congr 1;lia⟩
 case dX =>
  rintro c st' ⟨neq,rfl,hB',hs',hq,he⟩;rw[show max n nrem=nrem by lia]at hs' hq he ⊢;exact h nrem neq st' hB' hnn (bE _) hs' hq he
 case step =>
  rintro x c st' hax hxn ⟨neq,rfl,hB',hs',hq,he⟩;dsimp only;have hsz:lo + x<=(aE st').size:=by rw[hB'.size];lia
  have e1:lo + x - 1=lo + (x - 1):=by lia
  refine a_ (rW h0 hB' (by lia) (by lia) ?_);by_cases hless:R rk (aE st') (lo + x) < R rk (aE st') (lo + x - 1)
  ·simp only[hless,decide_true,if_true];rw[e1]at hless;have step1:∀xs:Array ax,(∀k,R rk xs k=R rk (aE st') k)->Dn rk xs lo (x + 1):=by
    intro xs hk i j hij hj;rw[hk,hk];by_cases hjx:j < x
    ·exact hs' i j hij hjx
    ·have hj':j=x:=by lia
     subst hj';by_cases hi':i=j
     ·subst hi';exact hG _
     ·exact eP (gu hless) (hs' i (j - 1) (by lia) (by lia))
   by_cases hneq:neq > 0
   ·rw[if_pos hneq];refine a_ (vo (bq ⟨0,rfl,hB'.rev (by lia) (by lia),step1 _ (fH hsz he),by lia,fun i h1 h2=>by congr 1;lia⟩))
   ·rw[if_neg hneq];exact bq ⟨0,rfl,hB',step1 _ (fun _=>rfl),by lia,fun i h1 h2=>by congr 1;lia⟩
  ·simp only[hless,decide_false,bP,if_false];refine a_ (rW h0 hB' (by lia) (by lia) ?_);by_cases hlarger:R rk (aE st') (lo + x - 1) < R rk (aE st') (lo + x)
   ·simp only[hlarger,decide_true,if_true];exact bq (h x neq st' hB' hax (by lia) hs' hq he)
   ·simp only[hlarger,decide_false,bP,if_false];have heqx:R rk (aE st') (lo + x)=R rk (aE st') (lo + x - 1):=by lia
    refine bq ⟨neq + 1,rfl,hB',fun i j hij hj=>?_,by lia,fun i h1 h2=>?_⟩
    ·by_cases hjx:j < x
     ·exact hs' i j hij hjx
     ·have hj':j=x:=by lia
      subst hj';by_cases hi':i=j
      ·subst hi';exact hG _
      ·rw[heqx,e1];exact hs' i (j - 1) (by lia) (by lia)
    ·rw[show lo + (x + 1) - 1=lo + x by lia];by_cases hix:i=lo + x
     ·subst hix;rfl
     ·rw[heqx];exact he i (by lia) (by lia)
theorem zQ{st:bj}{n nrem:Nat}{Q:Option Nat->bj->Prop}(h0:Ax prog w A s κ rk a₀)(hn:lo + nrem<=a₀.size)(hnn:n + 1<=nrem)(hB:SB κ a₀ x0 p0 lo st)
  (hs:Dn rk (aE st) lo (n + 1)) (h:∀m st',SB κ a₀ x0 p0 lo st'->1<=m->m<=nrem->Up rk (aE st') lo m->Q (some m) st') :
  wpS (aw prog w) A E s (FP lo n nrem) Q st:=by
 unfold FP;refine a_ (mo (iq ⟨rfl,?_⟩));refine a_ (TQ h0 hn (by lia) hnn hB hs fun m neq st' hB' hm1 hm2 hs' hq he=>?_);dsimp only;have hsz:lo + m<=(aE st').size:=by rw[hB'.size];lia
 by_cases hneq:neq > 0
 ·rw[if_pos hneq];refine a_ (vo (zP h0 hn (by lia) hm2 (hB'.rev (by lia) (by lia)) ?_ h));intro i j hij hj;show R rk (ir (aE st') _ _ _) _<=R rk (ir (aE st') _ _ _) _;rw[fH hsz he,fH hsz he];exact hs' i j hij hj
 ·rw[if_neg hneq];exact zP h0 hn (by lia) hm2 hB' hs' h
theorem Ov{st:bj}{nrem:Nat}{Q:Option Nat->bj->Prop}(h0:Ax prog w A s κ rk a₀)(hn:lo + nrem<=a₀.size)(h1:1<=nrem)(hB:SB κ a₀ x0 p0 lo st)
  (h:∀m st',SB κ a₀ x0 p0 lo st'->1<=m->m<=nrem->Up rk (aE st') lo m->Q (some m) st') :
  wpS (aw prog w) A E s (countRun' lo nrem) Q st:=by
 rw[TJ];refine a_ (Lp h0 hn (bE 1) h1 hB (fun i j hij hj=>by have e:i=j:=by { lia };subst e;exact hG _) fun n hn1 hn2 hsn hor=>?_);dsimp only;by_cases hnn:n=nrem
 ·rw[if_pos (by simpa using hnn)];exact bq (h n st hB hn1 hn2 hsn)
 ·rw[if_neg (by simpa using hnn)];have hlt:R rk (aE st) (lo + n) < R rk (aE st) (lo + (n - 1)):=hor.resolve_left hnn;by_cases hgt:n > 1
  ·rw[if_pos hgt,show lo + n - 1=lo + (n - 1) by lia];refine a_ (rW h0 hB (by lia) (by lia) ?_);by_cases hrose:R rk (aE st) lo < R rk (aE st) (lo + (n - 1))
   ·simp only[hrose,decide_true,if_true];exact bq (h n st hB hn1 hn2 hsn)
   ·simp only[hrose,decide_false,bP,if_false];have hsz:lo + n<=(aE st).size:=by rw[hB.size];lia
    have hall':∀k,k < n->R rk (aE st) (lo + k)=R rk (aE st) (lo + (n - 1)):=by intro k hk;have a1:=hsn 0 k (by lia) hk;have a2:=hsn k (n - 1) (by lia) (by lia);rw[l6]at a1;lia
    have hall:∀k,lo<=k->k < lo + n->R rk (aE st) k=R rk (aE st) (lo + n - 1):=fun k k1 k2=>by have:=hall' (k - lo) (by lia);rw[show lo + (k - lo)=k by lia]at this;rw[this];congr 1;lia
    refine a_ (vo (zQ h0 hn (by lia) (hB.rev (bE _) (by lia)) ?_ h));intro i j hij hj;show R rk (ir (aE st) _ _ _) _<=R rk (ir (aE st) _ _ _) _;rw[fH hsz hall,fH hsz hall];by_cases hjn:j < n
    ·rw[hall' i (by lia),hall' j hjn];exact hG _
    ·obtain rfl:j=n:=by lia
     by_cases hi':i=j
     ·subst hi';exact hG _
     ·rw[hall' i (by lia)];exact gu hlt
  ·rw[if_neg hgt];obtain rfl:n=1:=by lia
   refine zQ h0 hn (by lia) hB ?_ h;intro i j hij hj;by_cases hi':i=j
   ·subst hi';exact hG _
   ·obtain rfl:i=0:=by lia
    obtain rfl:j=1:=by lia
    exact gu hlt
theorem FQ{xs:Array ax}{src d:Nat}(hs:src < xs.size)(hd:d<=src)(k:Nat) :
  R rk (bubble xs src d) k=if k=src - d then R rk xs src else if src - d < k/\k<=src then R rk xs (k - 1) else R rk xs k:=by
 have e:=getElem?_bubble hs d hd k;by_cases h1:k=src - d
 ·rw[if_pos h1]at e ⊢;exact jj e
 ·rw[if_neg h1]at e ⊢;by_cases h2:src - d < k/\k<=src
  ·rw[if_pos h2]at e ⊢;exact jj e
  ·rw[if_neg h2]at e ⊢;exact jj e
theorem YG{st:bj}{n ok:Nat}{Q:Bool->bj->Prop}(h0:Ax prog w A s κ rk a₀)(hn:lo + n<=a₀.size)(hok:ok<=n)(hB:SB κ a₀ x0 p0 lo st)(hs:Up rk (aE st) lo ok)
  (h:∀st',SB κ a₀ x0 p0 lo st'->Up rk (aE st') lo n->Q true st'):wpS (aw prog w) A E s (binarySort' lo n ok) Q st:=by
 rw[binarySort'_eq];refine a_ (eL (eT (I:=fun k c st'=>c=(none,())/\SB κ a₀ x0 p0 lo st'/\Up rk (aE st') lo (min k n))
  (Q:=fun c st'=>c=(none,())/\SB κ a₀ x0 p0 lo st'/\Up rk (aE st') lo n) ?step ?dX ?init) ?post)
 case post =>
  rintro c st' ⟨rfl,hB',hs'⟩;exact bq (h st' hB' hs')
 case init =>
  refine⟨rfl,hB,fun i j hij hj=>?_⟩;by_cases h1:ok=0
  ·obtain rfl:i=j:=by lia
   exact hG _
  ·exact hs i j hij (by lia)
 case dX =>
  rintro c st' ⟨hc,hB',hs'⟩;refine⟨hc,hB',?_⟩;rwa [show min (max (max ok 1) n) n=n by lia]at hs'
 case step =>
  rintro k c st' hak hkn ⟨rfl,hB',hs'⟩;rw[show min k n=k by lia]at hs';have hk:lo + k < a₀.size:=by lia
  refine a_ (eL (eT (I:=fun x c st''=>st''=st'/\∃l r,c=(none,l,r)/\l<=r/\r<=k/\r - l<=k - x /\
    (∀i,i < l->R rk (aE st') (lo + i)<=R rk (aE st') (lo + k))/\(∀i,r<=i->i < k->R rk (aE st') (lo + k) < R rk (aE st') (lo + i)))
   (Q:=fun c st''=>st''=st'/\∃l r,c=(none,l,r)/\l<=k /\
    (∀i,i < l->R rk (aE st') (lo + i)<=R rk (aE st') (lo + k))/\(∀i,l<=i->i < k->R rk (aE st') (lo + k) < R rk (aE st') (lo + i))) ?istep ?ifin ?iinit) ?ipost)
  case iinit=>exact⟨rfl,0,k,rfl,by lia,by lia,by lia,fun i hi=>by lia,fun i h1 h2=>by lia⟩
  case ifin =>
   rintro c st'' ⟨rfl,l,r,rfl,hlr,hrk,hm,hlo,hhi⟩;obtain rfl:l=r:=by lia
   exact⟨rfl,l,l,rfl,hrk,hlo,hhi⟩
  case istep =>
   rintro x c st'' _ hxk ⟨rfl,l,r,rfl,hlr,hrk,hm,hlo,hhi⟩;dsimp only;by_cases hge:l ≥ r
   ·rw[if_pos hge];obtain rfl:l=r:=by lia
    exact bq ⟨rfl,l,l,rfl,hrk,hlo,hhi⟩
   ·rw[if_neg hge];refine a_ (rW h0 hB' hk (by lia) ?_);by_cases hless:R rk (aE st'') (lo + k) < R rk (aE st'') (lo + (l + r) / 2)
    ·simp only[hless,decide_true,if_true];refine bq ⟨rfl,l,(l + r) / 2,rfl,by lia,by lia,by lia,hlo,fun i h1 h2=>?_⟩;exact Int.lt_of_lt_of_le hless (hs' _ _ h1 h2)
    ·simp only[hless,decide_false,bP,if_false];refine bq ⟨rfl,(l + r) / 2 + 1,r,rfl,by lia,by lia,by lia,fun i h1=>?_,hhi⟩;exact eP (hs' i ((l + r) / 2) (by lia) (by lia)) (pd.mp hless)
  case ipost =>
   rintro c st'' ⟨rfl,l,r,rfl,hlk,hlo,hhi⟩;show wpS _ _ _ _ (do moveDown' (lo + k) (lo + l);pure (ForInStep.yield (none,()))) _ _;rw[moveDown'_eq];have hks:lo + k < (aE st'').size:=by rw[hB'.size];exact hk
   refine a_ (i7 (bq ⟨rfl,hB'.setArr (bubble_perm _ _ _) (fun q hq=>?_),?_⟩))
   ·rw[getElem?_bubble hks _ (by lia),if_neg (by lia),if_neg (by lia)]
   rw[show min (k + 1) n=k + 1 by lia];intro i j hij hj;show R rk (bubble (aE st'') (lo + k) (lo + k - (lo + l))) (lo + i)<=R rk (bubble (aE st'') (lo + k) (lo + k - (lo + l))) (lo + j);rw[FQ hks (by lia),FQ hks (by lia),show lo + k - (lo + k - (lo + l))=lo + l by lia];have pre:∀q,lo + l < lo + q->lo + q - 1=lo + (q - 1):=fun q hq=>by lia
   repeat' split
   all_goals first
    | (exfalso;lia)
    |exact hG _
    |exact hlo _ (by lia)
    | (rw[pre _ (by lia)];exact gu (hhi _ (by lia) (by lia)))
    |exact hs' _ _ (by lia) (by lia)
    | (rw[pre _ (by lia)];exact hs' _ _ (by lia) (by lia))
    | (rw[pre _ (by lia),pre _ (by lia)];exact hs' _ _ (by lia) (by lia))
end
noncomputable def gH:Bool->Keyed->Array Keyed->Nat->Nat->Nat->StateT SortSt Sem (Option Nat):=sortPriv% PySem.Builtin.gallop
noncomputable def bey(left:Bool)(key:ax)(arr:Array ax)(base i:Nat):StateT bj Sem (Option Bool):=do
 let x <- dk arr (base + i)
 if left then lt' x key else return (<- lt' key x).map (!·)
theorem Jb(left:Bool)(key:ax)(arr:Array ax)(base n hint:Nat):gH left key arr base n hint=(do
 let mut lastofs:=0
 let mut ofs:=1
 let mut lo:=0
 let mut hi:=0
 let some right <- bey left key arr base hint|return none
 if right then
  let maxofs:=n - hint
  for _ in [0:n] do
   if ofs ≥ maxofs then break
   let some more <- bey left key arr base (hint + ofs)|return none
   if !more then break
   lastofs:=ofs
   ofs:=2 * ofs + 1
  lo:=hint + lastofs + 1
  hi:=hint + min ofs maxofs
 else
  let maxofs:=hint + 1
  for _ in [0:n] do
   if ofs ≥ maxofs then break
   let some found <- bey left key arr base (hint - ofs)|return none
   if found then break
   lastofs:=ofs
   ofs:=2 * ofs + 1
  lo:=hint + 1 - min ofs maxofs
  hi:=hint - lastofs
 for _ in [0:n] do
  if lo ≥ hi then break
  let m:=lo + (hi - lo) / 2
  let some more <- bey left key arr base m|return none
  if more then lo:=m + 1 else hi:=m
 return some hi):=rfl
section
variable{prog:aI}{w:az}{A:aT}{E:aa->af->Prop}{s:af}{a₀ x0:Array ax}{κ:fm}{rk:ax->Int}{lo:Nat}{p0:Array (Nat×Nat×Nat)}
noncomputable def bp(rk:ax->Int)(left:Bool)(key:ax)(arr:Array ax)(base i:Nat):Bool:=if left then decide (R rk arr (base + i) < rk key) else decide (R rk arr (base + i)<=rk key)
theorem vp{st:bj}{left:Bool}{key:ax}{arr:Array ax}{base i:Nat}{Q:Option Bool->bj->Prop}(h0:Ax prog w A s κ rk a₀)(hk:kindOf st=κ)(hm:key∈a₀.toList)(ha:∀x∈arr.toList,x∈a₀.toList)(hi:base + i < arr.size)
  (h:Q (some (bp rk left key arr base i)) st):wpS (aw prog w) A E s (bey left key arr base i) Q st:=by
 have e:arr[base + i]?=some arr[base + i]:=getElem?_pos arr _ hi;have hx:arr[base + i]∈a₀.toList:=ha _ (by simp);unfold bp at h;rw[gW e]at h;unfold bey;refine a_ (bK e ?_);cases left with
 |true=>simp only[if_true]at h ⊢;exact wQ h0 hk hx hm h
 |false =>
  simp only[bP,if_false]at h ⊢;refine a_ (wQ h0 hk hm hx (bq ?_));have:(some (decide (rk key < rk arr[base + i]))).map (!·)=some (decide (rk arr[base + i]<=rk key)):=by simp only[oI,<- decide_not,pd]
  rw[this];exact h
theorem YH{left:Bool}{key:ax}{arr:Array ax}{base n:Nat}(hu:Up rk arr base n){i j:Nat}(hij:i<=j)(hj:j < n)(h:bp rk left key arr base j=true):bp rk left key arr base i=true:=by have:=hu i j hij hj;unfold bp at h ⊢;cases left <;> simp at h ⊢ <;> lia
theorem jf{st:bj}{left:Bool}{key:ax}{arr:Array ax}{base n hint:Nat}{Q:Option Nat->bj->Prop}(h0:Ax prog w A s κ rk a₀)(hk:kindOf st=κ)(hm:key∈a₀.toList)(ha:∀x∈arr.toList,x∈a₀.toList)
  (hb:base + n<=arr.size) (hh:hint < n) (hu:Up rk arr base n)
  (h:∀k,k<=n->(∀i,i < k->bp rk left key arr base i=true)->(∀i,k<=i->i < n->bp rk left key arr base i=false)->Q (some k) st) :
  wpS (aw prog w) A E s (gH left key arr base n hint) Q st:=by
 have mono:=fun {i j:Nat}(hij:i<=j) (hj:j < n)=>YH (left:=left) (key:=key) hu hij hj;have TV:∀{i j:Nat},i<=j->j < n->bp rk left key arr base i=false->bp rk left key arr base j=false:=fun {i j} hij hj hf=>by
  cases c:bp rk left key arr base j with
  |false=>rfl
  |true=>rw[mono hij hj c]at hf;cases hf
 have last:∀(l0 h0':Nat),l0<=h0'->h0'<=n->(∀i,i < l0->bp rk left key arr base i=true)->(∀i,h0'<=i->i < n->bp rk left key arr base i=false) ->
   ∀(f:Nat->Option (Option Nat)×Nat×Nat->StateT bj Sem (ForInStep (Option (Option Nat)×Nat×Nat))) (k:Option (Option Nat)×Nat×Nat->StateT bj Sem (Option Nat)),
   (∀x l hi,f x (none,l,hi)=if l ≥ hi then pure (ForInStep.done (none,l,hi)) else do
    let __x <- bey left key arr base (l + (hi - l) / 2)
    match __x with
    |some more=>if more=true then pure (ForInStep.yield (none,l + (hi - l) / 2 + 1,hi)) else pure (ForInStep.yield (none,l,l + (hi - l) / 2))
    |_=>pure (ForInStep.done (some none,l,hi)))->(∀l hi,k (none,l,hi)=pure (some hi)) ->
   wpS (aw prog w) A E s (do let r <- forIn [0:n] (none,l0,h0') f;k r) Q st:=by
  intro l0 h0' hlh hhn hlo hhi f k hf hkk;refine a_ (eL (eT (I:=fun x c st'=>st'=st/\∃l r,c=(none,l,r)/\l<=r/\r<=n/\r - l<=n - x/\(∀i,i < l->bp rk left key arr base i=true)/\(∀i,r<=i->i < n->bp rk left key arr base i=false))
   (Q:=fun c st'=>st'=st/\∃r,c=(none,r,r)/\r<=n/\(∀i,i < r->bp rk left key arr base i=true)/\(∀i,r<=i->i < n->bp rk left key arr base i=false)) ?step ?dX ⟨rfl,l0,h0',rfl,hlh,hhn,by lia,hlo,hhi⟩) ?post)
  case post =>
   rintro c st' ⟨rfl,r,rfl,h1,h2,h3⟩;rw[hkk];exact bq (h r h1 h2 h3)
  case dX =>
   rintro c st' ⟨rfl,l,r,rfl,h1,h2,h3,h4,h5⟩;obtain rfl:l=r:=by lia
   exact⟨rfl,l,rfl,h2,h4,h5⟩
  case step =>
   rintro x c st' _ hx ⟨rfl,l,r,rfl,h1,h2,h3,h4,h5⟩;rw[hf];by_cases hge:l ≥ r
   ·rw[if_pos hge];obtain rfl:l=r:=by lia
    exact bq ⟨rfl,l,rfl,h2,h4,h5⟩
   ·rw[if_neg hge];refine a_ (vp h0 hk hm ha (by lia) ?_);cases c:bp rk left key arr base (l + (r - l) / 2) with
    |true =>
     simp only[if_true];exact bq ⟨rfl,_,r,rfl,by lia,h2,by lia,fun i hi=>mono (show i<=l + (r - l) / 2 by lia) (by lia) c,h5⟩
    |false =>
     simp only[bP,if_false];exact bq ⟨rfl,l,_,rfl,by lia,by lia,by lia,h4,fun i h6 h7=>TV h6 h7 c⟩
 rw[Jb];dsimp only;refine a_ (vp h0 hk hm ha (by lia) ?_);cases c:bp rk left key arr base hint with
 |true =>
  simp only[if_true];refine a_ (eL (eT (I:=fun x c st'=>st'=st/\∃lf lF,c=(none,lf,lF)/\x + 1<=lF/\lf < lF/\hint + lf < n/\bp rk left key arr base (hint + lf)=true)
   (Q:=fun c st'=>st'=st/\∃lf lF,c=(none,lf,lF)/\lf < lF/\hint + lf < n/\bp rk left key arr base (hint + lf)=true/\(n - hint<=lF∨(hint + lF < n/\bp rk left key arr base (hint + lF)=false))) ?step ?dX ⟨rfl,0,1,rfl,by lia,by lia,by lia,c⟩) ?post)
  case post =>
   rintro c st' ⟨rfl,lf,lF,rfl,h1,h2,h3,h4⟩;refine last (hint + lf + 1) (hint + min lF (n - hint)) (by lia) (by lia) (fun i hi=>mono (show i<=hint + lf by lia) h2 h3) (fun i h5 h6=>?_) _ _ (fun x l hi=>rfl) (fun l hi=>rfl);rcases h4 with h4|⟨h7,h8⟩
   ·lia
   ·exact TV (show hint + lF<=i by lia) h6 h8
  case dX =>
   rintro c st' ⟨rfl,lf,lF,rfl,h1,h2,h3,h4⟩;exact⟨rfl,lf,lF,rfl,h2,h3,h4,.inl (by lia)⟩
  case step =>
   rintro x c st' _ hx ⟨rfl,lf,lF,rfl,h1,h2,h3,h4⟩;dsimp only;by_cases hge:lF ≥ n - hint
   ·rw[if_pos hge];exact bq ⟨rfl,lf,lF,rfl,h2,h3,h4,.inl hge⟩
   ·rw[if_neg hge];refine a_ (vp h0 hk hm ha (by lia) ?_);cases d:bp rk left key arr base (hint + lF) with
    |true =>
     simp only[eK,bP,if_false];exact bq ⟨rfl,lF,2 * lF + 1,rfl,by lia,by lia,by lia,d⟩
    |false =>
     simp only[l_,if_true];exact bq ⟨rfl,lf,lF,rfl,h2,h3,h4,.inr ⟨by lia,d⟩⟩
 |false =>
  simp only[bP,if_false];refine a_ (eL (eT (I:=fun x c st'=>st'=st/\∃lf lF,c=(none,lf,lF)/\x + 1<=lF/\lf < lF/\lf<=hint/\bp rk left key arr base (hint - lf)=false)
   (Q:=fun c st'=>st'=st/\∃lf lF,c=(none,lf,lF)/\lf < lF/\lf<=hint/\bp rk left key arr base (hint - lf)=false/\(hint + 1<=lF∨(lF<=hint/\bp rk left key arr base (hint - lF)=true))) ?step ?dX ⟨rfl,0,1,rfl,by lia,by lia,by lia,c⟩) ?post)
  case post =>
   rintro c st' ⟨rfl,lf,lF,rfl,h1,h2,h3,h4⟩;refine last (hint + 1 - min lF (hint + 1)) (hint - lf) (by lia) (by lia) (fun i hi=>?_) (fun i h5 h6=>TV h5 h6 h3) _ _ (fun x l hi=>rfl) (fun l hi=>rfl);rcases h4 with h4|⟨h7,h8⟩
   ·lia
   ·exact mono (show i<=hint - lF by lia) (by lia) h8
  case dX =>
   rintro c st' ⟨rfl,lf,lF,rfl,h1,h2,h3,h4⟩;exact⟨rfl,lf,lF,rfl,h2,h3,h4,.inl (by lia)⟩
  case step =>
   rintro x c st' _ hx ⟨rfl,lf,lF,rfl,h1,h2,h3,h4⟩;dsimp only;by_cases hge:lF ≥ hint + 1
   ·rw[if_pos hge];exact bq ⟨rfl,lf,lF,rfl,h2,h3,h4,.inl hge⟩
   ·rw[if_neg hge];refine a_ (vp h0 hk hm ha (by lia) ?_);cases d:bp rk left key arr base (hint - lF) with
    |false =>
     simp only[bP,if_false];exact bq ⟨rfl,lF,2 * lF + 1,rfl,by lia,by lia,by lia,d⟩
    |true =>
     simp only[if_true];exact bq ⟨rfl,lf,lF,rfl,h2,h3,h4,.inr ⟨by lia,d⟩⟩
end
noncomputable abbrev jc(rk:ax->Int)(l:List ax):Prop:=l.Pairwise fun x y=>rk x<=rk y
structure Mg (rk:ax->Int)(a b out:Array ax)(ia ib:Nat):Prop where
 ha:ia<=a.size
 hb:ib<=b.size
 sz:out.size=ia + ib
 pm:(out.toList++(a.toList.drop ia++b.toList.drop ib)).Perm (a.toList++b.toList)
 up:jc rk out.toList
 bd:∀x∈out.toList,∀y∈a.toList.drop ia++b.toList.drop ib,rk x<=rk y
noncomputable def yP(rk:ax->Int)(a b m:Array ax):Prop:=m.toList.Perm (a.toList++b.toList)/\jc rk m.toList
section
variable{rk:ax->Int}{a b out:Array ax}{ia ib k:Nat}{x y:ax}
theorem mQ(a:Array ax)(i j:Nat):(a.extract i j).toList=(a.toList.drop i).take (j - i):=by rw[Array.toList_extract,List.extract_eq_take_drop]
theorem jU(l:List ax)(i k:Nat):l.drop i=(l.drop i).take k++l.drop (i + k):=by rw[<- List.drop_drop,ng]
theorem Mg.oJ(h:Mg rk a b out ia ib)(sa:jc rk a.toList)(hk:ia + k<=a.size)(hc:∀x∈(a.toList.drop ia).take k,∀y∈b.toList.drop ib,rk x<=rk y):Mg rk a b (out++a.extract ia (ia + k)) (ia + k) ib:=by
 have e:(a.extract ia (ia + k)).toList=(a.toList.drop ia).take k:=by rw[mQ];congr 1;lia
 have sp:=jU a.toList ia k;have sd:jc rk (a.toList.drop ia):=kB (vT _ _) sa;rw[sp]at sd;obtain⟨s1,s2,s3⟩:=gT.mp sd;refine⟨hk,h.hb,?_,?_,?_,?_⟩
 ·rw[kL,sC,h.sz];lia
 ·rw[kA,e];refine ip.trans (o9 ?_) h.pm
  conv=>rhs;rw[sp]
  simp only[fN]
 ·rw[kA,e];refine gT.mpr ⟨h.up,s1,fun x hx y hy=>h.bd x hx y ?_⟩;rw[sp];simp[hy]
 ·intro x hx y hy;rw[kA,e]at hx;rcases du.mp hx with hx|hx
  ·refine h.bd x hx y ?_;rw[sp];rcases du.mp hy with hy|hy
   ·simp[hy]
   ·simp[hy]
  ·rcases du.mp hy with hy|hy
   ·exact s3 x hx y hy
   ·exact hc x hx y hy
theorem Mg.swap(h:Mg rk a b out ia ib):Mg rk b a out ib ia:=by
 refine⟨h.hb,h.ha,by rw[h.sz,Nat.add_comm],?_,h.up,fun x hx y hy=>h.bd x hx y ?_⟩
 ·refine(o6 _ kD).trans (h.pm.trans kD)
 ·rcases du.mp hy with hy|hy <;> simp[hy]
theorem Mg.Cj(h:Mg rk a b out ia ib)(sb:jc rk b.toList)(hk:ib + k<=b.size)(hc:∀y∈(b.toList.drop ib).take k,∀x∈a.toList.drop ia,rk y<=rk x):Mg rk a b (out++b.extract ib (ib + k)) ia (ib + k) :=
 (h.swap.oJ sb hk hc).swap
theorem Lq{a:Array ax}{i:Nat}{x:ax}(h:a[i]?=some x):out.push x=out++a.extract i (i + 1):=by apply q9.mp;rw[q_,kA,mQ];obtain⟨hi,rfl⟩:=gd.mp h;rw[iP (by simpa using hi),show i + 1 - i=1 by lia];simp
theorem afw{a:Array ax}{i:Nat}{x z:ax}(h:a[i]?=some x)(hz:z∈(a.toList.drop i).take 1):z=x:=by obtain⟨hi,rfl⟩:=gd.mp h;rw[iP (by simpa using hi)]at hz;simpa using hz
theorem mR{a:Array ax}{i:Nat}{x z:ax}(sa:jc rk a.toList)(h:a[i]?=some x)(hz:z∈a.toList.drop i):rk x<=rk z:=by
 obtain⟨hi,rfl⟩:=gd.mp h;have sd:jc rk (a.toList.drop i):=kB (vT _ _) sa;rw[iP (by simpa using hi)]at hz sd;rcases br.mp hz with rfl|hz
 ·exact hG _
 ·have:=(fR.mp sd).1 z hz;simpa using this
theorem Mg.uO(h:Mg rk a b out ia ib)(sa:jc rk a.toList)(hx:a[ia]?=some x)(hc:∀y∈b.toList.drop ib,rk x<=rk y):Mg rk a b (out.push x) (ia + 1) ib:=by
 rw[Lq hx];obtain⟨hi,_⟩:=gd.mp hx;exact h.oJ sa (by lia) fun z hz y hy=>by rw[afw hx hz];exact hc y hy
theorem Mg.zR(h:Mg rk a b out ia ib)(sb:jc rk b.toList)(hx:b[ib]?=some x)(hc:∀y∈a.toList.drop ia,rk x<=rk y):Mg rk a b (out.push x) ia (ib + 1):=(h.swap.uO sb hx hc).swap
theorem Mg.done(h:Mg rk a b out ia ib)(sa:jc rk a.toList)(sb:jc rk b.toList)(hc:∀x∈a.toList.drop ia,∀y∈b.toList.drop ib,rk x<=rk y):yP rk a b (out++a.extract ia a.size++b.extract ib b.size):=by
 have ha:=h.ha;have hb:=h.hb;have h1:=h.oJ (k:=a.size - ia) sa (by lia) fun x hx y hy=>hc x (oC hx) y hy;rw[show ia + (a.size - ia)=a.size by lia]at h1;have h2:=h1.Cj (k:=b.size - ib) sb (by lia) fun y hy x hx=>by rw[mT (by simp)]at hx;cases hx
 rw[show ib + (b.size - ib)=b.size by lia]at h2;refine⟨?_,h2.up⟩;have:=h2.pm;rw[mT (by simp),mT (by simp)]at this;simpa using this
theorem Mg.TX(h:Mg rk a b out ia ib)(sa:jc rk a.toList)(sb:jc rk b.toList)(hc:∀y∈b.toList.drop ib,∀x∈a.toList.drop ia,rk y<=rk x):yP rk a b (out++b.extract ib b.size++a.extract ia a.size):=by obtain⟨h1,h2⟩:=h.swap.done sb sa hc;exact⟨h1.trans kD,h2⟩
theorem jL{a:Array ax}{i k:Nat}{z:ax}(hz:z∈(a.toList.drop i).take k):∃j,j < k/\a[i + j]?=some z:=by
 obtain⟨j,hj⟩:=j_.mp hz;have hk:j < k:=by
  rcases sD j k with h|h
  ·exact h
  ·rw[sF h]at hj;cases hj
 rw[mB hk,pf]at hj;exact⟨j,hk,by simpa using hj⟩
theorem vL{a:Array ax}{i:Nat}{z:ax}(hz:z∈a.toList.drop i):∃j,i + j < a.size/\a[i + j]?=some z:=by
 obtain⟨j,hj⟩:=j_.mp hz;rw[pf]at hj;have h2:a[i + j]?=some z:=by simpa using hj
 exact⟨j,(gd.mp h2).1,h2⟩
theorem FT(sa:jc rk a.toList)(i n:Nat)(h:i + n<=a.size):Up rk a i n:=by
 intro p q hpq hq;have hp':i + p < a.size:=by lia
 have hq':i + q < a.size:=by lia
 rw[gW (getElem?_pos a (i + p) hp'),gW (getElem?_pos a (i + q) hq')];by_cases e:p=q
 ·subst e;exact hG _
 ·have:=l9.mp sa (i + p) (i + q) (by simpa using hp') (by simpa using hq') (by lia);simpa using this
end
noncomputable def wU:Array Keyed->Array Keyed->StateT SortSt Sem (Array Keyed):=sortPriv% PySem.Builtin.mergeLo
noncomputable def lZ(g:Nat):StateT bj Sem Unit:=modify fun s=>sL (kindOf s) (aE s) (cf s) g (fq s)
theorem FW(a b:Array ax):wU a b=(do
 rule "list.sort.merge-lo"
 let total:=a.size + b.size
 let done (out:Array ax) (ia ib:Nat):=out++a.extract ia a.size++b.extract ib b.size
 let lastOfA (out:Array ax) (ia ib:Nat):=out++b.extract ib b.size++a.extract ia a.size
 let mut out:Array ax:=#[<- dk b 0]
 let mut ia:=0
 let mut ib:=1
 if ib == b.size then return done out ia ib
 if ia + 1 == a.size then return lastOfA out ia ib
 let mut minGallop:=gallopOf (<- get)
 for _ in [0:total] do
  let mut acount:=0
  let mut bcount:=0
  for _ in [0:total] do
   let some bWins <- lt' (<- dk b ib) (<- dk a ia)|return done out ia ib
   if bWins then
    out:=out.push (<- dk b ib);ib:=ib + 1;bcount:=bcount + 1;acount:=0
    if ib == b.size then return done out ia ib
    if bcount ≥ minGallop then break
   else
    out:=out.push (<- dk a ia);ia:=ia + 1;acount:=acount + 1;bcount:=0
    if ia + 1 == a.size then return lastOfA out ia ib
    if acount ≥ minGallop then break
  rule "list.sort.gallop"
  minGallop:=minGallop + 1
  for _ in [0:total] do
   if minGallop > 1 then minGallop:=minGallop - 1
   lZ minGallop
   let some k <- gH false (<- dk b ib) a ia (a.size - ia) 0|return done out ia ib
   acount:=k
   if k > 0 then
    out:=out++a.extract ia (ia + k);ia:=ia + k
    if ia + 1 == a.size then return lastOfA out ia ib
    if ia == a.size then return done out ia ib
   out:=out.push (<- dk b ib);ib:=ib + 1
   if ib == b.size then return done out ia ib
   let some k <- gH true (<- dk a ia) b ib (b.size - ib) 0|return done out ia ib
   bcount:=k
   if k > 0 then
    out:=out++b.extract ib (ib + k);ib:=ib + k
    if ib == b.size then return done out ia ib
   out:=out.push (<- dk a ia);ia:=ia + 1
   if ia + 1 == a.size then return lastOfA out ia ib
   if acount < 7 && bcount < 7 then break
  minGallop:=minGallop + 1
  lZ minGallop
 unsupported "internal:list.sort.merge-bound"):=rfl
noncomputable abbrev LoS:=Option (Array ax)×Array ax×Nat×Nat×Nat×Nat×Nat
noncomputable def Lr(a b out:Array ax)(ia ib mg ac bc:Nat):StateT bj Sem (ForInStep LoS):=do
 let x <- dk a ia
 if (ia + 1 + 1 == a.size)=true then pure (.done (some (out.push x++b.extract ib b.size++a.extract (ia + 1) a.size),out.push x,ia + 1,ib,mg,ac,bc))
 else if (decide (ac < 7) && decide (bc < 7))=true then pure (.done (none,out.push x,ia + 1,ib,mg,ac,bc))
 else pure (.yield (none,out.push x,ia + 1,ib,mg,ac,bc))
noncomputable def Ck(a b out:Array ax)(ia ib mg ac bc:Nat):StateT bj Sem (ForInStep LoS):=do
 let y <- dk b ib
 if (ib + 1 == b.size)=true then pure (.done (some (out.push y++a.extract ia a.size++b.extract (ib + 1) b.size),out.push y,ia,ib + 1,mg,ac,bc))
 else do
  let x <- dk a ia
  let __x <- gH true x b (ib + 1) (b.size - (ib + 1)) 0
  match __x with
  |some k =>
   if k > 0 then
    if (ib + 1 + k == b.size)=true then pure (.done (some (out.push y++b.extract (ib + 1) (ib + 1 + k)++a.extract ia a.size++b.extract (ib + 1 + k) b.size),out.push y++b.extract (ib + 1) (ib + 1 + k),ia,ib + 1 + k,mg,ac,k))
    else Lr a b (out.push y++b.extract (ib + 1) (ib + 1 + k)) ia (ib + 1 + k) mg ac k
   else Lr a b (out.push y) ia (ib + 1) mg ac k
  |_=>pure (.done (some (out.push y++a.extract ia a.size++b.extract (ib + 1) b.size),out.push y,ia,ib + 1,mg,ac,bc))
noncomputable def cA(st st':bj):Prop:=aE st'=aE st/\kindOf st'=kindOf st/\cf st'=cf st/\fq st'=fq st
theorem cA.refl(st:bj):cA st st:=⟨rfl,rfl,rfl,rfl⟩
theorem cA.trans{x y z:bj}(h:cA x y)(g:cA y z):cA x z:=⟨g.1.trans h.1,g.2.1.trans h.2.1,g.2.2.1.trans h.2.2.1,g.2.2.2.trans h.2.2.2⟩
section
variable{prog:aI}{w:az}{A:aT}{E:aa->af->Prop}{s:af}{a₀:Array ax}{κ:fm}{rk:ax->Int}{a b:Array ax}
theorem mj{g:Nat}{Q:Unit->bj->Prop}{st:bj}(h:∀st',cA st st'->Q () st'):wpS (aw prog w) A E s (lZ g) Q st :=
 i7 (h _ ⟨rfl,rfl,rfl,rfl⟩)
structure FZ (prog:aI)(w:az)(A:aT)(s:af)(κ:fm)(rk:ax->Int)(a₀ a b:Array ax):Prop where
 h0:Ax prog w A s κ rk a₀
 sa:jc rk a.toList
 sb:jc rk b.toList
 ma:∀x∈a.toList,x∈a₀.toList
 mb:∀x∈b.toList,x∈a₀.toList
 la:0 < a.size
 lb:0 < b.size
 lt0:R rk b 0 < R rk a 0
 last:∀x∈b.toList,rk x<=R rk a (a.size - 1)
theorem lG{xs:Array ax}{i:Nat}{x:ax}(h:xs[i]?=some x):x∈xs.toList:=by obtain⟨hi,rfl⟩:=gd.mp h;simp
theorem dh{xs:Array ax}{i:Nat}(h:i < xs.size):∃x,xs[i]?=some x:=⟨_,getElem?_pos xs i h⟩
theorem FZ.Ls(m:FZ prog w A s κ rk a₀ a b){out:Array ax}{ia ib:Nat}(h:Mg rk a b out ia ib)(e:ia + 1=a.size):yP rk a b (out++b.extract ib b.size++a.extract ia a.size):=by refine h.TX m.sa m.sb fun y hy x hx=>?_;obtain⟨x',hx'⟩:=dh (xs:=a) (i:=ia) (by lia);have e1:=m.last y (vE hy);rw[show a.size - 1=ia by lia,gW hx']at e1;exact eP e1 (mR m.sa hx' hx)
theorem FZ.YJ(m:FZ prog w A s κ rk a₀ a b){out:Array ax}{ia ib:Nat}(h:Mg rk a b out ia ib)(e:ib=b.size):yP rk a b (out++a.extract ia a.size++b.extract ib b.size):=by refine h.done m.sa m.sb fun x hx y hy=>?_;subst e;rw[mT (by simp)]at hy;cases hy
noncomputable def LoQ(rk:ax->Int)(a b:Array ax)(κ:fm)(st:bj)(n:Nat):ForInStep LoS->bj->Prop:=fun r st'=>cA st st'/\match r with
 | .done c=>(∃m,c.1=some m/\yP rk a b m)∨(c.1=none/\Mg rk a b c.2.1 c.2.2.1 c.2.2.2.1/\c.2.2.1 + 1 < a.size/\c.2.2.2.1 < b.size/\n<=c.2.1.size)
 | .yield c=>c.1=none/\Mg rk a b c.2.1 c.2.2.1 c.2.2.2.1/\c.2.2.1 + 1 < a.size/\c.2.2.2.1 < b.size/\n < c.2.1.size
theorem zT(m:FZ prog w A s κ rk a₀ a b){out:Array ax}{ia ib mg ac bc n:Nat}{st0 st:bj}(hS:cA st0 st)(h:Mg rk a b out ia ib)(h1:ia + 1 < a.size)(h2:ib < b.size)(hn:n<=out.size)(hc:∀x y,a[ia]?=some x->y∈b.toList.drop ib->rk x<=rk y) :
  wpS (aw prog w) A E s (Lr a b out ia ib mg ac bc) (LoQ rk a b κ st0 n) st:=by
 unfold Lr;obtain⟨x,hx⟩:=dh (xs:=a) (i:=ia) (by lia);refine a_ (bK hx ?_);have h':=h.uO m.sa hx (fun y hy=>hc x y hx hy);have sz:n < (out.push x).size:=by rw[hV];lia
 split
 ·rename_i e;exact bq ⟨hS,.inl ⟨_,rfl,m.Ls h' (by simpa using e)⟩⟩
 ·rename_i e;have e':ia + 1 + 1 < a.size:=by
   have:¬ia + 1 + 1=a.size:=by simpa using e
   lia
  split
  ·exact bq ⟨hS,.inr ⟨rfl,h',e',h2,gx sz⟩⟩
  ·exact bq ⟨hS,rfl,h',e',h2,sz⟩
theorem wV(m:FZ prog w A s κ rk a₀ a b){out:Array ax}{ia ib mg ac bc n:Nat}{st0 st:bj}(hk:kindOf st=κ)(hS:cA st0 st)(h:Mg rk a b out ia ib)(h1:ia + 1 < a.size)(h2:ib < b.size)(hn:n<=out.size)(hc:∀y x,b[ib]?=some y->x∈a.toList.drop ia->rk y<=rk x) :
  wpS (aw prog w) A E s (Ck a b out ia ib mg ac bc) (LoQ rk a b κ st0 n) st:=by
 unfold Ck;obtain⟨y,hy⟩:=dh (xs:=b) (i:=ib) h2;refine a_ (bK hy ?_);have h':=h.zR m.sb hy (fun x hx=>hc y x hy hx);have sz:n < (out.push y).size:=by rw[hV];lia
 split
 ·rename_i e;exact bq ⟨hS,.inl ⟨_,rfl,m.YJ h' (by simpa using e)⟩⟩
 ·rename_i e;have e':ib + 1 < b.size:=by
   have:¬ib + 1=b.size:=by simpa using e
   lia
  obtain⟨x,hx⟩:=dh (xs:=a) (i:=ia) (by lia);refine a_ (bK hx ?_);refine a_ (jf m.h0 hk (m.ma x (lG hx)) m.mb (by lia) (by lia) (FT m.sb _ _ (by lia)) fun k k1 k2 k3=>?_);have chunk:∀z∈(b.toList.drop (ib + 1)).take k,∀v∈a.toList.drop ia,rk z<=rk v:=fun z hz v hv=>by
   obtain⟨j,hj,ej⟩:=jL hz;have:=k2 j hj;unfold bp at this;rw[gW ej]at this;have q:rk z < rk x:=by simpa using this
   exact eP (gu q) (mR m.sa hx hv)
  have rest:∀v,v∈b.toList.drop (ib + 1 + k)->rk x<=rk v:=fun v hv=>by obtain⟨j,hj,ej⟩:=vL hv;rw[ph (ib + 1) k j]at ej;have:=k3 (k + j) (by lia) (by lia);unfold bp at this;rw[gW ej]at this;simpa using this
  dsimp only;split
  ·rename_i kp;have h'':=h'.Cj m.sb (k:=k) (by lia) chunk;have sz':n<=(out.push y++b.extract (ib + 1) (ib + 1 + k)).size:=by rw[kL];lia
   split
   ·rename_i e2;exact bq ⟨hS,.inl ⟨_,rfl,m.YJ h'' (by simpa using e2)⟩⟩
   ·rename_i e2;have e2':ib + 1 + k < b.size:=by
     have:¬ib + 1 + k=b.size:=by simpa using e2
     lia
    exact zT m hS h'' h1 e2' sz' fun x' v hx' hv=>by rw[hx]at hx';cases hx';exact rest v hv
  ·rename_i kp;obtain rfl:k=0:=by lia
   exact zT m hS h' h1 e' (gx sz) fun x' v hx' hv=>by rw[hx]at hx';cases hx';exact rest v hv
end
section
variable{prog:aI}{w:az}{A:aT}{E:aa->af->Prop}{s:af}{a₀:Array ax}{κ:fm}{rk:ax->Int}{a b:Array ax}
theorem Mg.nil:Mg rk a b #[] 0 0:=⟨d_ _,d_ _,rfl,by simp,by simp,fun x hx=>by simp at hx⟩
theorem fJ{a b:Nat}(h:¬(a == b)=true):a≠b:=fun e=>h (by simp[e])
theorem jw{a b:Nat}(h:(a == b)=true):a=b:=by simpa using h
theorem bN{α:Type}{c:Prop}[Decidable c]{t f:StateT bj Sem α}{Q:α->bj->Prop}{st:bj}(ht:c->wpS (aw prog w) A E s t Q st)(hf:¬c->wpS (aw prog w) A E s f Q st):wpS (aw prog w) A E s (if c then t else f) Q st:=by
 by_cases h:c
 ·rw[if_pos h];exact ht h
 ·rw[if_neg h];exact hf h
theorem wW(m:FZ prog w A s κ rk a₀ a b){out:Array ax}{ia ib n:Nat}{st0 st:bj}(hk:kindOf st=κ)(hS:cA st0 st)(h:Mg rk a b out ia ib)(h1:ia + 1 < a.size)(h2:ib < b.size)(hn:n<=out.size)
  {f:Option Nat->StateT bj Sem (ForInStep LoS)}{mg bc:Nat}(hf:∀k,f (some k)=if k > 0 then
    if (ia + k + 1 == a.size)=true then pure (.done (some (out++a.extract ia (ia + k)++b.extract ib b.size++a.extract (ia + k) a.size),out++a.extract ia (ia + k),ia + k,ib,mg,k,bc))
    else if (ia + k == a.size)=true then pure (.done (some (out++a.extract ia (ia + k)++a.extract (ia + k) a.size++b.extract ib b.size),out++a.extract ia (ia + k),ia + k,ib,mg,k,bc))
    else Ck a b (out++a.extract ia (ia + k)) (ia + k) ib mg k bc
   else Ck a b out ia ib mg k bc) :
  wpS (aw prog w) A E s (do let y <- dk b ib;let r <- gH false y a ia (a.size - ia) 0;f r) (LoQ rk a b κ st0 n) st:=by
 obtain⟨y,hy⟩:=dh (xs:=b) (i:=ib) h2;refine a_ (bK hy ?_);refine a_ (jf m.h0 hk (m.mb y (lG hy)) m.ma (by lia) (by lia) (FT m.sa _ _ (by lia)) fun k k1 k2 k3=>?_);rw[hf];have chunk:∀z∈(a.toList.drop ia).take k,∀v∈b.toList.drop ib,rk z<=rk v:=fun z hz v hv=>by
  obtain⟨j,hj,ej⟩:=jL hz;have:=k2 j hj;unfold bp at this;rw[gW ej]at this;have q:rk z<=rk y:=by simpa using this
  exact eP q (mR m.sb hy hv)
 have rest:∀v,v∈a.toList.drop (ia + k)->rk y<=rk v:=fun v hv=>by
  obtain⟨j,hj,ej⟩:=vL hv;rw[ph ia k j]at ej;have:=k3 (k + j) (by lia) (by lia);unfold bp at this;rw[gW ej]at this;have q:rk y < rk v:=by simpa using this
  exact gu q
 split
 ·rename_i kp;have h':=h.oJ m.sa (k:=k) (by lia) chunk;have sz':n<=(out++a.extract ia (ia + k)).size:=by rw[kL];lia
  split
  ·rename_i e;exact bq ⟨hS,.inl ⟨_,rfl,m.Ls h' (jw e)⟩⟩
  ·rename_i e;have e:=fJ e;split
   ·rename_i e2;refine bq ⟨hS,.inl ⟨_,rfl,h'.done m.sa m.sb fun x hx=>?_⟩⟩;rw[jw e2,mT (by simp)]at hx;cases hx
   ·rename_i e2;have e2:=fJ e2;exact wV m hk hS h' (by lia) h2 sz' fun y' x hy' hx=>by rw[hy]at hy';cases hy';exact rest x hx
 ·rename_i kp;obtain rfl:k=0:=by lia
  exact wV m hk hS h h1 h2 hn fun y' x hy' hx=>by rw[hy]at hy';cases hy';exact rest x hx
theorem Ga(m:FZ prog w A s κ rk a₀ a b){st:bj}(hk:kindOf st=κ){Q:Array ax->bj->Prop}(h:∀mm st',cA st st'->yP rk a b mm->Q mm st') :
  wpS (aw prog w) A E s (wU a b) Q st:=by
 rw[FW];dsimp only;refine a_ (mo (iq ⟨rfl,?_⟩));obtain⟨y0,hy0⟩:=dh (xs:=b) (i:=0) m.lb;obtain⟨x0,hx0⟩:=dh (xs:=a) (i:=0) m.la;refine a_ (bK hy0 ?_);have l0:=m.lt0;rw[gW hy0,gW hx0]at l0;have M0:Mg rk a b #[y0] 0 1:=Mg.nil.zR m.sb hy0 fun v hv=>eP (gu l0) (mR m.sa hx0 hv);have la:=m.la;have lb:=m.lb;refine bN (fun e=>bq (h _ _ (.refl _) (m.YJ M0 (jw e)))) fun e1=>?_;have e1:=fJ e1;refine bN (fun e=>bq (h _ _ (.refl _) (m.Ls M0 (jw e)))) fun e2=>?_;have e2:=fJ e2;refine a_ (g_ ?_);refine a_ (eL (eT (I:=fun x c st'=>cA st st'/\∃out ia ib mg,c=(none,out,ia,ib,mg)/\Mg rk a b out ia ib/\ia + 1 < a.size/\ib < b.size/\x + 1<=out.size)
  (Q:=fun c st'=>cA st st'/\∃mm rest,c=(some mm,rest)/\yP rk a b mm) ?step ?dX ⟨.refl _,#[y0],0,1,_,rfl,M0,by lia,by lia,by simp⟩) ?post)
 case post =>
  rintro c st' ⟨hS,mm,rest,rfl,hr⟩;exact bq (h mm st' hS hr)
 case dX =>
  rintro c st' ⟨hS,out,ia,ib,mg,rfl,hM,h1,h2,h3⟩;have:=hM.sz;lia
 case step =>
  rintro x c st' _ hx ⟨hS,out,ia,ib,mg,rfl,hM,h1,h2,h3⟩;dsimp only;refine a_ (eL (eT (I:=fun y c st''=>cA st st''/\∃out ia ib ac bc,c=(none,out,ia,ib,ac,bc)/\Mg rk a b out ia ib/\ia + 1 < a.size/\ib < b.size/\x + 1 + y<=out.size)
   (Q:=fun c st''=>cA st st''/\((∃mm rest,c=(some mm,rest)/\yP rk a b mm)∨∃out ia ib ac bc,c=(none,out,ia,ib,ac,bc)/\Mg rk a b out ia ib/\ia + 1 < a.size/\ib < b.size/\x + 2<=out.size)) ?istep ?ifin ⟨hS,out,ia,ib,0,0,rfl,hM,h1,h2,by lia⟩) ?ipost)
  case ifin =>
   rintro c st'' ⟨hS,out,ia,ib,ac,bc,rfl,hM,h1,h2,h3⟩;have:=hM.sz;lia
  case istep =>
   rintro y c st'' _ hy ⟨hS,out,ia,ib,ac,bc,rfl,hM,h1,h2,h3⟩;dsimp only;obtain⟨p,hp⟩:=dh (xs:=b) (i:=ib) h2;obtain⟨q,hq⟩:=dh (xs:=a) (i:=ia) (by lia);refine a_ (bK hp (a_ (bK hq (a_ (wQ m.h0 (hS.2.1.trans hk) (m.mb p (lG hp)) (m.ma q (lG hq)) ?_)))));by_cases c:rk p < rk q
   ·simp only[c,decide_true,if_true];refine a_ (bK hp ?_);have hM':=hM.zR m.sb hp fun v hv=>eP (gu c) (mR m.sa hq hv);split
    ·rename_i e;exact bq ⟨hS,.inl ⟨_,_,rfl,m.YJ hM' (jw e)⟩⟩
    ·rename_i e;have e:=fJ e;split
     ·exact bq ⟨hS,.inr ⟨_,_,_,_,_,rfl,hM',h1,by lia,by rw[hV];lia⟩⟩
     ·exact bq ⟨hS,_,_,_,_,_,rfl,hM',h1,by lia,by rw[hV];lia⟩
   ·simp only[c,decide_false,bP,if_false];refine a_ (bK hq ?_);have hM':=hM.uO m.sa hq fun v hv=>eP (pd.mp c) (mR m.sb hp hv);split
    ·rename_i e;exact bq ⟨hS,.inl ⟨_,_,rfl,m.Ls hM' (jw e)⟩⟩
    ·rename_i e;have e:=fJ e;split
     ·exact bq ⟨hS,.inr ⟨_,_,_,_,_,rfl,hM',by lia,h2,by rw[hV];lia⟩⟩
     ·exact bq ⟨hS,_,_,_,_,_,rfl,hM',by lia,h2,by rw[hV];lia⟩
  case ipost =>
   rintro c st'' ⟨hS,⟨mm,rest,rfl,hr⟩|⟨out,ia,ib,ac,bc,rfl,hM,h1,h2,h3⟩⟩
   ·exact bq ⟨hS,mm,_,rfl,hr⟩
   ·dsimp only;refine a_ (mo (iq ⟨rfl,?_⟩));refine a_ (eL (eT (I:=fun y c st3=>cA st st3/\∃out ia ib mg ac bc,c=(none,out,ia,ib,mg,ac,bc)/\Mg rk a b out ia ib/\ia + 1 < a.size/\ib < b.size/\x + 2 + y<=out.size)
     (Q:=fun c st3=>cA st st3/\((∃mm rest,c=(some mm,rest)/\yP rk a b mm)∨∃out ia ib mg ac bc,c=(none,out,ia,ib,mg,ac,bc)/\Mg rk a b out ia ib/\ia + 1 < a.size/\ib < b.size/\x + 2<=out.size)) ?TY ?acU ⟨hS,out,ia,ib,_,ac,bc,rfl,hM,h1,h2,by lia⟩) ?Ua)
    case acU =>
     rintro c st3 ⟨hS,out,ia,ib,mg,ac,bc,rfl,hM,h1,h2,h3⟩;have:=hM.sz;lia
    case Ua =>
     rintro c st3 ⟨hS,⟨mm,rest,rfl,hr⟩|⟨out,ia,ib,mg,ac,bc,rfl,hM,h1,h2,h3⟩⟩
     ·exact bq ⟨hS,mm,_,rfl,hr⟩
     ·dsimp only;refine a_ (mj fun zG yO=>?_);exact bq ⟨hS.trans yO,_,_,_,_,rfl,hM,h1,h2,by lia⟩
    case TY =>
     rintro y c st3 _ hy ⟨hS,out,ia,ib,mg,ac,bc,rfl,hM,h1,h2,h3⟩;have cD:∀(c:LoS) (st':bj),LoQ rk a b κ st (x + 2 + y) (.done c) st'->cA st st'/\((∃mm rest,c=(some mm,rest)/\yP rk a b mm)∨∃out ia ib mg ac bc,c=(none,out,ia,ib,mg,ac,bc)/\Mg rk a b out ia ib/\ia + 1 < a.size/\ib < b.size/\x + 2<=out.size):=by
      rintro⟨c1,out,ia,ib,mg,ac,bc⟩ st' ⟨hS,⟨mm,e,hr⟩|⟨e,hM,h1,h2,h3⟩⟩
      ·cases e;exact⟨hS,.inl ⟨mm,_,rfl,hr⟩⟩
      ·cases e;dsimp only at h1 h2 h3;exact⟨hS,.inr ⟨_,_,_,_,_,_,rfl,hM,h1,h2,by lia⟩⟩
     have cY:∀(c:LoS) (st':bj),LoQ rk a b κ st (x + 2 + y) (.yield c) st'->cA st st'/\∃out ia ib mg ac bc,c=(none,out,ia,ib,mg,ac,bc)/\Mg rk a b out ia ib/\ia + 1 < a.size/\ib < b.size/\x + 2 + (y + 1)<=out.size:=by rintro⟨c1,out,ia,ib,mg,ac,bc⟩ st' ⟨hS,e,hM,h1,h2,h3⟩;cases e;dsimp only at h1 h2 h3;exact⟨hS,_,_,_,_,_,_,rfl,hM,h1,h2,by lia⟩
     dsimp only;refine bN (fun _=>?_) (fun _=>?_)
     ·refine a_ (mj fun zG yO=>?_);exact eL (wW m ((hS.trans yO).2.1.trans hk) (hS.trans yO) hM h1 h2 h3 (fun k=>rfl)) fun r st' hq=>match r,hq with|.done c,hq=>cD c st' hq|.yield c,hq=>cY c st' hq
     ·refine a_ (mj fun zG yO=>?_);exact eL (wW m ((hS.trans yO).2.1.trans hk) (hS.trans yO) hM h1 h2 h3 (fun k=>rfl)) fun r st' hq=>match r,hq with|.done c,hq=>cD c st' hq|.yield c,hq=>cY c st' hq
end
noncomputable def wX:Array Keyed->Array Keyed->StateT SortSt Sem (Array Keyed):=sortPriv% PySem.Builtin.mergeHi
theorem Gb(a b:Array ax):wX a b=(do
 rule "list.sort.merge-hi"
 let total:=a.size + b.size
 let done (out:Array ax) (na nb:Nat):=a.extract 0 na++b.extract 0 nb++out.reverse
 let firstOfB (out:Array ax) (na nb:Nat):=b.extract 0 nb++a.extract 0 na++out.reverse
 let mut na:=a.size - 1
 let mut nb:=b.size
 let mut out:Array ax:=#[<- dk a na]
 if na == 0 then return done out na nb
 if nb == 1 then return firstOfB out na nb
 let mut minGallop:=gallopOf (<- get)
 for _ in [0:total] do
  let mut acount:=0
  let mut bcount:=0
  for _ in [0:total] do
   let some aWins <- lt' (<- dk b (nb - 1)) (<- dk a (na - 1))|return done out na nb
   if aWins then
    na:=na - 1;out:=out.push (<- dk a na);acount:=acount + 1;bcount:=0
    if na == 0 then return done out na nb
    if acount ≥ minGallop then break
   else
    nb:=nb - 1;out:=out.push (<- dk b nb);bcount:=bcount + 1;acount:=0
    if nb == 1 then return firstOfB out na nb
    if bcount ≥ minGallop then break
  rule "list.sort.gallop"
  minGallop:=minGallop + 1
  for _ in [0:total] do
   if minGallop > 1 then minGallop:=minGallop - 1
   lZ minGallop
   let some at_ <- gH false (<- dk b (nb - 1)) a 0 na (na - 1)|return done out na nb
   let k:=na - at_
   acount:=k
   if k > 0 then
    out:=out++(a.extract at_ na).reverse;na:=at_
    if na == 0 then return done out na nb
   nb:=nb - 1;out:=out.push (<- dk b nb)
   if nb == 1 then return firstOfB out na nb
   let some at_ <- gH true (<- dk a (na - 1)) b 0 nb (nb - 1)|return done out na nb
   let k:=nb - at_
   bcount:=k
   if k > 0 then
    out:=out++(b.extract at_ nb).reverse;nb:=at_
    if nb == 1 then return firstOfB out na nb
    if nb == 0 then return done out na nb
   na:=na - 1;out:=out.push (<- dk a na)
   if na == 0 then return done out na nb
   if acount < 7 && bcount < 7 then break
  minGallop:=minGallop + 1
  lZ minGallop
 unsupported "internal:list.sort.merge-bound"):=rfl
structure Mh (rk:ax->Int)(a b out:Array ax)(na nb:Nat):Prop where
 ha:na<=a.size
 hb:nb<=b.size
 sz:out.size + (na + nb)=a.size + b.size
 pm:((a.toList.take na++b.toList.take nb)++out.toList.reverse).Perm (a.toList++b.toList)
 up:jc rk out.toList.reverse
 bd:∀y∈a.toList.take na++b.toList.take nb,∀x∈out.toList,rk y<=rk x
section
variable{rk:ax->Int}{a b out:Array ax}{na nb k:Nat}{x y:ax}
theorem Jc(l:List ax){i n:Nat}(h:i<=n):l.take n=l.take i++(l.take n).drop i:=by
 conv=>lhs;rw[<- ng i (l.take n)]
 rw[List.take_take,Nat.min_eq_left h]
theorem Mh.oJ(h:Mh rk a b out na nb)(sa:jc rk a.toList)(hk:k<=na)(hc:∀x∈(a.toList.take na).drop k,∀y∈b.toList.take nb,rk y<=rk x):Mh rk a b (out++(a.extract k na).reverse) k nb:=by
 have ha:=h.ha;have e:(a.extract k na).toList=(a.toList.take na).drop k:=by rw[mQ,List.drop_take]
 have sp:=Jc a.toList hk;have sd:jc rk (a.toList.take na):=kB (oo _ _) sa;rw[sp]at sd;obtain⟨s1,s2,s3⟩:=gT.mp sd;have er:(out++(a.extract k na).reverse).toList.reverse=(a.toList.take na).drop k++out.toList.reverse:=by rw[kA,List.reverse_append,Array.toList_reverse,List.reverse_reverse,e]
 refine⟨by lia,h.hb,?_,?_,?_,?_⟩
 ·have:=h.sz;rw[kL,Array.size_reverse,sC];lia
 ·rw[er];refine ip.trans ?_ h.pm
  conv=>rhs;rw[sp]
  simp only[fN];refine o6 _ ?_;rw[<- fN,<- fN];exact xm _ kD
 ·rw[er];refine gT.mpr ⟨s2,h.up,fun x hx y hy=>h.bd x ?_ y (sM.mp hy)⟩;rw[sp];simp[hx]
 ·intro y hy x hx;have hx':x∈(a.toList.take na).drop k++out.toList.reverse:=by rw[<- er];exact sM.mpr hx
  rcases du.mp hx' with hx|hx
  ·rcases du.mp hy with hy|hy
   ·exact s3 y hy x hx
   ·exact hc x hx y hy
  ·refine h.bd y ?_ x (sM.mp hx);rw[sp];rcases du.mp hy with hy|hy <;> simp[hy]
theorem Mh.swap(h:Mh rk a b out na nb):Mh rk b a out nb na:=by
 refine⟨h.hb,h.ha,by have:=h.sz;lia,?_,h.up,fun y hy x hx=>h.bd y ?_ x hx⟩
 ·exact(xm _ kD).trans (h.pm.trans kD)
 ·rcases du.mp hy with hy|hy <;> simp[hy]
theorem Mh.Cj(h:Mh rk a b out na nb)(sb:jc rk b.toList)(hk:k<=nb)(hc:∀y∈(b.toList.take nb).drop k,∀x∈a.toList.take na,rk x<=rk y):Mh rk a b (out++(b.extract k nb).reverse) na k :=
 (h.swap.oJ sb hk hc).swap
theorem Ub{a:Array ax}{n:Nat}{x:ax}(hn:0 < n)(h:a[n - 1]?=some x):out.push x=out++(a.extract (n - 1) n).reverse:=by
 have e:=Lq (out:=#[]) h;have e2:a.extract (n - 1) n=#[x]:=by rw[show n - 1 + 1=n by lia]at e;simpa using e.symm
 rw[e2];rfl
theorem ahO{a:Array ax}{n:Nat}{x z:ax}(hn:0 < n)(h:a[n - 1]?=some x)(hz:z∈(a.toList.take n).drop (n - 1)):z=x:=by
 obtain⟨j,hj⟩:=j_.mp hz;rw[pf]at hj;have hl:n - 1 + j < n:=by
  rcases sD (n - 1 + j) n with q|q
  ·exact q
  ·rw[sF q]at hj;cases hj
 obtain rfl:j=0:=by lia
 rw[mB hl]at hj;have:a[n - 1]?=some z:=by simpa using hj
 rw[this]at h;cases h;rfl
theorem rY{a:Array ax}{n:Nat}{x z:ax}(hn:0 < n)(sa:jc rk a.toList)(h:a[n - 1]?=some x)(hz:z∈a.toList.take n):rk z<=rk x:=by
 obtain⟨j,hj⟩:=j_.mp hz;have hl:j < n:=by
  rcases sD j n with q|q
  ·exact q
  ·rw[sF q]at hj;cases hj
 rw[mB hl]at hj;have hj':a[j]?=some z:=by simpa using hj
 obtain⟨q1,_⟩:=gd.mp hj';obtain⟨q2,_⟩:=gd.mp h;have:=FT sa 0 a.size (by lia) j (n - 1) (by lia) (by lia);rw[hZ,hZ,gW hj',gW h]at this;exact this
theorem Mh.uO(h:Mh rk a b out na nb)(sa:jc rk a.toList)(hn:0 < na)(hx:a[na - 1]?=some x)(hc:∀y∈b.toList.take nb,rk y<=rk x):Mh rk a b (out.push x) (na - 1) nb:=by
 rw[Ub hn hx];exact h.oJ sa (by lia) fun z hz y hy=>by rw[ahO hn hx hz];exact hc y hy
theorem Mh.zR(h:Mh rk a b out na nb)(sb:jc rk b.toList)(hn:0 < nb)(hx:b[nb - 1]?=some x)(hc:∀y∈a.toList.take na,rk y<=rk x):Mh rk a b (out.push x) na (nb - 1):=(h.swap.uO sb hn hx hc).swap
theorem Mh.done(h:Mh rk a b out na nb)(sa:jc rk a.toList)(sb:jc rk b.toList)(hc:∀x∈a.toList.take na,∀y∈b.toList.take nb,rk x<=rk y):yP rk a b (a.extract 0 na++b.extract 0 nb++out.reverse):=by
 have e:(a.extract 0 na++b.extract 0 nb++out.reverse).toList=(a.toList.take na++b.toList.take nb)++out.toList.reverse:=by rw[kA,kA,mQ,mQ,Array.toList_reverse];simp
 refine⟨by rw[e];exact h.pm,?_⟩;rw[e];refine gT.mpr ⟨gT.mpr ⟨kB (oo _ _) sa,kB (oo _ _) sb,hc⟩,h.up,fun y hy x hx=>h.bd y hy x (sM.mp hx)⟩
theorem Mh.TX(h:Mh rk a b out na nb)(sa:jc rk a.toList)(sb:jc rk b.toList)(hc:∀y∈b.toList.take nb,∀x∈a.toList.take na,rk y<=rk x):yP rk a b (b.extract 0 nb++a.extract 0 na++out.reverse):=by obtain⟨h1,h2⟩:=h.swap.done sb sa hc;exact⟨h1.trans kD,h2⟩
theorem Cm{a:Array ax}{n k:Nat}{z:ax}(hz:z∈(a.toList.take n).drop k):∃j,k<=j/\j < n/\a[j]?=some z:=by
 obtain⟨j,hj⟩:=j_.mp hz;rw[pf]at hj;have hl:k + j < n:=by
  rcases sD (k + j) n with q|q
  ·exact q
  ·rw[sF q]at hj;cases hj
 rw[mB hl]at hj;exact⟨k + j,by lia,hl,by simpa using hj⟩
theorem Lw{a:Array ax}{n:Nat}{z:ax}(hz:z∈a.toList.take n):∃j,j < n/\a[j]?=some z:=by obtain⟨j,_,h2,h3⟩:=Cm (k:=0) (by simpa using hz);exact⟨j,h2,h3⟩
theorem Mh.nil:Mh rk a b #[] a.size b.size:=⟨bE _,bE _,by simp,by rw[vz (by simp),vz (by simp)];simp,by simp,fun y _ x hx=>by simp at hx⟩
end
noncomputable abbrev HiS:=Option (Array ax)×Nat×Nat×Array ax×Nat×Nat×Nat
noncomputable def Lx(a b out:Array ax)(na nb mg ac bc:Nat):StateT bj Sem (ForInStep HiS):=do
 let x <- dk a (na - 1)
 if (na - 1 == 0)=true then pure (.done (some (a.extract 0 (na - 1)++b.extract 0 nb++(out.push x).reverse),na - 1,nb,out.push x,mg,ac,bc))
 else if (decide (ac < 7) && decide (bc < 7))=true then pure (.done (none,na - 1,nb,out.push x,mg,ac,bc))
 else pure (.yield (none,na - 1,nb,out.push x,mg,ac,bc))
noncomputable def Cp(a b out:Array ax)(na nb mg ac bc:Nat):StateT bj Sem (ForInStep HiS):=do
 let y <- dk b (nb - 1)
 if (nb - 1 == 1)=true then pure (.done (some (b.extract 0 (nb - 1)++a.extract 0 na++(out.push y).reverse),na,nb - 1,out.push y,mg,ac,bc))
 else do
  let x <- dk a (na - 1)
  let __x <- gH true x b 0 (nb - 1) (nb - 1 - 1)
  match __x with
  |some k =>
   if nb - 1 - k > 0 then
    if (k == 1)=true then pure (.done (some (b.extract 0 k++a.extract 0 na++(out.push y++(b.extract k (nb - 1)).reverse).reverse),na,k,out.push y++(b.extract k (nb - 1)).reverse,mg,ac,nb - 1 - k))
    else if (k == 0)=true then pure (.done (some (a.extract 0 na++b.extract 0 k++(out.push y++(b.extract k (nb - 1)).reverse).reverse),na,k,out.push y++(b.extract k (nb - 1)).reverse,mg,ac,nb - 1 - k))
    else Lx a b (out.push y++(b.extract k (nb - 1)).reverse) na k mg ac (nb - 1 - k)
   else Lx a b (out.push y) na (nb - 1) mg ac (nb - 1 - k)
  |_=>pure (.done (some (a.extract 0 na++b.extract 0 (nb - 1)++(out.push y).reverse),na,nb - 1,out.push y,mg,ac,bc))
section
variable{prog:aI}{w:az}{A:aT}{E:aa->af->Prop}{s:af}{a₀:Array ax}{κ:fm}{rk:ax->Int}{a b:Array ax}
theorem FZ.YK(m:FZ prog w A s κ rk a₀ a b){out:Array ax}{na nb:Nat}(h:Mh rk a b out na nb)(e:nb=1):yP rk a b (b.extract 0 nb++a.extract 0 na++out.reverse):=by refine h.TX m.sa m.sb fun y hy x hx=>?_;subst e;obtain⟨x',hx'⟩:=dh (xs:=a) (i:=0) m.la;obtain⟨y',hy'⟩:=dh (xs:=b) (i:=0) m.lb;have e1:=m.lt0;rw[gW hx',gW hy']at e1;have e2:=rY (n:=1) (by lia) m.sb hy' hy;have e3:=mR (i:=0) m.sa hx' (by simpa using oC hx);lia
theorem FZ.Xc(m:FZ prog w A s κ rk a₀ a b){out:Array ax}{na nb:Nat}(h:Mh rk a b out na nb)(e:na=0):yP rk a b (a.extract 0 na++b.extract 0 nb++out.reverse):=by refine h.done m.sa m.sb fun x hx=>?_;subst e;simp at hx
noncomputable def HiQ(rk:ax->Int)(a b:Array ax)(κ:fm)(st:bj)(n:Nat):ForInStep HiS->bj->Prop:=fun r st'=>cA st st'/\match r with
 | .done c=>(∃m,c.1=some m/\yP rk a b m)∨(c.1=none/\Mh rk a b c.2.2.2.1 c.2.1 c.2.2.1/\0 < c.2.1/\1 < c.2.2.1/\n<=c.2.2.2.1.size)
 | .yield c=>c.1=none/\Mh rk a b c.2.2.2.1 c.2.1 c.2.2.1/\0 < c.2.1/\1 < c.2.2.1/\n < c.2.2.2.1.size
theorem zU(m:FZ prog w A s κ rk a₀ a b){out:Array ax}{na nb mg ac bc n:Nat}{st0 st:bj}(hS:cA st0 st)(h:Mh rk a b out na nb)(h1:0 < na)(h2:1 < nb)(hn:n<=out.size)(hc:∀x y,a[na - 1]?=some x->y∈b.toList.take nb->rk y<=rk x) :
  wpS (aw prog w) A E s (Lx a b out na nb mg ac bc) (HiQ rk a b κ st0 n) st:=by
 unfold Lx;have ha:=h.ha;obtain⟨x,hx⟩:=dh (xs:=a) (i:=na - 1) (by lia);refine a_ (bK hx ?_);have h':=h.uO m.sa h1 hx (fun y hy=>hc x y hx hy);have sz:n < (out.push x).size:=by rw[hV];lia
 refine bN (fun e=>bq ⟨hS,.inl ⟨_,rfl,m.Xc h' (jw e)⟩⟩) fun e=>?_;have e:=fJ e;exact bN (fun _=>bq ⟨hS,.inr ⟨rfl,h',by show 0 < na - 1;lia,h2,gx sz⟩⟩) fun _=>bq ⟨hS,rfl,h',by show 0 < na - 1;lia,h2,sz⟩
theorem wY(m:FZ prog w A s κ rk a₀ a b){out:Array ax}{na nb mg ac bc n:Nat}{st0 st:bj}(hk:kindOf st=κ)(hS:cA st0 st)(h:Mh rk a b out na nb)(h1:0 < na)(h2:1 < nb)(hn:n<=out.size)(hc:∀y x,b[nb - 1]?=some y->x∈a.toList.take na->rk x<=rk y) :
  wpS (aw prog w) A E s (Cp a b out na nb mg ac bc) (HiQ rk a b κ st0 n) st:=by
 unfold Cp;have ha:=h.ha;have hb:=h.hb;obtain⟨y,hy⟩:=dh (xs:=b) (i:=nb - 1) (by lia);refine a_ (bK hy ?_);have h':=h.zR m.sb (by lia) hy (fun x hx=>hc y x hy hx);have sz:n < (out.push y).size:=by rw[hV];lia
 refine bN (fun e=>bq ⟨hS,.inl ⟨_,rfl,m.YK h' (jw e)⟩⟩) fun e=>?_;have e:=fJ e;obtain⟨x,hx⟩:=dh (xs:=a) (i:=na - 1) (by lia);refine a_ (bK hx ?_);refine a_ (jf m.h0 hk (m.ma x (lG hx)) m.mb (by lia) (by lia) (FT m.sb _ _ (by lia)) fun k k1 k2 k3=>?_);have chunk:∀z∈(b.toList.take (nb - 1)).drop k,∀v∈a.toList.take na,rk v<=rk z:=fun z hz v hv=>by
  obtain⟨j,j1,j2,ej⟩:=Cm hz;have:=k3 j j1 j2;unfold bp at this;rw[hZ,gW ej]at this;have q:rk x<=rk z:=by simpa using this
  exact eP (rY h1 m.sa hx hv) q
 have rest:∀v,v∈b.toList.take k->rk v<=rk x:=fun v hv=>by
  obtain⟨j,hj,ej⟩:=Lw hv;have:=k2 j hj;unfold bp at this;rw[hZ,gW ej]at this;have q:rk v < rk x:=by simpa using this
  exact gu q
 dsimp only;refine bN (fun kp=>?_) fun kp=>?_
 ·have h'':=h'.Cj m.sb (k:=k) (by lia) chunk;have sz':n<=(out.push y++(b.extract k (nb - 1)).reverse).size:=by rw[kL];lia
  refine bN (fun e2=>bq ⟨hS,.inl ⟨_,rfl,m.YK h'' (jw e2)⟩⟩) fun e2=>?_;have e2:=fJ e2;refine bN (fun e3=>bq ⟨hS,.inl ⟨_,rfl,h''.done m.sa m.sb fun x _ y hy=>?_⟩⟩) fun e3=>?_
  ·rw[jw e3]at hy;simp at hy
  ·have e3:=fJ e3;exact zU m hS h'' h1 (by lia) sz' fun x' v hx' hv=>by rw[hx]at hx';cases hx';exact rest v hv
 ·obtain rfl:k=nb - 1:=by lia
  exact zU m hS h' h1 (by lia) (gx sz) fun x' v hx' hv=>by rw[hx]at hx';cases hx';exact rest v hv
theorem wZ(m:FZ prog w A s κ rk a₀ a b){out:Array ax}{na nb n:Nat}{st0 st:bj}(hk:kindOf st=κ)(hS:cA st0 st)(h:Mh rk a b out na nb)(h1:0 < na)(h2:1 < nb)(hn:n<=out.size)
  {f:Option Nat->StateT bj Sem (ForInStep HiS)}{mg bc:Nat}(hf:∀k,f (some k)=if na - k > 0 then
    if (k == 0)=true then pure (.done (some (a.extract 0 k++b.extract 0 nb++(out++(a.extract k na).reverse).reverse),k,nb,out++(a.extract k na).reverse,mg,na - k,bc))
    else Cp a b (out++(a.extract k na).reverse) k nb mg (na - k) bc
   else Cp a b out na nb mg (na - k) bc) :
  wpS (aw prog w) A E s (do let y <- dk b (nb - 1);let r <- gH false y a 0 na (na - 1);f r) (HiQ rk a b κ st0 n) st:=by
 have ha:=h.ha;have hb:=h.hb;obtain⟨y,hy⟩:=dh (xs:=b) (i:=nb - 1) (by lia);refine a_ (bK hy ?_);refine a_ (jf m.h0 hk (m.mb y (lG hy)) m.ma (by lia) (by lia) (FT m.sa _ _ (by lia)) fun k k1 k2 k3=>?_);rw[hf];have chunk:∀z∈(a.toList.take na).drop k,∀v∈b.toList.take nb,rk v<=rk z:=fun z hz v hv=>by
  obtain⟨j,j1,j2,ej⟩:=Cm hz;have:=k3 j j1 j2;unfold bp at this;rw[hZ,gW ej]at this;have q:rk y < rk z:=by simpa using this
  exact eP (rY (by lia) m.sb hy hv) (gu q)
 have rest:∀v,v∈a.toList.take k->rk v<=rk y:=fun v hv=>by obtain⟨j,hj,ej⟩:=Lw hv;have:=k2 j hj;unfold bp at this;rw[hZ,gW ej]at this;simpa using this
 refine bN (fun kp=>?_) fun kp=>?_
 ·have h':=h.oJ m.sa (k:=k) (by lia) chunk;have sz':n<=(out++(a.extract k na).reverse).size:=by rw[kL];lia
  refine bN (fun e=>bq ⟨hS,.inl ⟨_,rfl,m.Xc h' (jw e)⟩⟩) fun e=>?_;have e:=fJ e;exact wY m hk hS h' (by lia) h2 sz' fun y' x hy' hx=>by rw[hy]at hy';cases hy';exact rest x hx
 ·obtain rfl:k=na:=by lia
  exact wY m hk hS h h1 h2 hn fun y' x hy' hx=>by rw[hy]at hy';cases hy';exact rest x hx
theorem Gd(m:FZ prog w A s κ rk a₀ a b){st:bj}(hk:kindOf st=κ){Q:Array ax->bj->Prop}(h:∀mm st',cA st st'->yP rk a b mm->Q mm st') :
  wpS (aw prog w) A E s (wX a b) Q st:=by
 rw[Gb];dsimp only;have la:=m.la;have lb:=m.lb;refine a_ (mo (iq ⟨rfl,?_⟩));obtain⟨x0,hx0⟩:=dh (xs:=a) (i:=a.size - 1) (by lia);refine a_ (bK hx0 ?_);have M0:Mh rk a b #[x0] (a.size - 1) b.size:=Mh.nil.uO m.sa la hx0 fun v hv=>by have:=m.last v (oC hv);rwa [gW hx0]at this
 refine bN (fun e=>bq (h _ _ (.refl _) (m.Xc M0 (jw e)))) fun e1=>?_;have e1:=fJ e1;refine bN (fun e=>bq (h _ _ (.refl _) (m.YK M0 (jw e)))) fun e2=>?_;have e2:=fJ e2;refine a_ (g_ ?_);refine a_ (eL (eT (I:=fun x c st'=>cA st st'/\∃na nb out mg,c=(none,na,nb,out,mg)/\Mh rk a b out na nb/\0 < na/\1 < nb/\x + 1<=out.size)
  (Q:=fun c st'=>cA st st'/\∃mm rest,c=(some mm,rest)/\yP rk a b mm) ?step ?dX ⟨.refl _,_,_,#[x0],_,rfl,M0,by lia,by lia,by simp⟩) ?post)
 case post =>
  rintro c st' ⟨hS,mm,rest,rfl,hr⟩;exact bq (h mm st' hS hr)
 case dX =>
  rintro c st' ⟨hS,na,nb,out,mg,rfl,hM,h1,h2,h3⟩;have:=hM.sz;lia
 case step =>
  rintro x c st' _ hx ⟨hS,na,nb,out,mg,rfl,hM,h1,h2,h3⟩;dsimp only;refine a_ (eL (eT (I:=fun y c st''=>cA st st''/\∃na nb out ac bc,c=(none,na,nb,out,ac,bc)/\Mh rk a b out na nb/\0 < na/\1 < nb/\x + 1 + y<=out.size)
   (Q:=fun c st''=>cA st st''/\((∃mm rest,c=(some mm,rest)/\yP rk a b mm)∨∃na nb out ac bc,c=(none,na,nb,out,ac,bc)/\Mh rk a b out na nb/\0 < na/\1 < nb/\x + 2<=out.size)) ?istep ?ifin ⟨hS,na,nb,out,0,0,rfl,hM,h1,h2,by lia⟩) ?ipost)
  case ifin =>
   rintro c st'' ⟨hS,na,nb,out,ac,bc,rfl,hM,h1,h2,h3⟩;have:=hM.sz;lia
  case istep =>
   rintro y c st'' _ hy ⟨hS,na,nb,out,ac,bc,rfl,hM,h1,h2,h3⟩;dsimp only;have ha:=hM.ha;have hb:=hM.hb;obtain⟨p,hp⟩:=dh (xs:=b) (i:=nb - 1) (by lia);obtain⟨q,hq⟩:=dh (xs:=a) (i:=na - 1) (by lia);refine a_ (bK hp (a_ (bK hq (a_ (wQ m.h0 (hS.2.1.trans hk) (m.mb p (lG hp)) (m.ma q (lG hq)) ?_)))));by_cases c:rk p < rk q
   ·simp only[c,decide_true,if_true];refine a_ (bK hq ?_);have hM':=hM.uO m.sa h1 hq fun v hv=>eP (rY (by lia) m.sb hp hv) (gu c);refine bN (fun e=>bq ⟨hS,.inl ⟨_,_,rfl,m.Xc hM' (jw e)⟩⟩) fun e=>?_;have e:=fJ e;exact bN (fun _=>bq ⟨hS,.inr ⟨_,_,_,_,_,rfl,hM',by lia,h2,by rw[hV];lia⟩⟩) fun _=>bq ⟨hS,_,_,_,_,_,rfl,hM',by lia,h2,by rw[hV];lia⟩
   ·simp only[c,decide_false,bP,if_false];refine a_ (bK hp ?_);have hM':=hM.zR m.sb (by lia) hp fun v hv=>eP (rY h1 m.sa hq hv) (pd.mp c);refine bN (fun e=>bq ⟨hS,.inl ⟨_,_,rfl,m.YK hM' (jw e)⟩⟩) fun e=>?_;have e:=fJ e;exact bN (fun _=>bq ⟨hS,.inr ⟨_,_,_,_,_,rfl,hM',h1,by lia,by rw[hV];lia⟩⟩) fun _=>bq ⟨hS,_,_,_,_,_,rfl,hM',h1,by lia,by rw[hV];lia⟩
  case ipost =>
   rintro c st'' ⟨hS,⟨mm,rest,rfl,hr⟩|⟨na,nb,out,ac,bc,rfl,hM,h1,h2,h3⟩⟩
   ·exact bq ⟨hS,mm,_,rfl,hr⟩
   ·dsimp only;refine a_ (mo (iq ⟨rfl,?_⟩));refine a_ (eL (eT (I:=fun y c st3=>cA st st3/\∃na nb out mg ac bc,c=(none,na,nb,out,mg,ac,bc)/\Mh rk a b out na nb/\0 < na/\1 < nb/\x + 2 + y<=out.size)
     (Q:=fun c st3=>cA st st3/\((∃mm rest,c=(some mm,rest)/\yP rk a b mm)∨∃na nb out mg ac bc,c=(none,na,nb,out,mg,ac,bc)/\Mh rk a b out na nb/\0 < na/\1 < nb/\x + 2<=out.size)) ?TY ?acU ⟨hS,na,nb,out,_,ac,bc,rfl,hM,h1,h2,by lia⟩) ?Ua)
    case acU =>
     rintro c st3 ⟨hS,na,nb,out,mg,ac,bc,rfl,hM,h1,h2,h3⟩;have:=hM.sz;lia
    case Ua =>
     rintro c st3 ⟨hS,⟨mm,rest,rfl,hr⟩|⟨na,nb,out,mg,ac,bc,rfl,hM,h1,h2,h3⟩⟩
     ·exact bq ⟨hS,mm,_,rfl,hr⟩
     ·dsimp only;refine a_ (mj fun zG yO=>?_);exact bq ⟨hS.trans yO,_,_,_,_,rfl,hM,h1,h2,by lia⟩
    case TY =>
     rintro y c st3 _ hy ⟨hS,na,nb,out,mg,ac,bc,rfl,hM,h1,h2,h3⟩;have cD:∀(c:HiS) (st':bj),HiQ rk a b κ st (x + 2 + y) (.done c) st'->cA st st'/\((∃mm rest,c=(some mm,rest)/\yP rk a b mm)∨∃na nb out mg ac bc,c=(none,na,nb,out,mg,ac,bc)/\Mh rk a b out na nb/\0 < na/\1 < nb/\x + 2<=out.size):=by
      rintro⟨c1,na,nb,out,mg,ac,bc⟩ st' ⟨hS,⟨mm,e,hr⟩|⟨e,hM,h1,h2,h3⟩⟩
      ·cases e;exact⟨hS,.inl ⟨mm,_,rfl,hr⟩⟩
      ·cases e;dsimp only at h1 h2 h3;exact⟨hS,.inr ⟨_,_,_,_,_,_,rfl,hM,h1,h2,by lia⟩⟩
     have cY:∀(c:HiS) (st':bj),HiQ rk a b κ st (x + 2 + y) (.yield c) st'->cA st st'/\∃na nb out mg ac bc,c=(none,na,nb,out,mg,ac,bc)/\Mh rk a b out na nb/\0 < na/\1 < nb/\x + 2 + (y + 1)<=out.size:=by rintro⟨c1,na,nb,out,mg,ac,bc⟩ st' ⟨hS,e,hM,h1,h2,h3⟩;cases e;dsimp only at h1 h2 h3;exact⟨hS,_,_,_,_,_,_,rfl,hM,h1,h2,by lia⟩
     dsimp only;refine bN (fun _=>?_) (fun _=>?_)
     ·refine a_ (mj fun zG yO=>?_);exact eL (wZ m ((hS.trans yO).2.1.trans hk) (hS.trans yO) hM h1 h2 h3 (fun k=>rfl)) fun r st' hq=>match r,hq with|.done c,hq=>cD c st' hq|.yield c,hq=>cY c st' hq
     ·refine a_ (mj fun zG yO=>?_);exact eL (wZ m ((hS.trans yO).2.1.trans hk) (hS.trans yO) hM h1 h2 h3 (fun k=>rfl)) fun r st' hq=>match r,hq with|.done c,hq=>cD c st' hq|.yield c,hq=>cY c st' hq
end
theorem Ge(i:Nat):mergeAt' i=(do
 let s <- get
 let (some (sa,na,power),some (sb,nb,_)):=((cf s)[i]?,(cf s)[i + 1]?)|unsupported "internal:list.sort.pending"
 set (nL s (((cf s).setIfInBounds i (sa,na + nb,power)).eraseIdxIfInBounds (i + 1)))
 let some k <- gH false (<- dk (aE s) sb) (aE s) sa na 0|return false
 let (sa,na):=(sa + k,na - k)
 if na == 0 then return true
 let some nb <- gH true (<- dk (aE s) (sa + na - 1)) (aE s) sb nb (nb - 1)|return false
 if nb == 0 then return true
 let x:=(aE s).extract sa sb
 let y:=(aE s).extract sb (sb + nb)
 let merged <- if na<=nb then wU x y else wX x y
 modify fun s=>setArr s (merged.toList.zipIdx.foldl (fun a (p,j)=>a.setIfInBounds (sa + j) p) (aE s))
 return (fq (<- get)).isNone):=rfl
section
variable{prog:aI}{w:az}{A:aT}{E:aa->af->Prop}{s:af}{a₀:Array ax}{κ:fm}{rk:ax->Int}
theorem Gf{base:Nat}:∀(M:List ax) (n:Nat) (Pre Z T:List ax) (arr:Array ax),arr.toList=Pre++(Z++T)->base + n=Pre.length->M.length=Z.length ->
  ((M.zipIdx n).foldl (fun a (p:ax×Nat)=>a.setIfInBounds (base + p.2) p.1) arr).toList=Pre++(M++T)
 | [],n,Pre,Z,T,arr,h,_,hl=>by obtain rfl:Z=[]:=r8.mp hl.symm;simpa using h
 |m::M,n,Pre,Z,T,arr,h,hb,hl=>by
  cases Z with
  |nil=>cases hl
  |cons z Z =>
   have e:(arr.setIfInBounds (base + n) m).toList=(Pre++[m])++(Z++T):=by rw[Array.toList_setIfInBounds,h,hb];simp[List.set_append]
   have:=Gf (base:=base) M (n + 1) (Pre++[m]) Z T _ e (by simp;lia) (by simpa using hl);rw[xn,ll,this];simp
theorem Cq{xs:Array ax}{P L S:List ax}(h:xs.toList=P++(L++S)){i:Nat}(hi:i < L.length):R rk xs (P.length + i)=rk L[i]:=by refine gW ?_;rw[<- j9,h,gL (by lia),fg (by lia)];rw[show P.length + i - P.length=i by lia,cS hi]
theorem Jd{xs:Array ax}{P L S:List ax}(h:xs.toList=P++(L++S)):Up rk xs P.length L.length↔jc rk L:=by
 constructor
 ·intro u;refine l9.mpr ?_;intro i j hi hj hij;have:=u i j (by lia) hj;rwa [Cq h hi,Cq h hj]at this
 ·intro u i j hij hj;rw[Cq h (by lia),Cq h hj];by_cases e:i=j
  ·subst e;exact hG _
  ·exact l9.mp u i j (by lia) hj (by lia)
theorem Gg{st:bj}{i sa na nb pw pw2:Nat}{Q:Bool->bj->Prop}(h0:Ax prog w A s κ rk a₀)(hp:(aE st).Perm a₀)(hk:kindOf st=κ)(hf:fq st=none)
  (hi:(cf st)[i]?=some (sa,na,pw)) (hj:(cf st)[i + 1]?=some (sa + na,nb,pw2)) (na1:1<=na) (nb1:1<=nb) (hz:sa + na + nb<=a₀.size) (ua:Up rk (aE st) sa na) (ub:Up rk (aE st) (sa + na) nb)
  (h:∀st',(aE st').Perm a₀->kindOf st'=κ->fq st'=none->cf st'=((cf st).setIfInBounds i (sa,na + nb,pw)).eraseIdxIfInBounds (i + 1)->(∀q,q < sa∨sa + na + nb<=q->(aE st')[q]?=(aE st)[q]?)->Up rk (aE st') sa (na + nb)->Q true st') :
  wpS (aw prog w) A E s (mergeAt' i) Q st:=by
 rw[Ge];refine a_ (g_ ?_);dsimp only;rw[hi,hj];dsimp only;have ahP:∀(st1:bj) (Q':PUnit->bj->Prop),Q' ⟨⟩ st1->wpS (aw prog w) A E s (set st1:StateT bj Sem PUnit) Q' st:=fun st1 Q' hq=>by unfold wpS;rw[StateT.run_set];exact aS ⟨rfl,hq⟩
 refine a_ (ahP _ _ ?_);have sz:(aE st).size=a₀.size:=hp.size_eq;have mem:∀x∈(aE st).toList,x∈a₀.toList:=fun x hx=>(sm.mp hp).mem_iff.mp hx;generalize YL:nL st (((cf st).setIfInBounds i (sa,na + nb,pw)).eraseIdxIfInBounds (i + 1))=st1;have k1:kindOf st1=κ:=by rw[<- YL];exact hk
 have f1:fq st1=none:=by rw[<- YL];exact hf
 have a1:aE st1=aE st:=by rw[<- YL]
 have p1:cf st1=((cf st).setIfInBounds i (sa,na + nb,pw)).eraseIdxIfInBounds (i + 1):=by rw[<- YL]
 obtain⟨y,hy⟩:=dh (xs:=aE st) (i:=sa + na) (by lia);obtain⟨z,hz'⟩:=dh (xs:=aE st) (i:=sa + na - 1) (by lia);generalize aE st=xs at *;refine a_ (bK hy ?_);refine a_ (jf h0 k1 (mem y (lG hy)) mem (by lia) (by lia) ua fun k kn kl kr=>?_);have kl':∀q,q < k->R rk xs (sa + q)<=rk y:=fun q hq=>by have:=kl q hq;unfold bp at this;simpa using this
 have kr':∀q,k<=q->q < na->rk y < R rk xs (sa + q):=fun q h1 h2=>by have:=kr q h1 h2;unfold bp at this;simpa using this
 have ub0:∀q,q < nb->rk y<=R rk xs (sa + na + q):=fun q hq=>by have:=ub 0 q (by lia) hq;rwa [l6,gW hy]at this
 have whole:(∀q,q < na->∀q',q' < nb->R rk xs (sa + q)<=R rk xs (sa + na + q'))->Up rk xs sa (na + nb):=fun hq i j hij hj=>by
  by_cases c:j < na
  ·exact ua i j hij c
  ·by_cases d:i < na
   ·have:=hq i d (j - na) (by lia);rwa [show sa + na + (j - na)=sa + j by lia]at this
   ·have:=ub (i - na) (j - na) (by lia) (by lia);rwa [show sa + na + (j - na)=sa + j by lia,show sa + na + (i - na)=sa + i by lia]at this
 dsimp only;refine bN (fun e=>bq ?_) fun e=>?_
 ·have e:=jw e;refine h st1 (by rw[a1];exact hp) k1 f1 p1 (fun _ _=>by rw[a1]) ?_;rw[a1];exact whole fun q hq q' hq'=>eP (kl' q (by lia)) (ub0 q' hq')
 have e:=fJ e;rw[show sa + k + (na - k) - 1=sa + na - 1 by lia];refine a_ (bK hz' ?_);refine a_ (jf h0 k1 (mem z (lG hz')) mem (by lia) (by lia) ub fun n nn nl nr=>?_);have nl':∀q,q < n->R rk xs (sa + na + q) < rk z:=fun q hq=>by have:=nl q hq;unfold bp at this;simpa using this
 have nr':∀q,n<=q->q < nb->rk z<=R rk xs (sa + na + q):=fun q h1 h2=>by have:=nr q h1 h2;unfold bp at this;simpa using this
 have uaz:∀q,q < na->R rk xs (sa + q)<=rk z:=fun q hq=>by have:=ua q (na - 1) (by lia) (by lia);rwa [show sa + (na - 1)=sa + na - 1 by lia,gW hz']at this
 refine bN (fun e2=>bq ?_) fun e2=>?_
 ·have e2:=jw e2;refine h st1 (by rw[a1];exact hp) k1 f1 p1 (fun _ _=>by rw[a1]) ?_;rw[a1];exact whole fun q hq q' hq'=>eP (uaz q hq) (nr' q' (by lia) hq')
 have e2:=fJ e2;have hxl:xs.toList.length=a₀.size:=by rw[ke];exact sz
 obtain⟨P,hP⟩:∃P,P=xs.toList.take sa:=⟨_,rfl⟩
 obtain⟨A1,hA1⟩:∃P,P=(xs.toList.drop sa).take k:=⟨_,rfl⟩
 obtain⟨X,hX⟩:∃P,P=(xs.toList.drop (sa + k)).take (na - k):=⟨_,rfl⟩
 obtain⟨Y,hY⟩:∃P,P=(xs.toList.drop (sa + na)).take n:=⟨_,rfl⟩
 obtain⟨B2,hB2⟩:∃P,P=(xs.toList.drop (sa + na + n)).take (nb - n):=⟨_,rfl⟩
 obtain⟨S,hS⟩:∃P,P=xs.toList.drop (sa + na + nb):=⟨_,rfl⟩
 have lP:P.length=sa:=by rw[hP,jn];lia
 have lA:A1.length=k:=by rw[hA1,jn,mI];lia
 have lX:X.length=na - k:=by rw[hX,jn,mI];lia
 have lY:Y.length=n:=by rw[hY,jn,mI];lia
 have lB:B2.length=nb - n:=by rw[hB2,jn,mI];lia
 have hl:xs.toList=P++(A1++(X++(Y++(B2++S)))):=by rw[hP,hA1,hX,hY,hB2,hS];have s5:=jU xs.toList (sa + na + n) (nb - n);rw[show sa + na + n + (nb - n)=sa + na + nb by lia]at s5;rw[<- s5,<- jU xs.toList (sa + na) n];have s3:=jU xs.toList (sa + k) (na - k);rw[show sa + k + (na - k)=sa + na by lia]at s3;rw[<- s3,<- jU xs.toList sa k,ng]
 have eX:(xs.extract (sa + k) (sa + na)).toList=X:=by rw[mQ,hX];congr 1;lia
 have eY:(xs.extract (sa + na) (sa + na + n)).toList=Y:=by rw[mQ,hY];congr 1;lia
 have aA:jc rk (A1++X):=by
  have:xs.toList=P++((A1++X)++(Y++(B2++S))):=by rw[hl];simp
  refine(Jd this).mp ?_;rw[lP,dy,lA,lX,show k + (na - k)=na by lia];exact ua
 have aB:jc rk (Y++B2):=by
  have:xs.toList=(P++(A1++X))++((Y++B2)++S):=by rw[hl];simp
  have u:=Jd (rk:=rk) this;rw[dy,dy,lP,lA,lX,dy,lY,lB,show sa + (k + (na - k))=sa + na by lia,show n + (nb - n)=nb by lia]at u;exact u.mp ub
 obtain⟨sA,sX,sAX⟩:=gT.mp aA;obtain⟨sY,sB,sYB⟩:=gT.mp aB;have afz:∀v∈A1,rk v<=rk y:=fun v hv=>by rw[hA1]at hv;obtain⟨j,hj,ej⟩:=jL hv;have:=kl' j hj;rwa [gW ej]at this
 have ahR:∀v∈X,rk v<=rk z:=fun v hv=>by rw[hX]at hv;obtain⟨j,hj,ej⟩:=jL hv;have:=uaz (k + j) (by lia);rwa [<- ph,gW ej]at this
 have YM:∀v∈Y,rk y<=rk v/\rk v < rk z:=fun v hv=>by rw[hY]at hv;obtain⟨j,hj,ej⟩:=jL hv;have q1:=ub0 j (by lia);have q2:=nl' j hj;rw[gW ej]at q1 q2;exact⟨q1,q2⟩
 have acV:∀v∈B2,rk z<=rk v:=fun v hv=>by rw[hB2]at hv;obtain⟨j,hj,ej⟩:=jL hv;have:=nr' (n + j) (by lia) (by lia);rwa [<- ph,gW ej]at this
 have gX:∀q,q < na - k->(xs.extract (sa + k) (sa + na))[q]?=xs[sa + k + q]?:=fun q hq=>by rw[Array.getElem?_extract,if_pos (by lia)]
 have gY:∀q,q < n->(xs.extract (sa + na) (sa + na + n))[q]?=xs[sa + na + q]?:=fun q hq=>by rw[Array.getElem?_extract,if_pos (by lia)]
 have szX:(xs.extract (sa + k) (sa + na)).size=na - k:=by rw[sC];lia
 have szY:(xs.extract (sa + na) (sa + na + n)).size=n:=by rw[sC];lia
 have m:FZ prog w A s κ rk a₀ (xs.extract (sa + k) (sa + na)) (xs.extract (sa + na) (sa + na + n)):=by
  refine⟨h0,by rw[eX];exact sX,by rw[eY];exact sY,fun v hv=>mem v ?_,fun v hv=>mem v ?_,by lia,by lia,?_,fun v hv=>?_⟩
  ·rw[eX]at hv;rw[hl];simp[hv]
  ·rw[eY]at hv;rw[hl];simp[hv]
  ·rw[jj (gX 0 (by lia)),jj (gY 0 (by lia)),l6,l6,gW hy];exact kr' k (bE _) (by lia)
  ·rw[szX,jj (gX (na - k - 1) (by lia)),show sa + k + (na - k - 1)=sa + na - 1 by lia,gW hz'];rw[eY]at hv;exact gu (YM v hv).2
 have dX:∀(mm:Array ax) (st2:bj),cA st1 st2->yP rk (xs.extract (sa + k) (sa + na)) (xs.extract (sa + na) (sa + na + n)) mm->wpS (aw prog w) A E s (do
   modify fun s=>setArr s (mm.toList.zipIdx.foldl (fun a (p,j)=>a.setIfInBounds (sa + k + j) p) (aE s))
   let s <- get
   pure (fq s).isNone) Q st2:=fun mm st2 hS2 ⟨hr,hu⟩=>by
  rw[eX,eY]at hr;have lm:mm.toList.length=(X++Y).length:=hr.length_eq;have put:=Gf (base:=sa + k) mm.toList 0 (P++A1) (X++Y) (B2++S) xs (by rw[hl];simp) (by rw[dy,lP,lA];lia) lm;refine a_ (i7 (a_ (g_ ?_)));have e3:aE st2=xs:=hS2.1.trans a1;have key:∀ys:Array ax,ys.toList=P++(A1++(mm.toList++(B2++S)))->∀st',aE st'=ys->kindOf st'=κ->fq st'=none->cf st'=cf st1->Q true st':=by
   intro ys hys st' e4 e5 e6 e7;refine h st' ?_ e5 e6 (e7.trans p1) ?_ ?_
   ·rw[e4];refine Array.Perm.trans (sm.mpr ?_) hp;rw[hys,hl];refine o6 _ (o6 _ ?_);rw[<- fN X Y];exact xm _ hr
   ·intro q hq;rw[e4,<- j9,<- j9,hys,hl];rw[dy,lX,lY]at lm;rcases hq with hq|hq
    ·rw[fg (by lia),fg (by lia)]
    ·have e8:P++(A1++(mm.toList++(B2++S)))=(P++(A1++(mm.toList++B2)))++S:=by simp
     have e9:P++(A1++(X++(Y++(B2++S))))=(P++(A1++(X++(Y++B2))))++S:=by simp
     have l1:(P++(A1++(mm.toList++B2))).length=sa + na + nb:=by simp only[dy];lia
     have l2:(P++(A1++(X++(Y++B2)))).length=sa + na + nb:=by simp only[dy];lia
     rw[e8,e9,gL (by lia),gL (by lia),l1,l2]
   ·rw[e4];have e8:ys.toList=P++((A1++(mm.toList++B2))++S):=by rw[hys];simp
    have u:=Jd (rk:=rk) e8;have l1:(A1++(mm.toList++B2)).length=na + nb:=by simp only[dy]at lm ⊢;lia
    rw[lP,l1]at u;refine u.mpr (gT.mpr ⟨sA,gT.mpr ⟨hu,sB,fun v hv t ht=>?_⟩,fun v hv t ht=>?_⟩)
    ·rcases du.mp (hr.mem_iff.mp hv) with hv|hv
     ·exact eP (ahR v hv) (acV t ht)
     ·exact eP (gu (YM v hv).2) (acV t ht)
    ·rcases du.mp ht with ht|ht
     ·rcases du.mp (hr.mem_iff.mp ht) with ht|ht
      ·exact sAX v hv t ht
      ·exact eP (afz v hv) (YM t ht).1
     ·have q1:=afz v hv;have q2:=(YM y (by
       have:=dm.mp (show Y[0]?=some y by rw[hY,mB (by lia),pf,l6];simpa using hy);obtain⟨q,rfl⟩:=this;exact fI q)).2
      have q3:=acV t ht;lia
  rw[<- e3]at put;have:=key _ (by rw[put];simp) (setArr st2 (mm.toList.zipIdx.foldl (fun a (p,j)=>a.setIfInBounds (sa + k + j) p) (aE st2))) rfl (hS2.2.1.trans k1) (hS2.2.2.2.trans f1) hS2.2.2.1;have e10:(fq (setArr st2 (mm.toList.zipIdx.foldl (fun a (p,j)=>a.setIfInBounds (sa + k + j) p) (aE st2)))).isNone=true:=by show(fq st2).isNone=true;rw[hS2.2.2.2.trans f1];rfl
  rw[e10];exact bq this
 exact bN (fun _=>a_ (Ga m k1 dX)) fun _=>a_ (Gd m k1 dX)
end
noncomputable def Rn(rk:ax->Int)(xs:Array ax):Nat->List (Nat×Nat×Nat)->Nat->Prop
 |a,[],e=>a=e
 |a,t::l,e=>t.1=a/\1<=t.2.1/\Up rk xs a t.2.1/\Rn rk xs (a + t.2.1) l e
section
variable{rk:ax->Int}{xs ys:Array ax}
theorem Rn.le:∀{l:List (Nat×Nat×Nat)}{a e:Nat},Rn rk xs a l e->a + l.length<=e
 | [],a,e,h=>by simp only[Rn]at h;simp;lia
 |t::l,a,e,h=>by obtain⟨h1,h2,h3,h4⟩:=h;have:=Rn.le h4;simp only[ck];lia
theorem Rn.app:∀{l l':List (Nat×Nat×Nat)}{a e:Nat},Rn rk xs a (l++l') e↔∃m,Rn rk xs a l m/\Rn rk xs m l' e
 | [],l',a,e=>by
  constructor
  ·intro h;exact⟨a,rfl,h⟩
  ·rintro⟨m,rfl,h⟩;exact h
 |t::l,l',a,e=>by
  constructor
  ·rintro⟨h1,h2,h3,h4⟩;obtain⟨m,g1,g2⟩:=Rn.app.mp h4;exact⟨m,⟨h1,h2,h3,g1⟩,g2⟩
  ·rintro⟨m,⟨h1,h2,h3,h4⟩,g⟩;exact⟨h1,h2,h3,Rn.app.mpr ⟨m,h4,g⟩⟩
theorem Up.congr{a n:Nat}(h:Up rk xs a n)(hc:∀q,a<=q->q < a + n->ys[q]?=xs[q]?):Up rk ys a n:=fun i j hij hj=>by rw[jj (hc (a + i) (by lia) (by lia)),jj (hc (a + j) (by lia) (by lia))];exact h i j hij hj
theorem Rn.congr:∀{l:List (Nat×Nat×Nat)}{a e:Nat},Rn rk xs a l e->(∀q,a<=q->q < e->ys[q]?=xs[q]?)->Rn rk ys a l e
 | [],a,e,h,_=>h
 |t::l,a,e,⟨h1,h2,h3,h4⟩,hc=>by have:=h4.le;exact⟨h1,h2,h3.congr fun q q1 q2=>hc q q1 (by lia),h4.congr fun q q1 q2=>hc q (by lia) q2⟩
theorem Rn.pow:∀{l l':List (Nat×Nat×Nat)}{a e:Nat},Rn rk xs a l e->l'.map (fun t=>(t.1,t.2.1))=l.map (fun t=>(t.1,t.2.1))->Rn rk xs a l' e
 | [],l',a,e,h,hm=>by
  obtain rfl:l'=[]:=by simpa using hm
  exact h
 |t::l,[],a,e,h,hm=>by cases hm
 |t::l,t'::l',a,e,⟨h1,h2,h3,h4⟩,hm=>by simp only[bX,List.cons.injEq,vx]at hm;obtain⟨⟨m1,m2⟩,m3⟩:=hm;exact⟨m1.trans h1,by rw[m2];exact h2,by rw[m2];exact h3,by rw[m2];exact h4.pow m3⟩
theorem xg(f:Nat×Nat×Nat->Nat×Nat×Nat)(hf:∀t,((f t).1,(f t).2.1)=(t.1,t.2.1)):∀(l:List (Nat×Nat×Nat)) (i:Nat),(l.modify i f).map (fun t=>(t.1,t.2.1))=l.map (fun t=>(t.1,t.2.1))
 | [],i=>by simp
 |t::l,0=>by simp only[List.modify_zero_cons,bX,hf]
 |t::l,i + 1=>by simp only[List.modify_succ_cons,bX,xg f hf l i]
theorem acW{α:Type}(l:List α)(i:Nat)(h:i + 1 < l.length):l=l.take i++(l[i]::l[i + 1]::l.drop (i + 2)):=by
 conv=>lhs;rw[<- ng i l,iP (by lia),iP (by lia)]
theorem ahS{α:Type}(P:List α)(t u v:α)(S:List α)(i:Nat)(hP:P.length=i):((P++(t::u::S)).set i v).eraseIdx (i + 1)=P++(v::S):=by
 subst hP
 induction P with
 |nil=>rfl
 |cons p P ih =>
  simp only[pj,ck,sN,rX,ih]
end
section
variable{prog:aI}{w:az}{A:aT}{E:aa->af->Prop}{s:af}{a₀:Array ax}{κ:fm}{rk:ax->Int}
structure Sr (κ:fm)(rk:ax->Int)(a₀:Array ax)(lo:Nat)(st:bj):Prop where
 perm:(aE st).Perm a₀
 kind:kindOf st=κ
 failed:fq st=none
 runs:Rn rk (aE st) 0 (cf st).toList lo
theorem qN{st:bj}{i e:Nat}{Q:Bool->bj->Prop}(h0:Ax prog w A s κ rk a₀)(h:Sr κ rk a₀ e st)(he:e<=a₀.size)(hi:i + 1 < (cf st).size)
  (hq:∀st',Sr κ rk a₀ e st'->(cf st').size + 1=(cf st).size->(∀q,e<=q->(aE st')[q]?=(aE st)[q]?)->Q true st'):wpS (aw prog w) A E s (mergeAt' i) Q st:=by
 have hr:=h.runs;have sp:=acW (cf st).toList i (by simpa using hi);generalize hpre:(cf st).toList.take i=pre at sp;generalize (cf st).toList.drop (i + 2)=post at sp;have lp:pre.length=i:=by rw[<- hpre,jn];simp;lia
 rw[sp]at hr;obtain⟨m,r1,h1,h2,h3,h4,h5,h6,h7⟩:=Rn.app.mp hr;simp only[Array.getElem_toList]at h1 h2 h3 h4 h5 h6 h7 sp;have e1:(cf st)[i]?=some (m,(cf st)[i].2.1,(cf st)[i].2.2):=by rw[getElem?_pos _ i (by lia)];exact congrArg some (Prod.ext h1 rfl)
 have e2:(cf st)[i + 1]?=some (m + (cf st)[i].2.1,(cf st)[i + 1].2.1,(cf st)[i + 1].2.2):=by rw[getElem?_pos _ (i + 1) (by lia)];exact congrArg some (Prod.ext h4 rfl)
 have l7:=h7.le;refine Gg h0 h.perm h.kind h.failed e1 e2 h2 h5 (by lia) h3 h6 fun st' p1 p2 p3 p4 p5 p6=>?_;have e3:(cf st').toList=pre++((m,(cf st)[i].2.1 + (cf st)[i + 1].2.1,(cf st)[i].2.2)::post):=by rw[p4,Array.toList_eraseIdxIfInBounds,Array.toList_setIfInBounds,sp];exact ahS _ _ _ _ _ _ lp
 refine hq st' ⟨p1,p2,p3,?_⟩ ?_ fun q hq=>p5 q (.inr (by lia))
 ·rw[e3];have l1:=r1.le;refine Rn.app.mpr ⟨m,r1.congr fun q _ q2=>p5 q (.inl q2),rfl,by show 1<=_ + _;lia,p6,?_⟩;show Rn rk (aE st') (m + (_ + _)) post e;rw[<- ph];exact h7.congr fun q q1 _=>p5 q (.inr q1)
 ·have q1:=congrArg jb e3;have q2:=congrArg jb sp;simp only[ke,dy,ck]at q1 q2;lia
theorem Sr.push{st:bj}{lo n:Nat}(h:Sr κ rk a₀ lo st)(hn:1<=n)(hu:Up rk (aE st) lo n):Sr κ rk a₀ (lo + n) (nL st ((cf st).push (lo,n,0))):=by refine⟨h.perm,h.kind,h.failed,?_⟩;show Rn rk (aE st) 0 ((cf st).push (lo,n,0)).toList (lo + n);rw[q_];exact Rn.app.mpr ⟨lo,h.runs,rfl,hn,hu,rfl⟩
theorem Sr.aaz{st:bj}{lo:Nat}(h:Sr κ rk a₀ lo st)(f:Nat×Nat×Nat->Nat×Nat×Nat)(hf:∀t,((f t).1,(f t).2.1)=(t.1,t.2.1)){i:Nat}:Sr κ rk a₀ lo (nL st ((cf st).modify i f)):=by refine⟨h.perm,h.kind,h.failed,h.runs.pow ?_⟩;show((cf st).modify _ _).toList.map _=_;rw[Array.toList_modify];exact xg f hf _ _
theorem xq:∀(f n r:Nat),1<=n + r->1<=pk f n r
 | 0,n,r,h=>h
 |f + 1,n,r,h=>by
  rw[minRun'_succ];split
  ·exact h
  ·exact xq f (n / 2) (max r (n % 2)) (by lia)
theorem Cr{st:bj}{Q:Unit->bj->Prop}(h0:Ax prog w A s κ rk a₀)(hp:aE st=a₀)(hk:kindOf st=κ)(hf:fq st=none)(hpd:cf st=#[])(h2:2<=a₀.size)
  (hq:∀st',(aE st').Perm a₀->fq st'=none->Up rk (aE st') 0 a₀.size->Q () st'):wpS (aw prog w) A E s sortRuns' Q st:=by
 rw[sortRuns'_eq];refine a_ (g_ ?_);dsimp only;rw[hp];have mr:1<=pk a₀.size a₀.size 0:=xq _ _ _ (by lia);refine a_ (eL (eT (I:=fun x c st'=>∃lo,c=(none,lo)/\x<=lo/\lo<=a₀.size/\Sr κ rk a₀ lo st')
  (Q:=fun c st'=>c=(none,a₀.size)/\Sr κ rk a₀ a₀.size st') ?step ?dX ⟨0,rfl,bE _,by lia,by rw[hp],hk,hf,by rw[hpd];rfl⟩) ?post)
 case dX =>
  rintro c st' ⟨lo,rfl,h1,h2,hS⟩;obtain rfl:lo=a₀.size:=by lia
  exact⟨rfl,hS⟩
 case post =>
  rintro c st' ⟨rfl,hS⟩;dsimp only;refine a_ (eL (eT (I:=fun x c st''=>c=(none,())/\Sr κ rk a₀ a₀.size st''/\((cf st'').size<=1∨(cf st'').size + x<=a₀.size))
   (Q:=fun c st''=>c=(none,())/\Sr κ rk a₀ a₀.size st''/\(cf st'').size<=1) ?s2 ?f2 ⟨rfl,hS,.inr (by have:=hS.runs.le;simpa using this)⟩) ?p2)
  case f2 =>
   rintro c st'' ⟨rfl,hS,hl⟩;exact⟨rfl,hS,by lia⟩
  case s2 =>
   rintro x c st'' _ hx ⟨rfl,hS,hl⟩;refine a_ (g_ ?_);refine bN (fun e=>bq ⟨rfl,hS,e⟩) fun e=>?_;have ite_le:∀(c:Prop) [Decidable c],(if c then (cf st'').size - 2 - 1 else (cf st'').size - 2) + 1 < (cf st'').size:=fun c _=>by split <;> lia
   refine a_ (qN h0 hS (bE _) ?_ fun st2 hS2 hz _=>?_)
   ·exact ite_le _
   ·simp only[eK,bP,if_false];exact bq ⟨rfl,hS2,by lia⟩
  case p2 =>
   rintro c st'' ⟨rfl,hS,hl⟩;dsimp only;refine bq (hq st'' hS.perm hS.failed ?_);have hr:=hS.runs;cases e:(cf st'').toList with
   |nil=>rw[e]at hr;simp only[Rn]at hr;lia
   |cons t l =>
    have:l=[]:=by have:=congrArg jb e;simp only[ke,ck]at this;exact r8.mp (by lia)
    subst this;rw[e]at hr;obtain⟨_,_,r3,r4⟩:=hr;simp only[Rn]at r4;rw[show t.2.1=a₀.size by lia]at r3;exact r3
 case step =>
  rintro x c st' _ hx ⟨lo,rfl,h1,h3,hS⟩;dsimp only;refine bN (fun e=>?_) fun e=>?_
  ·obtain rfl:lo=a₀.size:=by lia
   exact bq ⟨rfl,hS⟩
  ·have hB:SB κ a₀ (aE st') (cf st') lo st':=⟨hS.perm,hS.kind,hS.failed,rfl,fun _ _=>rfl⟩
   have back:∀st2,SB κ a₀ (aE st') (cf st') lo st2->Sr κ rk a₀ lo st2:=fun st2 hB2=>⟨hB2.perm,hB2.kind,hB2.failed,by
    rw[hB2.pend];exact hS.runs.congr fun q _ q2=>hB2.keep q q2⟩
   refine a_ (Ov h0 (show lo + (a₀.size - lo)<=a₀.size by lia) (by lia) hB fun m st2 hB2 m1 m2 um=>?_);dsimp only;refine bN (fun c=>?_) fun c=>?_
   ·refine a_ (mo (iq ⟨rfl,?_⟩));refine a_ (YG h0 (show lo + min (a₀.size - lo) (pk a₀.size a₀.size 0)<=a₀.size by lia) (by lia) hB2 um fun st3 hB3 u3=>?_);simp only[eK,bP,if_false];have hS0:=back st3 hB3;have Gh:∀zG,Sr κ rk a₀ lo zG->(∀q,lo<=q->(aE zG)[q]?=(aE st3)[q]?)->Sr κ rk a₀ (lo + min (a₀.size - lo) (pk a₀.size a₀.size 0)) (nL zG ((cf zG).push (lo,min (a₀.size - lo) (pk a₀.size a₀.size 0),0))):=fun zG h4 hk4=>h4.push (by lia) (u3.congr fun q q1 _=>hk4 q q1);refine a_ (g_ ?_);cases cc:(cf st3).back? with
    |none =>
     dsimp only;exact a_ (i7 (bq ⟨_,rfl,by lia,by lia,Gh _ hS0 fun _ _=>rfl⟩))
    |some t =>
     obtain⟨s1,n1,p1⟩:=t;dsimp only;refine a_ (eL (eT (I:=fun _ c st'=>c=(none,())/\Sr κ rk a₀ lo st'/\∀q,lo<=q->(aE st')[q]?=(aE st3)[q]?)
      (Q:=fun c st'=>c=(none,())/\Sr κ rk a₀ lo st'/\∀q,lo<=q->(aE st')[q]?=(aE st3)[q]?) ?Uc (fun _ _ hh=>hh) ⟨rfl,hS0,fun _ _=>rfl⟩) ?Ud)
     case Ud =>
      rintro c st' ⟨rfl,hS,hk⟩;dsimp only;refine a_ (i7 (a_ (i7 (bq ⟨_,rfl,by lia,by lia,Gh _ (hS.aaz _ ?_) hk⟩))));exact fun t=>rfl
     case Uc =>
      rintro x c st' _ hx ⟨rfl,hS,hk⟩;refine a_ (g_ ?_);by_cases c:(cf st').size > 1
      ·rw[if_pos c,getElem?_pos (cf st') ((cf st').size - 2) (by lia)];dsimp only;refine bN (fun _=>bq ⟨rfl,hS,hk⟩) fun _=>?_;refine a_ (qN h0 hS (by lia) (by lia) fun st2 hS2 _ hk2=>?_);simp only[eK,bP,if_false];exact bq ⟨rfl,hS2,fun q hq=>(hk2 q hq).trans (hk q hq)⟩
      ·rw[if_neg c];exact bq ⟨rfl,hS,hk⟩
   ·have hS0:=back st2 hB2;have Gh:∀zG,Sr κ rk a₀ lo zG->(∀q,lo<=q->(aE zG)[q]?=(aE st2)[q]?)->Sr κ rk a₀ (lo + m) (nL zG ((cf zG).push (lo,m,0))):=fun zG h4 hk4=>h4.push (by lia) (um.congr fun q q1 _=>hk4 q q1);refine a_ (g_ ?_);cases cc:(cf st2).back? with
    |none =>
     dsimp only;exact a_ (i7 (bq ⟨_,rfl,by lia,by lia,Gh _ hS0 fun _ _=>rfl⟩))
    |some t =>
     obtain⟨s1,n1,p1⟩:=t;dsimp only;refine a_ (eL (eT (I:=fun _ c st'=>c=(none,())/\Sr κ rk a₀ lo st'/\∀q,lo<=q->(aE st')[q]?=(aE st2)[q]?)
      (Q:=fun c st'=>c=(none,())/\Sr κ rk a₀ lo st'/\∀q,lo<=q->(aE st')[q]?=(aE st2)[q]?) ?Uc (fun _ _ hh=>hh) ⟨rfl,hS0,fun _ _=>rfl⟩) ?Ud)
     case Ud =>
      rintro c st' ⟨rfl,hS,hk⟩;dsimp only;refine a_ (i7 (a_ (i7 (bq ⟨_,rfl,by lia,by lia,Gh _ (hS.aaz _ ?_) hk⟩))));exact fun t=>rfl
     case Uc =>
      rintro x c st' _ hx ⟨rfl,hS,hk⟩;refine a_ (g_ ?_);by_cases c:(cf st').size > 1
      ·rw[if_pos c,getElem?_pos (cf st') ((cf st').size - 2) (by lia)];dsimp only;refine bN (fun _=>bq ⟨rfl,hS,hk⟩) fun _=>?_;refine a_ (qN h0 hS (by lia) (by lia) fun st2 hS2 _ hk2=>?_);simp only[eK,bP,if_false];exact bq ⟨rfl,hS2,fun q hq=>(hk2 q hq).trans (hk q hq)⟩
      ·rw[if_neg c];exact bq ⟨rfl,hS,hk⟩
end
end Sb
namespace Sb
open PySem PySem.W PyProof.Rows So
noncomputable def rkI(lt:Nat->Nat->Bool)(n i:Nat):Int:=((b_ n).filter fun j=>lt j i).length
theorem mU{α:Type}{p q:α->Bool}:∀{l:List α},(∀x∈l,p x=true->q x=true)->(l.filter p).length<=(l.filter q).length
 | [],_=>bE _
 |x::l,h=>by
  have ih:=mU (l:=l) fun y hy=>h y (.tail _ hy);have hx:=h x (.head _);rw[eW,eW];cases c:p x with
  |false =>
   simp only[bP,if_false];split
   ·simp only[ck];lia
   ·exact ih
  |true =>
   rw[hx c];simp only[if_true,ck];lia
theorem Ue{α:Type}{p q:α->Bool}:∀{l:List α}{z:α},(∀x∈l,p x=true->q x=true)->z∈l->p z=false->q z=true->(l.filter p).length < (l.filter q).length
 | [],_,_,hz,_,_=>by cases hz
 |x::l,z,h,hz,pz,qz=>by
  have ih0:=mU (l:=l) fun y hy=>h y (.tail _ hy);have hx:=h x (.head _);rw[eW,eW];rcases br.mp hz with rfl|hz
  ·rw[pz,qz];simp only[bP,if_false,if_true,ck];lia
  ·have ih:=Ue (l:=l) (fun y hy=>h y (.tail _ hy)) hz pz qz;cases c:p x with
   |false =>
    simp only[bP,if_false];split
    ·simp only[ck];lia
    ·exact ih
   |true =>
    rw[hx c];simp only[if_true,ck];lia
theorem aaB{lt:Nat->Nat->Bool}(O:Ord lt){n i j:Nat}(hi:i < n):decide (rkI lt n i < rkI lt n j)=lt i j:=by
 unfold rkI;cases c:lt i j with
 |true =>
  refine decide_eq_true (Int.ofNat_lt.mpr (Ue (z:=i) (fun k _ hk=>?_) (fw.mpr hi) (irr O i) c));cases d:lt k j with
  |true=>rfl
  |false =>
   have h1:lt i k=false:=O.as k i hk;have h2:=O.tr j k i d h1;rw[c]at h2;cases h2
 |false =>
  refine decide_eq_false fun q=>?_;have q:=Int.ofNat_lt.mp q;have:=mU (p:=fun k=>lt k j) (q:=fun k=>lt k i) (l:=b_ n) fun k _ hk=>by
   cases d:lt k i with
   |true=>rfl
   |false =>
    have h2:=O.tr j i k c d;rw[hk]at h2;cases h2
  lia
theorem Ug{α:Type}{d:α}{l1 l2:List α}(h:l1.Perm l2):∃q:List Nat,q.Perm (b_ l2.length)/\l1=q.map fun i=>l2.getD i d:=by
 induction h with
 |nil=>exact⟨[],.refl _,rfl⟩
 |cons x h ih =>
  obtain⟨q,hq,e⟩:=ih;refine⟨0::q.map (· + 1),?_,?_⟩
  ·rw[ck,mS];exact(hq.map _).cons 0
  ·rw[bX,gr,e];simp[qs]
 |swap x y l =>
  refine⟨1::0::(b_ l.length).map (· + 2),?_,?_⟩
  ·rw[ck,ck,mS,mS,bX,gr];exact ip.swap 0 1 _
  ·rw[bX,bX,gr];have:l=(b_ l.length).map fun i=>l.getD i d:=by
    apply mh
    ·simp
    ·intro i h1 h2;simp[h1]
   simp only[qs];rw[List.getD_cons_succ,List.getD_cons_zero,List.getD_cons_zero];congr 2
 |trans h1 h2 ih1 ih2 =>
  obtain⟨q1,p1,e1⟩:=ih1;obtain⟨q2,p2,e2⟩:=ih2;have l2:=h2.length_eq;have lq:=p2.length_eq;rw[fv]at lq;refine⟨q1.map fun i=>q2.getD i 0,?_,?_⟩
  ·refine(p1.map _).trans (ip.trans (o9 ?_) p2);apply mh
   ·simp;lia
   ·intro i h1 h2;simp only[cw,fv]at h1;simp only[List.getElem_map,List.getElem_range,gm];rw[cS h2];rfl
  ·rw[e1,gr];refine nv fun i hi=>?_;have hi':i < q2.length:=by have:=fw.mp (p1.mem_iff.mp hi);lia
   show oS _ i d=oS _ (oS q2 i 0) d;rw[e2];simp only[gm,cK,cS hi',oI,oP]
section
variable{prog:aI}{w:az}{A:aT}{E:aa->af->Prop}{s:af}
theorem Uh{lt:Nat->Nat->Bool}{κ:fm}{vs:List aa}{Q:bj->af->Prop}(O:Ord lt)(h2:2<=vs.length)(ha:afv prog w A κ vs lt s)
  (hd:∀i i',i < vs.length->i' < vs.length->vs.getD i aa.none=vs.getD i' aa.none->∀j,lt j i=lt j i')
  (h:∀st,IW lt vs st->Q st s):ar (aw prog w) A ((sortRuns').run (sL κ (vs.toArray.zip vs.toArray) #[] 7 none)) (fun r s'=>Q r.2 s') E s:=by
 classical
 let it:Nat->ax:=fun i=>(vs.getD i aa.none,vs.getD i aa.none)
 let rk:ax->Int:=fun x=>if h:∃i,i < vs.length/\it i=x then rkI lt vs.length (xo h) else 0
 have rki:∀i,i < vs.length->rk (it i)=rkI lt vs.length i:=fun i hi=>by
  have ex:∃j,j < vs.length/\it j=it i:=⟨i,hi,rfl⟩
  show(if h:∃j,j < vs.length/\it j=it i then rkI lt vs.length (xo h) else 0)=_;rw[dif_pos ex];obtain⟨c1,c2⟩:=Classical.choose_spec ex;unfold rkI;have:=hd _ i c1 hi (congrArg Prod.fst c2);rw[show(fun j=>lt j (xo ex))=fun j=>lt j i from funext this]
 have hz:(vs.toArray.zip vs.toArray).toList=(b_ vs.length).map it:=by
  apply mh
  ·simp
  ·intro i h1 h2;simp at h1;simp[it,h1]
 have hsz:(vs.toArray.zip vs.toArray).size=vs.length:=by simp
 have hA:Ax prog w A s κ rk (vs.toArray.zip vs.toArray):=by intro x y C E' hx hy hC;rw[hz]at hx hy;obtain⟨i,hi,rfl⟩:=dt.mp hx;obtain⟨j,hj,rfl⟩:=dt.mp hy;have hi:=fw.mp hi;have hj:=fw.mp hj;rw[rki i hi,rki j hj,aaB O hi]at hC;exact ha i j C E' hi hj hC
 have main:=Cr (prog:=prog) (w:=w) (A:=A) (E:=E) (s:=s) (st:=sL κ (vs.toArray.zip vs.toArray) #[] 7 none) (Q:=fun _ st=>IW lt vs st) hA rfl rfl rfl rfl (by rw[hsz];exact h2) fun st p1 p2 p3=>?_
 ·exact eM main (fun r s' ⟨e,hs⟩=>by subst e;exact h _ hs) fun _ _ e=>e
 ·obtain⟨q,hq,e⟩:=Ug (d:=it 0) (sm.mp p1);have ln:(vs.toArray.zip vs.toArray).toList.length=vs.length:=by simp
  rw[ln]at hq;have lq:=hq.length_eq;rw[fv]at lq;have qlt:∀i∈q,i < vs.length:=fun i hi=>fw.mp (hq.mem_iff.mp hi);have e':(aE st).toList=q.map it:=by rw[e];refine nv fun i hi=>?_;rw[hz,gm,cK,List.getElem?_range (qlt i hi)];rfl
  refine⟨q.toArray,⟨by simp[lq],fun i=>?_,by simpa using hq⟩,fun i j hij hj=>?_,?_,p2⟩
  ·rw[kC];by_cases c:i < q.length
   ·have:q.toArray[i]?=some q[i]:=by simp[c]
    rw[this];exact qlt _ (fI c)
   ·have:q.toArray[i]?=none:=by simp;lia
    rw[this];show 0 < vs.length;lia
  ·have hi':i < q.length:=by lia
   have hj':j < q.length:=by lia
   have g:∀k (hk:k < q.length),R rk (aE st) k=rkI lt vs.length q[k]:=fun k hk=>by rw[<- rki _ (qlt _ (fI hk))];refine gW ?_;rw[<- j9,e',cK,cS hk];rfl
   have u:=p3 i j (by lia) (by rw[hsz];exact hj);rw[hZ,hZ,g i hi',g j hj']at u;have e1:q.toArray.getD i 0=q[i]:=by simp[kC,hi']
   have e2:q.toArray.getD j 0=q[j]:=by simp[kC,hj']
   rw[e1,e2,<- aaB O (qlt _ (fI hj'))];exact decide_eq_false (by lia)
  ·apply q9.mp;rw[Array.toList_map,e',gr];rfl
end
end Sb
namespace So
open PySem PySem.W PyProof.Rows PySem.Calls
section
variable{prog:aI}{w:az}{A:aT}{E:aa->af->Prop}{s:af}
theorem zV:∀{ks js:List Int}{xs:List aa},ItemsAre (cv prog w) ks xs->ItemsAre (cv prog w) js xs->ks=js
 |_,_,_,.nil,.nil=>rfl
 |_,_,_,.cons h1 h2,.cons h3 h4=>by obtain⟨t,e1⟩:=mw h1;obtain⟨u,e2⟩:=mw h3;rw[e1]at e2;cases e2;rw[zV h2 h4]
theorem KeysAre.det{h:ay}{vs:List aa}{aP:LL}(k:KeysAre prog w h vs aP):∀i i',i < vs.length->i' < vs.length->vs.getD i aa.none=vs.getD i' aa.none->∀j,tH (aP.getD j []) (aP.getD i [])=tH (aP.getD j []) (aP.getD i' []):=by intro i i' hi hi' he j;obtain⟨b,e1,o,its,n,q1,q2,q3,q4⟩:=k.2 i vs[i] (cS hi);obtain⟨b',e2,o',its',n',r1,r2,r3,r4⟩:=k.2 i' vs[i'] (cS hi');rw[gm,gm,cS hi,cS hi',oP,oP,e1,e2]at he;cases he;rw[q1]at r1;cases r1;rw[q3]at r3;cases r3;rw[zV q4 r4]
theorem xr{a:ae}{vs:List aa}{aP:LL}{n:Nat}{P:nK->af->Prop}(ho:s.heap.get? a=some (dS "list" vs.toArray n))
  (hk:KeysAre prog w s.heap vs aP) (hne:∀ks∈aP,ks≠[]) (h64:vs.length < 4900)
  (h:∀(p:Array Nat),Fz aP p->P (.done (.ret .none)) { s with heap:=sortedHeap s.heap a vs (kK (p.toList.map fun i=>vs.getD i aa.none)) }) :
  ar (aw prog w) A (Builtin.«list.sort» ⟨[.ref a],[]⟩) P E s:=by
 rw[list_sort_plain];have ha:a < s.heap.objs.size:=bu ho;refine ag (xp ho rfl ?_);refine ag (sP ho rfl ?_ (by rw[cy,ef];lia) (d_ _));obtain⟨e1,ho1⟩:∃e1,(s.heap.update a (eA fun _=>#[])).get? a=some (dS "list" #[] e1):=⟨_,sQ ho (fun _=>#[])⟩
 refine ag (xt ho1 rfl ?_);refine ag (wpAny_newTuple ?_ (by show vs.length<=_;rw[ef];lia));refine ag (xv ?_ (d_ _));refine f_ ?_;have ho6:(((s.heap.update a (eA fun _=>#[])).push (dS "tuple" vs.toArray 0)).push (dS "list" #[] 0)).get? a=some (dS "list" #[] e1):=by rw[ay.get?_push_ne _ _ _ (by rw[size_push',pM];exact cn (ky ha)),ay.get?_push_ne _ _ _ (by rw[pM];exact cn ha)];exact ho1
 show ar (aw prog w) A _ P E { s with heap:=((s.heap.update a (eA fun _=>#[])).push (dS "tuple" vs.toArray 0)).push (dS "list" #[] 0) };dsimp only;have hsz:vs.toArray.size=vs.length:=by simp
 have hk6:KeysAre prog w (((s.heap.update a (eA fun _=>#[])).push (dS "tuple" vs.toArray 0)).push (dS "list" #[] 0)) vs aP:=hk.moved fun b o e c=>by
  refine cm _ (cm _ ?_);have:b≠a:=fun z=>by subst z;rw[ho]at e;cases e;exact absurd (aa.type.inj (show aa.type "list"=aa.type "tuple" from c)) (by decide)
  rw[kM _ _ _ _ this];exact e
 by_cases h2:vs.toArray.size < 2
 ·rw[if_pos h2,if_pos h2];refine ag (aS ?_);rw[StateT.run_pure];refine ag (aS ?_);dsimp only;refine ag (xt ho6 rfl ?_);refine ag (sP ho6 rfl ?_ (hsz2:=by rw[Array.size_map];show(pairsOf vs).size<=_;rw[pairsOf_size,ef];lia));simp only[bne_self_eq_false,bP,if_false];have hz:aP.length < 2:=by rw[hk.1,<- hsz];exact h2
  have hq:=h (kK (b_ aP.length)) (FJ hz);have e:(aE (sL general' (vs.toArray.zip vs.toArray) #[] 7 none)).map (·.2)=kK ((kK (b_ aP.length)).toList.map fun i=>vs.getD i aa.none):=by rw[hk.1];show(vs.toArray.zip vs.toArray).map (·.2)=_;apply q9.mp;apply xk;intro i;simp;by_cases hi:i < vs.length <;> simp[hi]
  exact aS (by rw[e];exact hq)
 ·rw[if_neg h2,if_neg h2];obtain⟨fs,ht,hl,hfi⟩:=hk6.tups hne;have h2':2<=vs.length:=by rw[<- hsz];lia
  refine ag (kat_kind (T:=.type "int") ht (by lia) (fun v hv=>?_) rfl ?_)
  ·obtain⟨i,t,rfl⟩:=hfi v hv;exact Looks.now
  ·refine ag (eM (Sb.Uh (E:=E) (Q:=fun st' s'=>s'={ s with heap:=((s.heap.update a (eA fun _=>#[])).push (dS "tuple" vs.toArray 0)).push (dS "list" #[] 0) }/\IW (fun i j=>tH (aP.getD i []) (aP.getD j [])) vs st') (acS aP) h2' hk6.asks hk6.det fun st' hs=>⟨rfl,hs⟩) ?_ fun _ _ e=>e);rintro⟨⟨⟩,st'⟩ s' ⟨rfl,p,a1,a2,a3,hf⟩;dsimp only at a3 hf ⊢;refine ag (xt ho6 rfl ?_);rw[a3];refine ag (sP ho6 rfl ?_ (hsz2:=by simp only[cy,cw,ke,a1.sz];rw[ef];lia));rw[hf];simp only[bne_self_eq_false,bP,if_false];rw[<- hk.1]at a1 a2;exact aS (h p (Tw a1 a2))
end
end So
namespace So
open PySem PySem.Spec PySem.W PyProof.Rows PySem.Calls PySem.SetTable Tb
section
variable{prog:aI}{w:az}{A:aT}{E:aa->af->Prop}{s:af}{U:ae->List Int->Prop}
noncomputable def Ni(prog:aI)(w:az)(U:ae->List Int->Prop)(o:Obj)(aP:LL):Prop :=
 ∃(L:List iz) (ep:Nat) (t:cb) (f:Int×aa->List Int),o=dg L ep t/\Good t L/\L.length * 5 < t.mask * 3/\t.mask < 8192/\(t.plain=true/\t.led=!vm w)/\(∀e∈L,∃b,e.2.2=.ref b/\e.2.1=hK prog w (f e.2)/\U b (f e.2))/\(L.map fun e=>f e.2).Perm aP/\aP.Nodup
theorem cX.obj{h:ay}{a:ae}{aP:LL}(x:cX prog w U h a aP):∃o,h.get? a=some o/\Ni prog w U o aP:=by obtain⟨L,ep,t,f,ho,g,room,mb,pl,hf,hp,nd,uu⟩:=x;refine⟨_,ho,L,ep,t,f,rfl,g,room,mb,pl,fun e he=>?_,hp,nd⟩;obtain⟨b,h1,h2,h3⟩:=hf e he;exact⟨b,h1,h3,uu e he b h1⟩
theorem Ni.at{h:ay}{a:ae}{o:Obj}{aP:LL}(x:Ni prog w U o aP)(ho:h.get? a=some o)(hU:∀b ks,U b ks->c_ (cv prog w) h ks b):cX prog w U h a aP:=by
 obtain⟨L,ep,t,f,rfl,g,room,mb,pl,hf,hp,nd⟩:=x;refine⟨L,ep,t,f,ho,g,room,mb,pl,fun e he=>?_,hp,nd,fun e he b hb=>?_⟩
 ·obtain⟨b,h1,h2,h3⟩:=hf e he;exact⟨b,h1,hU _ _ h3,h2⟩
 ·obtain⟨b',h1,h2,h3⟩:=hf e he;rw[hb]at h1;cases h1;exact h3
noncomputable def Ly(U:ae->List Int->Prop)(out:List aa)(aP:LL):Prop:=out.length=aP.length/\∀(i:Nat) v,out[i]?=some v->∃b,v=.ref b/\U b (aP.getD i [])
theorem yQ{l l':LL}(p:l.Perm l'):bH l=bH l':=wO ((cV l).trans p) (rT l)
theorem mV{vs:List aa}{aP yR:LL}{p:Array Nat}(ho:Ly U vs yR)(hp:Fz yR p)(pm:yR.Perm aP):Ly U (p.toList.map fun i=>vs.getD i aa.none) (bH aP):=by
 rw[<- yQ pm,<- hp.2];refine⟨by simp,fun i v hv=>?_⟩;rw[cK]at hv;cases e:p.toList[i]? with
 |none=>rw[e]at hv;cases hv
 |some j =>
  rw[e]at hv;simp at hv;have hj:j < yR.length:=by have:j∈b_ yR.length:=hp.1.mem_iff.mp (jI e);simpa using this
  have hj':j < vs.length:=by rw[ho.1];exact hj
  obtain⟨b,q1,q2⟩:=ho.2 j vs[j] (cS hj');refine⟨b,?_,?_⟩
  ·rw[<- hv];simp[hj',q1]
  ·have:((p.toList.map fun i=>yR.getD i []).getD i [])=yR.getD j []:=by rw[gm,cK,e];rfl
   rw[this];exact q2
theorem pW{x:aa}{vs:List aa}{aP:LL}{Q:aa->af->Prop}
  (ahW:∀(Q':List aa->af->Prop) (E':aa->af->Prop),(∀h' tk,(∀b o,s.heap.get? b=some o->h'.get? b=some o)->s.heap.objs.size<=h'.objs.size->Q' vs { s with heap:=h',toks:=tk })->ar (aw prog w) A.in1 (collect x) Q' E' s)
  (hk:KeysAre prog w s.heap vs aP) (hne:∀ks∈aP,ks≠[]) (h64:vs.length < 4900)
  (h:∀h' tk l n p,(∀b o,s.heap.get? b=some o->h'.get? b=some o)->s.heap.objs.size<=l->Fz aP p->h'.get? l=some (dS "list" (kK (p.toList.map fun i=>vs.getD i aa.none)) n)->Q (.ref l) { s with heap:=h',toks:=tk }) :
  ar (aw prog w) A (call (.builtin "sorted") [x]) Q E s:=by
 refine Calls.call_function_entry kind_sorted plain_sorted entry_sorted (args_sorted1 _) ?_;unfold Builtin.«sorted»;refine ag (m:=checkCount "sorted" 1 1 _) (aS ?_);refine ag (ahW _ _ fun h1 tk k1 z1=>?_);refine ag (xv ?_ (by rw[ef];lia));have hoL:(h1.push (dS "list" vs.toArray 0)).get? h1.objs.size=some (dS "list" vs.toArray 0):=cE _ rfl;have k2:∀b o,s.heap.get? b=some o->(h1.push (dS "list" vs.toArray 0)).get? b=some o:=fun b o e=>cm _ (k1 b o e);show ar _ _ _ _ _ { s with heap:=h1.push (dS "list" vs.toArray 0),toks:=tk };refine ag (f_ (g9 slot_list_sort ⟨_,hoL,rfl⟩ entry_list_sort (xr hoL (hk.moved fun b o e _=>k2 b o e) hne h64 fun p hp=>⟨_,rfl,?_⟩) (args_list_sort _)));refine aS ⟨_,rfl,?_⟩;unfold sortedHeap;have ne1:∀b o,s.heap.get? b=some o->b≠h1.objs.size:=fun b o e=>cn (dA (bu e) z1);have g0:=cm (dS "list" #[] 0) (cm (dS "tuple" vs.toArray 0) (sQ hoL (fun _=>#[])));refine h _ _ _ _ p (fun b o e=>?_) z1 hp (sQ g0 (fun _=>kK (p.toList.map fun i=>vs.getD i aa.none)));rw[kM _ _ _ _ (ne1 b o e)];refine cm _ (cm _ ?_);rw[kM _ _ _ _ (ne1 b o e)];exact k2 b o e
theorem Je{D:ae}{aP:LL}{Q:aa->af->Prop}(hh:A.handled=none)(hS:cX prog w U s.heap D aP)(hne:∀ks∈aP,ks≠[])(h64:aP.length < 4900)
  (h:∀h' tk l n (out:List aa),(∀b o,s.heap.get? b=some o->h'.get? b=some o)->s.heap.objs.size<=l->Ly U out (bH aP)->h'.get? l=some (dS "list" out.toArray n)->Q (.ref l) { s with heap:=h',toks:=tk }) :
  ar (aw prog w) A (call (.builtin "sorted") [.ref D]) Q E s:=by
 obtain⟨L,ep,t,f,ho,g,room,mb,pl,hf,hp,nd,uu⟩:=hS;have hlen:L.length=aP.length:=by have:=hp.length_eq;simpa using this
 have h7:=g.m7;have gs:Goes w L t:=⟨g.lies (by lia),by lia,pl.1,pl.2⟩
 have op:=zO w D ep L;have osz:(lE w D ep L).toList.length=L.length:=by rw[ke,pU]
 have kp:((lE w D ep L).toList.map f).Perm aP:=((op.map f).trans (o9 (by rw[gr];rfl))).trans hp;have each:∀x∈(lE w D ep L).toList,∃b,x.2=.ref b/\c_ (cv prog w) s.heap (f x) b/\U b (f x):=fun x hx=>by obtain⟨e,he,rfl⟩:=dt.mp (op.mem_iff.mp hx);obtain⟨b,h1,h2,h3⟩:=hf e he;exact⟨b,h1,h2,uu e he b h1⟩
 have at_:∀(i:Nat) v,((lE w D ep L).toList.map (·.2))[i]?=some v->∃x,x∈(lE w D ep L).toList/\v=x.2/\((lE w D ep L).toList.map f).getD i []=f x:=fun i v hv=>by
  rw[cK]at hv;cases e:(lE w D ep L).toList[i]? with
  |none=>rw[e]at hv;cases hv
  |some x =>
   rw[e]at hv;refine⟨x,jI e,(dE hv).symm,?_⟩;rw[gm,cK,e];rfl
 refine pW (vs:=(lE w D ep L).toList.map (·.2)) (aP:=(lE w D ep L).toList.map f) (fun Q' E' hq=>?_) ⟨by simp,fun i v hv=>?_⟩ (fun ks hks=>?_) (by rw[cw,osz];lia) fun h' tk l n p k hl hsp hg=>?_
 ·exact Fy (by simpa using hh) ho gs (by lia) hq
 ·obtain⟨x,hx,rfl,e⟩:=at_ i v hv;obtain⟨b,h1,h2,h3⟩:=each x hx;exact⟨b,h1,by rw[e];exact h2⟩
 ·exact hne ks (kp.mem_iff.mp hks)
 ·refine h h' tk l n _ k hl (mV ⟨by simp,fun i v hv=>?_⟩ hsp kp) hg;obtain⟨x,hx,rfl,e⟩:=at_ i v hv;obtain⟨b,h1,h2,h3⟩:=each x hx;exact⟨b,h1,by rw[e];exact h3⟩
end
end So
namespace Vl
open PySem PySem.Spec L2 So Tb
noncomputable def YQ(P:aI)(w:az)(U:ae->List Int->Prop)(a:ae)(aP:LL):ay->Prop:=fun h=>∃o,h.get? a=some o/\Ni P w U o aP
section
variable{X:Cx}{B:Bs}{W:Wi}
theorem xu{pins:List (ae×Obj)}{σ:St}{H:Hp}{s:af}{b:ae}{ks:List Int}(I:Inv X pins σ H s)(h:iV X.K H b (ks.map V.int)):c_ (cv X.prog X.w) s.heap ks b:=by
 obtain⟨its,r,⟨o,ho,hc,n,hd⟩,hz⟩:=I.tuple h;refine⟨o,its.toArray,n,ho,hc,hd,?_⟩;show ItemsAre _ ks its;clear hd h hz
 induction ks generalizing its with
 |nil=>cases r;exact .nil
 |cons k ks ih =>
  cases r with
  |cons r1 r2 =>
   obtain⟨t,rfl⟩:=r1;exact .cons (intKind_is X.prog X.w k t) (ih _ r2)
noncomputable def aaC(P:aI)(w:az)(K:ai):List V->Hp->VK->Prop:=fun xs H Q=>∃(p:ae) (ys:List V) (aP:LL) (U:ae->List Int->Prop),xs=[.ref p]/\(jz K H p ys∨iV K H p ys)/\aP.length=ys.length/\(bI aP).length < 4900 /\
 (∀(i:Nat) v,ys[i]?=some v->∃b,v=.ref b/\iV K H b ((aP.getD i []).map V.int)/\U b (aP.getD i []))/\∀l,H l=none->Q (.ref l) (upd H l (.ext (YQ P w U l (bI aP))))
theorem Vals.get'{xs:List V}{us:List aa}(r:Vals xs us){i:Nat}{u:aa}(h:us[i]?=some u):∃x,xs[i]?=some x/\RelV x u:=by
 cases e:xs[i]? with
 |none=>have:=r.none_of e;rw[this]at h;cases h
 |some x=>obtain⟨u',h1,h2⟩:=r.get e;rw[h]at h1;cases h1;exact⟨x,rfl,h2⟩
theorem Ow(hc:X.calm=true)(hu:X.A.units + 8 < bS):eF X (.type "set") (aaC X.prog X.w X.K):=by
 intro pins s σ H xs us Q I r h;obtain⟨p,ys,aP,U,rfl,hs,hlen,hz,hk,q⟩:=h;obtain⟨u,rfl,rx⟩:=r.one;cases rx;obtain⟨its,rv,hseq⟩:∃its:List aa,Vals ys its/\(s.heap.IsList p its.toArray∨s.heap.IsTuple p its.toArray):=by
  rcases hs with hs|hs
  ·obtain⟨its,rv,pl,_⟩:=I.list hs;exact⟨its,rv,.inl pl.isList⟩
  ·obtain⟨its,rv,pl,_⟩:=I.tuple hs;exact⟨its,rv,.inr pl⟩
 have hl:=rv.length;refine Ce (U:=U) (aP:=aP) (I.ok.hd hc) hu hseq hz (fun i v hv=>?_) (by rw[cy];lia) fun h' tk k hS=>?_
 ·obtain⟨x,h1,h2⟩:=Vals.get' rv (i:=i) (u:=v) (by simpa using hv);obtain⟨b,rfl,h3,h4⟩:=hk i x h1;exact⟨b,h2,xu I h3,h4⟩
 ·refine⟨.ref s.heap.objs.size,_,I.laid (t':=tk) k (bE _) (show dD X.prog X.w _ h' _ (.ext (YQ X.prog X.w U s.heap.objs.size (bI aP))) from⟨So.cX.obj hS,?_,?_⟩),rfl,q _ I.fresh⟩
  ·obtain⟨o,ho,_⟩:=So.cX.obj hS;exact⟨o,ho⟩
  ·rintro h1 h2 ⟨o,ho,x⟩ hk';exact⟨o,hk' o ho,x⟩
noncomputable def YT(P:aI)(w:az)(K:ai):List V->Hp->VK->Prop:=fun xs H Q=>∃(p:ae) (aP:LL) (U:ae->List Int->Prop),xs=[.ref p]/\H p=some (.ext (YQ P w U p aP))/\(∀b ks,U b ks->iV K H b (ks.map V.int))/\(∀ks∈aP,ks≠[])/\aP.length < 4900 /\
 ∀l ys,H l=none->ys.length=(bH aP).length->(∀(i:Nat) v,ys[i]?=some v->∃b,v=.ref b/\U b ((bH aP).getD i []))->Q (.ref l) (upd H l (.lst ys))
theorem Cu(hc:X.calm=true):eF X (.builtin "sorted") (YT X.prog X.w X.K):=by
 intro pins s σ H xs us Q I r h;obtain⟨p,aP,U,rfl,hp,hU,hne,h64,q⟩:=h;obtain⟨u,rfl,rx⟩:=r.one;cases rx;obtain⟨⟨o,ho,x⟩,_⟩:=I.hok _ _ hp;have hS:=So.Ni.at x ho (fun b ks hb=>xu I (hU b ks hb));refine So.Je (I.ok.hd hc) hS hne h64 fun h' tk l n out k hl ho hg=>?_;have YW:H l=none:=I.hok.fresh hl;have hv:∃ys:List V,Vals ys out/\ys.length=(bH aP).length/\∀(i:Nat) v,ys[i]?=some v->∃b,v=.ref b/\U b ((bH aP).getD i []):=by
  refine⟨out.map fun v=>match v with|.ref b=>V.ref b|_=>V.non,?_,by simp[ho.1],fun i v hv=>?_⟩
  ·have:∀v∈out,∃b,v=aa.ref b:=fun v hv=>by obtain⟨i,hi⟩:=j_.mp hv;obtain⟨b,e,_⟩:=ho.2 i v hi;exact⟨b,e⟩
   clear ho hg
   induction out with
   |nil=>exact .nil
   |cons a out ih =>
    obtain⟨b,rfl⟩:=this a (.head _);exact .cons rfl (ih fun v hv=>this v (.tail _ hv))
  ·rw[cK]at hv;cases e:out[i]? with
   |none=>rw[e]at hv;cases hv
   |some v' =>
    rw[e]at hv;obtain⟨b,rfl,h2⟩:=ho.2 i v' e;exact⟨b,(dE hv).symm,h2⟩
 obtain⟨ys,rv,yl,yv⟩:=hv;have e0:s.heap.objs.size<=l:=hl;refine⟨.ref l,_,I.laid (t':=tk) k hl (show dD X.prog X.w _ h' _ (.lst ys) from⟨?_,out,n,rv,hg⟩),rfl,q l ys YW yl yv⟩;have:(bH aP).length=aP.length:=(cV aP).length_eq;rw[yl,this,ef];lia
noncomputable def iI:List D->Option (List Int)
 | []=>some []
 | .int i::ds=>(iI ds).map (i::·)
 |_=>none
noncomputable def gZ:List D->Option LL
 | []=>some []
 | .tup ds::es=>match iI ds with|some k=>(gZ es).map (k::·)|none=>none
 |_=>none
noncomputable def tupK(ks:List Int):D:=.tup (ks.map .int)
theorem Ox(ks:List Int):iI (ks.map .int)=some ks:=by
 induction ks with
 |nil=>rfl
 |cons k ks ih=>simp[iI,ih]
theorem xG:∀{ds:List D}{ks:List Int},iI ds=some ks->ds=ks.map .int
 | [],ks,h=>by simp[iI]at h;subst h;rfl
 | .int i::ds,ks,h=>by
  simp only[iI]at h;cases e:iI ds with
  |none=>rw[e]at h;cases h
  |some k=>rw[e]at h;simp at h;subst h;rw[xG e];rfl
 | .non::ds,ks,h=>by simp[iI]at h
 | .bl _::ds,ks,h=>by simp[iI]at h
 | .str _::ds,ks,h=>by simp[iI]at h
 | .tup _::ds,ks,h=>by simp[iI]at h
 | .lst _::ds,ks,h=>by simp[iI]at h
 | .zu _ _::ds,ks,h=>by simp[iI]at h
 | .zx _ _::ds,ks,h=>by simp[iI]at h
 | .fn _::ds,ks,h=>by simp[iI]at h
 | .obj _ _ _::ds,ks,h=>by simp[iI]at h
theorem uw(aP:LL):gZ (aP.map tupK)=some aP:=by
 induction aP with
 |nil=>rfl
 |cons k aP ih=>simp[gZ,tupK,Ox]at ih ⊢;exact ih
theorem oK:∀{ds:List D}{aP:LL},gZ ds=some aP->ds=aP.map tupK
 | [],ks,h=>by simp[gZ]at h;subst h;rfl
 | .tup es::ds,ks,h=>by
  simp only[gZ]at h;cases e:iI es with
  |none=>rw[e]at h;cases h
  |some k =>
   rw[e]at h;cases e2:gZ ds with
   |none=>rw[e2]at h;cases h
   |some k2=>rw[e2]at h;simp at h;subst h;rw[oK e2,xG e];rfl
 | .int i::ds,ks,h=>by simp[gZ]at h
 | .non::ds,ks,h=>by simp[gZ]at h
 | .bl _::ds,ks,h=>by simp[gZ]at h
 | .str _::ds,ks,h=>by simp[gZ]at h
 | .lst _::ds,ks,h=>by simp[gZ]at h
 | .zu _ _::ds,ks,h=>by simp[gZ]at h
 | .zx _ _::ds,ks,h=>by simp[gZ]at h
 | .fn _::ds,ks,h=>by simp[gZ]at h
 | .obj _ _ _::ds,ks,h=>by simp[gZ]at h
theorem mW{K:ai}{G:Hp}:∀{ks:List Int}{vs:List V},bA K G (ks.map .int) vs->vs=ks.map V.int
 | [],vs,r=>aZ.mp r
 |k::ks,vs,r=>by obtain⟨v,vs',rfl,r1,r2⟩:=aG.mp r;rw[aU.mp r1,mW r2];rfl
theorem Gi{K:ai}{G:Hp}{ks:List Int}{v:V}:Rep K G (tupK ks) v↔∃b,v=.ref b/\UG K G b ks:=by
 unfold tupK UG;constructor
 ·intro h;obtain⟨a,vs,rfl,q,r⟩:=bD.mp h;rw[mW r]at q;exact⟨a,rfl,q⟩
 ·rintro⟨b,rfl,q⟩;exact bD.mpr ⟨b,_,rfl,q,tV ks⟩
theorem ux{K:ai}{G:Hp}{aP:LL}{vs:List V}(r:bA K G (aP.map tupK) vs):aP.length=vs.length/\∀(i:Nat) v,vs[i]?=some v->∃b,v=.ref b/\UG K G b (aP.getD i []):=by
 refine⟨by have:=r.length;simpa using this,fun i v hv=>?_⟩;obtain⟨d,h1,h2⟩:=r.get' hv;rw[cK]at h1;cases e:aP[i]? with
 |none=>rw[e]at h1;cases h1
 |some ks =>
  rw[e]at h1;cases h1;obtain⟨b,q1,q2⟩:=Gi.mp h2;exact⟨b,q1,by rw[gm,e];exact q2⟩
theorem mq{K:ai}{G:Hp}:∀{aP:LL}{vs:List V},vs.length=aP.length->(∀(i:Nat) v,vs[i]?=some v->∃b,v=.ref b/\UG K G b (aP.getD i []))->bA K G (aP.map tupK) vs
 | [],vs,h,_=>aZ.mpr (r8.mp h)
 |k::aP,[],h,_=>by cases h
 |k::aP,v::vs,h,a=>by refine aG.mpr ⟨v,vs,rfl,Gi.mpr (a 0 v rfl),mq (by simpa using h) fun i u hu=>?_⟩;exact a (i + 1) u hu
noncomputable def Ui(P:aI)(w:az)(K:ai)(W:Wi)(σ:St)(G H:Hp)(r:Rs LL)(Q:VK):Prop :=
 match r with
 | .ok aP=>∀a H' G',Ext G H G' H'->H a=none->H' a=some (.ext (YQ P w (UG K G') a aP))->Q (.ref a) H'
 | .ex c n=>∀H' G',Ext G H G' H'->W c n σ H'
 | .no=>False
noncomputable def tK(P:aI)(w:az)(K:ai)(B:Bs)(W:Wi)(f:ak->Rs LL):TE:=fun σ H Q=>∃ρ G,SR K B σ H ρ G/\Ui P w K W σ G H (f ρ) Q
noncomputable def SK(X:Cx)(B:Bs)(W:Wi)(e:ah)(f:ak->Rs LL):Prop:=PE X e (tK X.prog X.w X.K B W f)
noncomputable def Cv:D->Rs LL
 | .lst ds=>match gZ ds with|some aP=>if (bI aP).length < 4900 then .ok aP else .no|none=>.no
 | .tup ds=>match gZ ds with|some aP=>if (bI aP).length < 4900 then .ok aP else .no|none=>.no
 |_=>.no
noncomputable def fK(f:ak->Rs D):ak->Rs LL:=fun ρ=>(f ρ).bind fun d=>(Cv d).bind fun aP=>.ok (bI aP)
theorem YX{G H:Hp}(gh:Same G H)(tp:∀a xs,H a=some (.tup xs)->G a=some (.tup xs)){p:ae}{φ:ay->Prop}(hp:H p=none):Ext G H G (upd H p (.ext φ)) where
 gg:=.refl _
 hh:=fun b o e=>by rw[aL (aM e hp)];exact e
 gh:=fun b o e=>by rw[aL (aM (gh _ _ e) hp)];exact gh _ _ e
 tp:=fun b ys e=>by
  by_cases q:b=p
  ·subst q;rw[aQ]at e;cases e
  ·rw[aL q]at e;exact tp _ _ e
 nw:=fun b o e n=>n
theorem acX{e:ah}{p pos:Pos}{f:ak->Rs D}(hc:X.calm=true) (hu:X.A.units + 8 < bS) (hm:X.mg "set"=none) (he:SE X B W e f) (hg:Gl X "set":=by rfl) (hst:ba [e] X.env=[(false,bb e X.env)]:=by rfl) :
  SK X B W (.Call (.Name "set" p) [e] [] pos) (fK f):=by
 refine PE.imp (zq (Ow hc hu) hg hm PyProof.Rows.boot_set (eG he jA hst) (by decide) (by decide) hst rfl) fun σ H Q h=>?_;obtain⟨ρ,G,s,p⟩:=h;refine⟨ρ,G,s,?_⟩;unfold fK at p;cases e1:f ρ with
 |ok d =>
  rw[e1]at p;have p':Ui X.prog X.w X.K W σ G H ((Cv d).bind fun aP=>.ok (bI aP)) Q:=p;intro v H' G' x r;have dX:∀(a:ae) (vs:List V) (aP:LL),v=.ref a->(jz X.K H' a vs∨iV X.K H' a vs)->bA X.K G' (aP.map tupK) vs->(bI aP).length < 4900->Ui X.prog X.w X.K W σ G H (.ok (bI aP)) Q->aaC X.prog X.w X.K [v] H' Q:=by
   intro a vs aP ea hs rr hz pp;obtain⟨hl,hk⟩:=ux rr;refine⟨a,vs,aP,UG X.K G',by rw[ea],hs,hl,hz,fun i u hu'=>?_,fun l hl'=>?_⟩
   ·obtain⟨b,q1,q2⟩:=hk i u hu';exact⟨b,q1,Same.dU x.gh q2,q2⟩
   ·exact pp l _ G' (x.trans (YX x.gh x.tp hl')) (by cases e:H l with|none=>rfl|some o=>have:=x.hh _ _ e;rw[hl']at this;cases this) aQ
  unfold Cv at p';split at p'
  ·rename_i ds;split at p'
   ·rename_i aP ek;by_cases hz:(bI aP).length < 4900
    ·rw[if_pos hz]at p';obtain⟨a,vs,rfl,q,rr⟩:=bh.mp r;have hl:=rr.length;rw[oK ek]at rr;exact dX a vs aP rfl (.inl (x.gh.seq q)) rr hz p'
    ·rw[if_neg hz]at p';exact p'.elim
   ·exact p'.elim
  ·rename_i ds;split at p'
   ·rename_i aP ek;by_cases hz:(bI aP).length < 4900
    ·rw[if_pos hz]at p';obtain⟨a,vs,rfl,q,rr⟩:=bD.mp r;have hl:=rr.length;rw[oK ek]at rr;exact dX a vs aP rfl (.inr (Same.dU x.gh q)) rr hz p'
    ·rw[if_neg hz]at p';exact p'.elim
   ·exact p'.elim
  ·exact p'.elim
 |ex c n=>rw[e1]at p;exact p
 |no=>rw[e1]at p;exact p
instance (aP:LL):Decidable (∀ks∈aP,ks≠[]):=inferInstance
noncomputable def Cw:LL->Rs D:=fun aP=>if (∀ks∈aP,ks≠[])/\aP.length < 4900 then .ok (.lst ((bH aP).map tupK)) else .no
noncomputable def xH(f:ak->Rs LL):ak->Rs D:=fun ρ=>(f ρ).bind Cw
theorem Jf{e:ah}{p pos:Pos}{f:ak->Rs LL}(hc:X.calm=true) (hm:X.mg "sorted"=none) (he:SK X B W e f) (hg:Gl X "sorted":=by rfl) (hst:ba [e] X.env=[(false,bb e X.env)]:=by rfl) :
  SE X B W (.Call (.Name "sorted" p) [e] [] pos) (xH f):=by
 refine PE.imp (nP (Cu hc) hg hm sR (eG he jA hst) (by decide) (by decide) hst rfl) fun σ H Q h=>?_;obtain⟨ρ,G,s,p⟩:=h;refine⟨ρ,G,s,?_⟩;unfold xH at p;cases e1:f ρ with
 |ok aP =>
  rw[e1]at p;intro a H' G' x _ ha;have p':Post X.K W σ G H (Cw aP) Q:=p;unfold Cw at p';by_cases hc':(∀ks∈aP,ks≠[])/\aP.length < 4900
  ·rw[if_pos hc']at p';refine⟨a,aP,UG X.K G',rfl,ha,fun b ks hb=>Same.dU x.gh hb,hc'.1,hc'.2,fun l ys hl hy hv=>?_⟩;have x2:=ji (xs:=ys) x.gh x.tp hl;refine p' _ _ _ (x.trans x2) (bh.mpr ⟨l,ys,rfl,.of aQ,?_⟩);exact(mq hy hv).mono x2.gg
  ·rw[if_neg hc']at p';exact p'.elim
 |ex c n=>rw[e1]at p;exact p
 |no=>rw[e1]at p;exact p
end
section
variable{X:Cx}{B:Bs}{W:Wi}
noncomputable def COr(a b:LL):Prop:=a.length + b.length < 900
noncomputable def afA(a b:LL):Prop:=a.length < 900/\b.length < 900
noncomputable def afB(a b:LL):Prop:=a.length < 900/\b.length < 900/\(b=[]∨¬a.length / 4 > b.length)
instance (a b:LL):Decidable (COr a b):=by unfold COr;exact inferInstance
instance (a b:LL):Decidable (afA a b):=by unfold afA;exact inferInstance
instance (a b:LL):Decidable (afB a b):=by unfold afB;exact inferInstance
end
end Vl
namespace Vl
open PySem PySem.Spec L2
noncomputable def Cy(i:Nat)(fs:ak->Rs (List D)):ak->Ou:=fun ρ=>oR (fs ρ) ρ fun ds=>if ds.length<=1000 then .nx (ρ.set i (.ow ds)) else .no
noncomputable def uX(i:Nat)(f:ak->Rs D):ak->Ou:=fun ρ=>match ρ[i]? with|some (.ow ds)=>oR (f ρ) ρ fun d=>if ds.length < 1000000 then .nx (ρ.set i (.ow (ds++[d]))) else .no|_=>.no
noncomputable def Gj(i:Nat)(g:ak->Ou):ak->Ou:=fun ρ=>g (za i ρ)
section
variable{X:Cx}{K:ai}{B:Bs}{W:Wi}{σ:St}{G H:Hp}{ρ:ak}
theorem xJ(i:Nat){x:Str}{es:List ah}{pos pos' lp:Pos}{f:ak->Rs (List D)}(hN:X.N.Nodup)(he:SA X B W es f)(hi:X.N[i]?=some x:=by rfl)(hx:Kg X.env.scope x:=by first|exact Or.inl rfl|exact Or.inr rfl)(hs:eD (.List es lp) (some (.Name x pos')) pos.line X.env=pure false:=by rfl)(hf:X.fn x=true∨X.env.scope.names.lookup x=some .local:=by first|exact .inl rfl|exact .inr rfl|assumption) :
  SS X B W (.Assign [.Name x pos'] (.List es lp) pos) (Cy i f):=aco hN hi hx he hs hf
theorem Cz(i:Nat){x:Str}{e:ah}{pos p1 p2 cp:Pos}{f:ak->Rs D}(he:SE X B W e f)(hN:X.N[i]?=some x:=by rfl)(hv:DW X.env.scope x:=by first|exact Or.inl rfl|exact Or.inr (Or.inl rfl)|exact Or.inr (Or.inr rfl))(hd:pK x:=by decide)
  (hcd:HF x:=by decide) (hst:ba [e] X.env=[(false,bb e X.env)]:=by rfl)
  (hbase:k9 (.Name x p1) "append" X.env (bb (.Name x p1) X.env)=bb (.Name x p1) X.env:=by rfl)
  (hfew:((df cp (ba [e] X.env)).all (fun x=>!x.1) && (k_ cp (lh [] X.env)).all (fun x=>x.1.isSome)
   && decide (([e]:List ah).length + ([]:List fF).length + (if ([]:List fF).isEmpty then 0 else 1) < 30))=true:=by rfl)
  (hline:(p2.endLine == cp.line)=true:=by rfl) (hplain:(df cp (ba [] X.env)).any (·.1)=false:=by rfl)
  (hs:eD (.Call (.Attribute (.Name x p1) "append" p2) [e] [] cp) none pos.line X.env=pure false:=by rfl) :
  SS X B W (.Expr (.Call (.Attribute (.Name x p1) "append" p2) [e] [] cp) pos) (uX i f) :=
 Oa (pe:=QD xw PySem.F.slot_list_append PySem.F.type_list_append tU (gP hN hv hd hcd) (eG he jA hst) hbase hfew hline hst hplain) (gP hN hv hd hcd) he hst hs
theorem CG(i:Nat){st:List bo}{g:ak->Ou}(h:tE X B W st g):tE X B W st (Gj i g):=Yi i h
theorem rZ{e:ah}{p pos:Pos}{fa:ak->Rs D}(hm:X.mg "tuple"=none) (ha:SE X B W e fa) (hg:Gl X "tuple":=by rfl) (he:ba [e] X.env=[(false,bb e X.env)]:=by rfl):SE X B W (.Call (.Name "tuple" p) [e] [] pos) (fA (aj fa aO) jQ) :=
 zA yJ Rp hg hm PyProof.Rows.boot_tuple (aD ha aR he) (by decide) (by decide) he rfl
noncomputable def qO:List D->Rs D
 | [.lst ds]=>.ok (.lst ds)
 | [.tup ds]=>.ok (.lst ds)
 |_=>.no
theorem Uj:nD K (fun xs H Q=>∃p ys,xs=[.ref p]/\(jz K H p ys∨iV K H p ys)/\∀l,H l=none->Q (.ref l) (upd H l (.lst ys))) qO:=by
 intro B W σ ρ G H ds vs Q s r p;unfold qO at p;split at p
 ·rename_i ds;obtain⟨v,vs',rfl,r1,r2⟩:=aG.mp r;obtain⟨a,us,rfl,q,rr⟩:=bh.mp r1;rw[aZ.mp r2];refine⟨a,us,rfl,.inl (s.en.gh.seq q),fun c hc=>?_⟩;have x:=ji (xs:=us) s.en.gh s.en.tp hc;exact p _ _ _ x (bh.mpr ⟨c,us,rfl,.of aQ,rr.mono x.gg⟩)
 ·rename_i ds;obtain⟨v,vs',rfl,r1,r2⟩:=aG.mp r;obtain⟨a,us,rfl,q,rr⟩:=bD.mp r1;rw[aZ.mp r2];refine⟨a,us,rfl,.inr (Same.dU s.en.gh q),fun c hc=>?_⟩;have x:=ji (xs:=us) s.en.gh s.en.tp hc;exact p _ _ _ x (bh.mpr ⟨c,us,rfl,.of aQ,rr.mono x.gg⟩)
 ·exact p.elim
theorem YZ{e:ah}{p pos:Pos}{fa:ak->Rs D}(hm:X.mg "list"=none) (ha:SE X B W e fa) (hg:Gl X "list":=by rfl) (he:ba [e] X.env=[(false,bb e X.env)]:=by rfl):SE X B W (.Call (.Name "list" p) [e] [] pos) (fA (aj fa aO) qO) :=
 zA Bc Uj hg hm PyProof.Rows.boot_list (aD ha aR he) (by decide) (by decide) he rfl
noncomputable def afC:List D->Rs D
 | [.int i]=>.ok (.int i)
 | [.bl b]=>.ok (.int (if b then 1 else 0))
 |_=>.no
noncomputable def qD:D->Bool
 | .non=>true
 |_=>false
noncomputable def Jg:D->D->Rs D:=fun x y=>match y with|.non=>.ok (.bl (qD x))|_=>.no
noncomputable def afD:D->D->Rs D:=fun x y=>match y with|.non=>.ok (.bl (!qD x))|_=>.no
theorem Oz{x:D}{v:V}(r:Rep K G x v):decide (v=.non)=qD x:=by
 cases x with
 |non=>rw[jh.mp r];rfl
 |bl b=>rw[cB.mp r];rfl
 |int b=>rw[aU.mp r];rfl
 |str b=>rw[mK.mp r];rfl
 |tup b=>obtain⟨a,vs,rfl,_⟩:=bD.mp r;rfl
 |lst b=>obtain⟨a,vs,rfl,_⟩:=bh.mp r;rfl
 |zu c n=>obtain⟨a,vs,_,rfl,_⟩:=Bh.mp r;rfl
 |zx c n=>obtain⟨a,U,bw,rfl,_⟩:=Bk.mp r;rfl
 |fn c=>obtain⟨a,_,_,rfl,_⟩:=vV.mp r;rfl
 |obj c n ds=>obtain⟨a,_,_,_,rfl,_⟩:=Bj.mp r;rfl
theorem Lz:Qf K (fun x y H Q=>y=.non/\Q (.bl (decide (x=.non))) H) Jg:=by
 intro B W σ ρ G H x y v u Q s rx ry p;unfold Jg at p;split at p
 ·refine⟨jh.mp ry,?_⟩;rw[Oz rx];exact Post.ok s p (cB.mpr rfl)
 ·exact p.elim
variable{a b:ah}{pos:Pos}{fa fb:ak->Rs D}
theorem acY(ha:SE X B W a fa)(hb:SE X B W b fb)(hm:iF .Is b=false:=by rfl):SE X B W (.Compare a [.Is] [b] pos) (aV Jg fa fb):=Rf Qu Lz ha hb hm
theorem acZ(ha:SE X B W a fa)(hb:SE X B W b fb)(hm:iF .Is b=false:=by rfl):ST X B W (.Compare a [.Is] [b] pos) (fT (aV Jg fa fb)):=qI Qu Lz ha hb hm
noncomputable def Xg(x:D)(ds:List D):Bool:=ds.any fun d=>lR d x
noncomputable def afE(K:ai)(neg:Bool):R2:=fun x y H Q=>∃d p ys ds,y=.ref p/\(jz K H p ys∨iV K H p ys)/\Rep K H d x/\bA K H ds ys/\fW d<=7/\eU ds<=7/\Q (.bl (if neg then !Xg d ds else Xg d ds)) H
open Classical in
theorem aaD{pins:List (ae×Obj)}{s:af}{A:aT}{x:V}{v:aa}{d:D}(I:Inv X pins σ H s)(hu:A.units + 7 < bS)(rx:RelV x v)(rd:Rep X.K H d x)(hd:fW d<=7):∀{ds:List D}{ys:List V}{its:List aa},Vals ys its->bA X.K H ds ys->eU ds<=7 ->
  ∃f:aa->Bool,(∀u∈its,my A s u v (f u))/\its.any f=Xg d ds:=by
 intro ds ys its rv rr hds;refine⟨fun u=>if h:∃d' v',Rep X.K H d' v'/\RelV v' u/\fW d'<=7 then lR (choose h) d else false,fun u hu'=>?_,?_⟩
 ·obtain⟨i,hi⟩:=j_.mp hu';obtain⟨y,h1,h2⟩:=Vals.get' rv hi;obtain⟨d',h3,h4⟩:=rr.get' h1;have hx:∃d' v',Rep X.K H d' v'/\RelV v' u/\fW d'<=7:=⟨d',y,h4,h2,dq (rD (jI h3)) hds⟩
  dsimp only;rw[dif_pos hx];obtain⟨v',q1,q2,q3⟩:=choose_spec hx;exact QX I 7 q3 hd (by lia) q1 rd q2 rx
 ·unfold Xg
  induction ds generalizing ys its with
  |nil =>
   cases aZ.mp rr;cases rv;rfl
  |cons d0 ds ih =>
   obtain⟨y,ys',rfl,r1,r2⟩:=aG.mp rr;cases rv with
   | @cons _ u _ us r3 r4 =>
    rw[xx,xx,ih r4 r2 (dq (by simp only[eU];exact uS _ _) hds)];congr 1;have hd0:fW d0<=7:=dq (rD (e_)) hds;have hx:∃d' v',Rep X.K H d' v'/\RelV v' u/\fW d'<=7:=⟨d0,y,r1,r3,hd0⟩
    rw[dif_pos hx];obtain⟨v',q1,q2,q3⟩:=choose_spec hx;have:v'=y:=by have z1:=Vals.inj (xs:=[v']) (ys:=[y]) (us:=[u]) (.cons q2 .nil) (.cons r3 .nil);exact(List.cons.inj z1).1
    subst this;rw[Rep.inj I (by lia) q1 r1]
theorem ada(hu:X.A.units + 8 < bS):qH X (gz .In) (afE X.K false):=by
 intro pins s σ H x y v u Q I rx ry h;obtain⟨d,p,ys,ds,rfl,hq,rd,rr,hd,hds,q⟩:=h;cases ry;rcases hq with hq|hq
 ·obtain⟨its,r,pl,hz⟩:=I.list hq;obtain⟨f,h1,h2⟩:=aaD (A:=X.A.in1) I (by show X.A.units + 1 + 7 < bS;lia) rx rd hd r rr hds;refine SeqAt.in_listAt f pl.isList (fun w hw=>h1 w (by simpa using hw)) ⟨.bl _,H,I,rfl,?_⟩;rw[show its.toArray.any f=its.any f by simp,h2];exact q
 ·obtain⟨its,r,pl,hz⟩:=I.tuple hq;obtain⟨f,h1,h2⟩:=aaD (A:=X.A.in1) I (by show X.A.units + 1 + 7 < bS;lia) rx rd hd r rr hds;refine SeqAt.in_tupleAt f pl (fun w hw=>h1 w (by simpa using hw)) ⟨.bl _,H,I,rfl,?_⟩;rw[show its.toArray.any f=its.any f by simp,h2];exact q
noncomputable def Jh(neg:Bool):D->D->Rs D:=fun x y=>match y with
 | .lst ds=>if fW x<=7/\eU ds<=7 then .ok (.bl (if neg then !Xg x ds else Xg x ds)) else .no
 | .tup ds=>if fW x<=7/\eU ds<=7 then .ok (.bl (if neg then !Xg x ds else Xg x ds)) else .no
 |_=>.no
noncomputable abbrev Za:=Jh false
theorem adb{neg:Bool}:Qf K (afE K neg) (Jh neg):=by
 intro B W σ ρ G H x y v u Q s rx ry p;unfold Jh at p;split at p
 ·rename_i ds;split at p
  ·rename_i hc;obtain⟨a,vs,rfl,q,rr⟩:=bh.mp ry;exact⟨x,a,vs,ds,rfl,.inl (s.en.gh.seq q),rx.mono s.en.gh,rr.mono s.en.gh,hc.1,hc.2,Post.ok s p (cB.mpr rfl)⟩
  ·exact p.elim
 ·rename_i ds;split at p
  ·rename_i hc;obtain⟨a,vs,rfl,q,rr⟩:=bD.mp ry;exact⟨x,a,vs,ds,rfl,.inr (Same.dU s.en.gh q),rx.mono s.en.gh,rr.mono s.en.gh,hc.1,hc.2,Post.ok s p (cB.mpr rfl)⟩
  ·exact p.elim
 ·exact p.elim
theorem Uk(hu:X.A.units + 8 < bS)(ha:SE X B W a fa)(hb:SE X B W b fb)(hm:iF .In b=false:=by rfl):ST X B W (.Compare a [.In] [b] pos) (fT (aV Za fa fb)):=qI (ada hu) adb ha hb hm
end
end Vl
namespace Vl
open PySem PySem.Spec L2 So Tb
section
variable{X:Cx}{B:Bs}{W:Wi}{K:ai}
noncomputable def Ul(K:ai):List V->Hp->VK->Prop:=fun xs H Q=>∃(p:ae) (ys:List V) (aP:LL) (U:ae->List Int->Prop),xs=[.ref p]/\jz K H p ys/\aP.length=ys.length/\ys.length < 4900/\(∀ks∈aP,ks≠[]) /\
 (∀(i:Nat) v,ys[i]?=some v->∃b,v=.ref b/\iV K H b ((aP.getD i []).map V.int)/\U b (aP.getD i [])) /\
 ∀l zs,H l=none->zs.length=(bH aP).length->(∀(i:Nat) v,zs[i]?=some v->∃b,v=.ref b/\U b ((bH aP).getD i []))->Q (.ref l) (upd H l (.lst zs))
theorem Ji{U:ae->List Int->Prop}{out:List aa}{aP:LL}(ho:Ly U out aP):∃ys:List V,Vals ys out/\ys.length=aP.length/\∀(i:Nat) v,ys[i]?=some v->∃b,v=.ref b/\U b (aP.getD i []):=by
 refine⟨out.map fun v=>match v with|.ref b=>V.ref b|_=>V.non,?_,by simp[ho.1],fun i v hv=>?_⟩
 ·have:∀v∈out,∃b,v=aa.ref b:=fun v hv=>by obtain⟨i,hi⟩:=j_.mp hv;obtain⟨b,e,_⟩:=ho.2 i v hi;exact⟨b,e⟩
  clear ho
  induction out with
  |nil=>exact .nil
  |cons a out ih =>
   obtain⟨b,rfl⟩:=this a (.head _);exact .cons rfl (ih fun v hv=>this v (.tail _ hv))
 ·rw[cK]at hv;cases e:out[i]? with
  |none=>rw[e]at hv;cases hv
  |some v' =>
   rw[e]at hv;obtain⟨b,rfl,h2⟩:=ho.2 i v' e;exact⟨b,(dE hv).symm,h2⟩
theorem Jj:eF X (.builtin "sorted") (Ul X.K):=by
 intro pins s σ H xs us Q I r h;obtain⟨p,ys,aP,U,rfl,hs,hlen,hz,hne,hk,q⟩:=h;obtain⟨u,rfl,rx⟩:=r.one;cases rx;obtain⟨its,rv,pl,_⟩:=I.list hs;have hl:=rv.length;have each:∀(i:Nat) v,its[i]?=some v->∃b,v=.ref b/\c_ (cv X.prog X.w) s.heap (aP.getD i []) b/\U b (aP.getD i []):=fun i v hv=>by obtain⟨x,h1,h2⟩:=Vals.get' rv hv;obtain⟨b,rfl,h3,h4⟩:=hk i x h1;exact⟨b,h2,xu I h3,h4⟩
 refine So.pW (vs:=its) (aP:=aP) (fun Q' E' hq=>?_) ⟨by lia,fun i v hv=>let ⟨b,h1,h2,_⟩:=each i v hv;⟨b,h1,h2⟩⟩ hne (by lia) fun h' tk l n p' k hl' hsp hg=>?_
 ·refine PyProof.Rows.collect_list pl.isList ?_ (by rw[ef];lia);refine hq _ s.toks (fun b o e=>?_) ?_
  ·rw[kM _ _ _ _ (cn (bu e))];exact cm _ e
  ·rw[pM,xy];exact nN _
 ·have ho:=mV (U:=U) (vs:=its) (aP:=aP) (yR:=aP) ⟨by lia,fun i v hv=>let ⟨b,h1,_,h3⟩:=each i v hv;⟨b,h1,h3⟩⟩ hsp (.refl _);obtain⟨zs,r1,zl,zv⟩:=Ji ho;have YW:H l=none:=I.hok.fresh hl';refine⟨.ref l,_,I.laid (t':=tk) k hl' (show dD X.prog X.w _ h' _ (.lst zs) from⟨?_,_,n,r1,hg⟩),rfl,q l zs YW zl zv⟩;have:(bH aP).length=aP.length:=(cV aP).length_eq;rw[zl,this,ef];lia
noncomputable def Jk(x:Int):List Int->List Int
 | []=>[x]
 |y::ys=>if y < x then y::Jk x ys else x::y::ys
noncomputable def su(l:List Int):List Int:=l.foldr Jk []
theorem uy(x:Int):∀l,(Jk x l).Perm (x::l)
 | []=>.refl _
 |y::ys=>by
  unfold Jk;split
  ·exact((uy x ys).cons y).trans (ip.swap x y ys)
  ·exact .refl _
theorem qP:∀l,(su l).Perm l
 | []=>.refl _
 |x::l=>(uy x (su l)).trans ((qP l).cons x)
theorem LK(x:Int):∀l,l.Pairwise (·<=·)->(Jk x l).Pairwise (·<=·)
 | [],_=>by simp[Jk]
 |y::ys,h=>by
  obtain⟨h1,h2⟩:=fR.mp h;unfold Jk;split
  ·rename_i c;refine fR.mpr ⟨fun z hz=>?_,LK x ys h2⟩;rcases br.mp ((uy x ys).mem_iff.mp hz) with rfl|hz
   ·lia
   ·exact h1 z hz
  ·rename_i c;refine fR.mpr ⟨fun z hz=>?_,h⟩;rcases br.mp hz with rfl|hz
   ·lia
   ·have:=h1 z hz;lia
theorem Gk:∀l,(su l).Pairwise (·<=·)
 | []=>.nil
 |x::l=>LK x _ (Gk l)
theorem xK:∀{l l':List Int},l.Perm l'->l.Pairwise (·<=·)->l'.Pairwise (·<=·)->l=l'
 | [],l',p,_,_=>(List.nil_perm.mp p).symm
 |x::l,[],p,_,_=>by cases List.perm_nil.mp p
 |x::l,y::l',p,h,h'=>by
  obtain⟨h1,h2⟩:=fR.mp h;obtain⟨h1',h2'⟩:=fR.mp h';have e:x=y:=by
   have m1:=br.mp (p.mem_iff.mp (e_ (a:=x) (l:=l)));have m2:=br.mp (p.mem_iff.mpr (e_ (a:=y) (l:=l')));rcases m1 with m1|m1
   ·exact m1
   ·rcases m2 with m2|m2
    ·exact m2.symm
    ·have:=h1' x m1;have:=h1 y m2;lia
  subst e;rw[xK (p.cons_inv) h2 h2']
theorem Um{l l':List Int}(p:l.Perm l')(h:l.Pairwise (·<=·)):l=su l':=xK (p.trans (qP l').symm) h (Gk l')
theorem pO:∀{us:List aa}{ns:List Int},PyProof.Rows.IntsAre us ns->Vals (ns.map V.int) us:=by
 intro us ns h
 induction h with
 |nil=>exact .nil
 |cons n t _ ih=>exact .cons ⟨t,rfl⟩ ih
noncomputable def Uo(K:ai):List V->Hp->VK->Prop:=fun xs H Q=>∃(p:ae) (ns:List Int),xs=[.ref p]/\jz K H p (ns.map V.int)/\ns.length < 64/\∀l,H l=none->Q (.ref l) (upd H l (.lst ((su ns).map V.int)))
theorem Jl:eF X (.builtin "sorted") (Uo X.K):=by
 intro pins s σ H xs us Q I r h;obtain⟨p,ns,rfl,hs,hz,q⟩:=h;obtain⟨u,rfl,rx⟩:=r.one;cases rx;obtain⟨its,rv,pl,_⟩:=I.list hs;have hl:=rv.length;simp only[cw]at hl;refine PyProof.Rows.sorted_ints pl.isList (Ia rv) (by lia) fun out ns' h1 h2 h3=>?_;have e:ns'=su ns:=Um h2 h3;subst e;have hsz:((s.heap.push (kN "list" #[] 0)).update s.heap.objs.size (eA (·++its.toArray))).objs.size=s.heap.objs.size + 1:=by rw[pM,xy]
 have hoL:(((s.heap.push (kN "list" #[] 0)).update s.heap.objs.size (eA (·++its.toArray))).push (kN "list" its.toArray 0)).get? (s.heap.objs.size + 1)=some (kN "list" its.toArray 0):=by rw[<- hsz];exact cE _ rfl
 have keep:∀b o,s.heap.get? b=some o->(((s.heap.push (kN "list" #[] 0)).update s.heap.objs.size (eA (·++its.toArray))).push (kN "list" its.toArray 0)).get? b=some o:=fun b o q=>by refine cm _ ?_;rw[kM _ _ _ _ (cn (bu q))];exact cm _ q
 have g0:=cm (kN "list" #[] 0) (cm (kN "tuple" its.toArray 0) (PyProof.Rows.get?_update_seq hoL (fun _=>#[])));have g1:=PyProof.Rows.get?_update_seq g0 (fun _=>out);have YW:H (s.heap.objs.size + 1)=none:=I.hok.fresh (nN _);refine⟨.ref (s.heap.objs.size + 1),_,I.laid (t':=s.toks) (fun b o z=>?_) (nN _) (show dD X.prog X.w _ _ _ (.lst ((su ns).map V.int)) from⟨?_,out.toList,_,pO h1,by rw[Array.toArray_toList];exact g1⟩),rfl,q _ YW⟩
 ·unfold PyProof.Rows.sortedAll PyProof.Rows.sortedHeap;have ne:b≠s.heap.objs.size + 1:=cn (ky (bu z));rw[kM _ _ _ _ ne];refine cm _ (cm _ ?_);rw[kM _ _ _ _ ne];exact keep b o z
 ·rw[cw,(qP ns).length_eq,ef];lia
noncomputable def mX:List D->Rs D
 | [.lst ds]=>match gZ ds with
  |some aP=>if (∀ks∈aP,ks≠[])/\aP.length < 4900 then .ok (.lst ((bH aP).map tupK)) else .no
  |none=>match iI ds with
   |some ns=>if ns.length < 64 then .ok (.lst ((su ns).map .int)) else .no
   |none=>.no
 |_=>.no
theorem Uq:nD K (fun xs H Q=>Ul K xs H Q∨Uo K xs H Q) mX:=by
 intro B W σ ρ G H ds vs Q s r p;unfold mX at p;split at p
 ·rename_i ds;obtain⟨v,vs',rfl,r1,r2⟩:=aG.mp r;obtain⟨a,us,rfl,q,rr⟩:=bh.mp r1;rw[aZ.mp r2];split at p
  ·rename_i aP ek;split at p
   ·rename_i hc;rw[oK ek]at rr;obtain⟨hl,hk⟩:=ux rr;refine .inl ⟨a,us,aP,UG K G,rfl,s.en.gh.seq q,hl,by lia,hc.1,fun i v hv=>?_,fun l zs hl' hz hv=>?_⟩
    ·obtain⟨b,q1,q2⟩:=hk i v hv;exact⟨b,q1,Same.dU s.en.gh q2,q2⟩
    ·have x:=ji (xs:=zs) s.en.gh s.en.tp hl';exact p _ _ _ x (bh.mpr ⟨l,zs,rfl,.of aQ,(mq hz hv).mono x.gg⟩)
   ·exact p.elim
  ·split at p
   ·rename_i ns ei;split at p
    ·rename_i hc;rw[xG ei]at rr;have eu:=mW rr;subst eu;refine .inr ⟨a,ns,rfl,s.en.gh.seq q,hc,fun l hl=>?_⟩;have x:=ji (xs:=(su ns).map V.int) s.en.gh s.en.tp hl;exact p _ _ _ x (bh.mpr ⟨l,_,rfl,.of aQ,tV _⟩)
    ·exact p.elim
   ·exact p.elim
 ·exact p.elim
theorem eF.or{f:aa}{r r':List V->Hp->VK->Prop}(h:eF X f r)(h':eF X f r'):eF X f (fun xs H Q=>r xs H Q∨r' xs H Q):=fun pins s σ H xs us Q I rv q=>q.elim (h pins s σ H xs us Q I rv) (h' pins s σ H xs us Q I rv)
theorem Gm{e:ah}{p pos:Pos}{fa:ak->Rs D}(hm:X.mg "sorted"=none) (ha:SE X B W e fa) (hg:Gl X "sorted":=by rfl) (he:ba [e] X.env=[(false,bb e X.env)]:=by rfl):SE X B W (.Call (.Name "sorted" p) [e] [] pos) (fA (aj fa aO) mX) :=
 jP (eF.or Jj Jl) Uq hg hm sR (aD ha aR he) (by decide) (by decide) he rfl
end
end Vl
namespace Vl
open PySem PySem.Spec L2
section
variable{X:Cx}{B:Bs}{W:Wi}{K:ai}
end
section
variable{X:Cx}{B:Bs}{W:Wi}{K:ai}{a b:ah}{pos:Pos}{fa fb:ak->Rs D}
end
section
variable{X:Cx}{B:Bs}{W:Wi}
theorem vq{pins:List (ae×Obj)}{σ:St}{H:Hp}{s:af}{b:ae}{ks:List Int}(I:Inv X pins σ H s)(h:iV X.K H b (ks.map V.int)):c_ (cv X.prog X.w) s.heap ks b:=by
 obtain⟨its,r,⟨o,ho,hc,n,hd⟩,hz⟩:=I.tuple h;refine⟨o,its.toArray,n,ho,hc,hd,?_⟩;show ItemsAre _ ks its;clear hd h hz
 induction ks generalizing its with
 |nil=>cases r;exact .nil
 |cons k ks ih =>
  cases r with
  |cons r1 r2 =>
   obtain⟨t,rfl⟩:=r1;exact .cons (intKind_is X.prog X.w k t) (ih _ r2)
noncomputable abbrev DP(U:ae->List Int->Prop):=Paired (fun(p:List Int×V) (q:List Int×ae×aa)=>p.1=q.1/\U q.2.1 q.1/\RelV p.2 q.2.2)
theorem CJ{pins:List (ae×Obj)}{σ:St}{H:Hp}{s:af}{d:ae}{U:ae->List Int->Prop}{bw:List (List Int×V)}(I:Inv X pins σ H s)(hd:Kw H d U bw)(hU:∀b ks,U b ks->UG X.K H b ks) :
  ∃xs,s.heap.DictOfH (n9 (cv X.prog X.w)) d xs/\(d == iE)=false/\DP U bw xs/\(xs.map (·.1)).Nodup:=by
 obtain⟨φ,hd,hφ⟩:=hd;obtain⟨o,es,ep,xs,h1,h2,h3,h4,h5,h6,h7⟩:=hφ _ (I.hok d _ hd).1;refine⟨xs,⟨o,es,ep,h1,h2,h3,h5,fun x hx=>?_,h6⟩,h4,h7,h6⟩;have:∀{bw:List (List Int×V)}{xs:List (List Int×ae×aa)},DP U bw xs->∀x∈xs,U x.2.1 x.1:=by
  intro bw xs r
  induction r with
  |nil=>intro x hx;cases hx
  |cons r1 _ ih =>
   intro x hx;rcases br.mp hx with rfl|hx
   ·exact r1.2.1
   ·exact ih x hx
 exact vq I (hU _ _ (this h7 x hx))
noncomputable def qm(bw:List (List Int×V))(ks:List Int):Option V:=(bw.find? fun p=>decide (p.1=ks)).map (·.2)
noncomputable def Jm(bw:List (List Int×V))(ks:List Int)(v:V):List (List Int×V):=if (qm bw ks).isSome then bw.map (fun p=>if p.1=ks then (p.1,v) else p) else bw++[(ks,v)]
theorem sy{U:ae->List Int->Prop}{ks:List Int}:∀{bw:List (List Int×V)}{xs:List (List Int×ae×aa)},DP U bw xs->(qm bw ks=none/\kP xs ks=none)∨∃v q,qm bw ks=some v/\kP xs ks=some q/\RelV v q.2
 | [],_,.nil=>.inl ⟨rfl,rfl⟩
 |p::bw,q::xs,.cons r t=>by
  by_cases c:p.1=ks
  ·have c':q.1=ks:=r.1▸c;exact .inr ⟨p.2,q.2,by simp[qm,ka,c],by simp[kP,ka,c'],r.2.2⟩
  ·have c':¬q.1=ks:=fun z=>c (r.1.trans z);have e1:qm (p::bw) ks=qm bw ks:=by simp[qm,ka,c]
   have e2:kP (q::xs) ks=kP xs ks:=by simp[kP,ka,c']
   rw[e1,e2];exact sy t
theorem Paired.app{α β:Type}{F:α->β->Prop}:∀{l₁ l₁':List α}{l₂ l₂':List β},Paired F l₁ l₂->Paired F l₁' l₂'->Paired F (l₁++l₁') (l₂++l₂')
 |_,_,_,_,.nil,t'=>t'
 |_,_,_,_,.cons r t,t'=>.cons r (Paired.app t t')
theorem Ur{U:ae->List Int->Prop}{ks:List Int}{b:ae}{v:V}{u:aa}{bw:List (List Int×V)}{xs:List (List Int×ae×aa)}(r:DP U bw xs)(hb:U b ks)(rv:RelV v u):DP U (Jm bw ks v) (storedH xs ks b u):=by
 rcases sy (ks:=ks) r with ⟨e1,e2⟩|⟨v',q,e1,e2,_⟩
 ·unfold Jm storedH;rw[e1,e2];exact Paired.app r (.cons ⟨rfl,hb,rv⟩ .nil)
 ·unfold Jm storedH;rw[e1,e2];show DP U (bw.map _) (xs.map _);clear e1 e2
  induction r with
  |nil=>exact .nil
  |cons r1 _ ih =>
   refine .cons ?_ ih;rename_i p q' _ _ _;by_cases c:p.1=ks
   ·have c':q'.1=ks:=r1.1▸c;unfold putAt;dsimp only;rw[if_pos c,if_pos c'];exact⟨r1.1,r1.2.1,rv⟩
   ·have c':¬q'.1=ks:=fun z=>c (r1.1.trans z);unfold putAt;dsimp only;rw[if_neg c,if_neg c'];exact r1
noncomputable def aaE(K:ai):R2:=fun x y H Q=>∃(b d:ae) (ks:List Int) (U:ae->List Int->Prop) (bw:List (List Int×V)),x=.ref b/\y=.ref d/\iV K H b (ks.map V.int)/\Kw H d U bw/\(∀b ks,U b ks->UG K H b ks)/\Q (.bl (qm bw ks).isSome) H
theorem Zb(hu:X.A.units + 1 < bS):qH X (gz .In) (aaE X.K):=by
 intro pins s σ H x y v u Q I rx ry ⟨b,d,ks,U,bw,e1,e2,hb,hd,hU,q⟩;subst e1;subst e2;cases rx;cases ry;obtain⟨xs,hm,hs,hp,_⟩:=CJ I hd hU;refine wpAny_in_heap (xC hu) (vq I hb) hs hm ⟨_,H,I.tok _,?_,q⟩;rcases sy (ks:=ks) hp with ⟨e1,e2⟩|⟨v',q',e1,e2,_⟩
 ·rw[e1,e2];rfl
 ·rw[e1,e2];rfl
theorem CK{U:ae->List Int->Prop}{P:aI}{w:az}{d:ae}{h':ay}{xs:List (List Int×ae×aa)}{bw:List (List Int×V)}{H:Hp}(hm:h'.DictOfH (n9 (cv P w)) d xs)(hs:(d == iE)=false)(hp:DP U bw xs):dD P w H h' d (.ext (iy U d bw)):=by obtain⟨o,es,ep,h1,h2,h3,h4,h5,h6⟩:=hm;refine⟨⟨o,es,ep,xs,h1,h2,h3,hs,h4,h6,hp⟩,⟨o,h1⟩,?_⟩;rintro g1 g2 ⟨o,es,ep,xs,h1,h2,h3,hs,h4,h6,hp⟩ k;exact⟨o,es,ep,xs,k _ h1,h2,h3,hs,h4,h6,hp⟩
end
section
variable{X:Cx}{B:Bs}{W:Wi}
theorem iy.mono{U U':ae->List Int->Prop}{a:ae}{bw:List (List Int×V)}{xs:List (List Int×ae×aa)}(h:∀b ks,U b ks->U' b ks)(r:DP U bw xs):DP U' bw xs:=Paired.abd r fun p q z=>⟨z.1,h _ _ z.2.1,z.2.2⟩
noncomputable def afF(K:ai):Xq:=fun o i v H Q=>∃(b d:ae) (ks:List Int) (U U':ae->List Int->Prop) (bw:List (List Int×V)),o=.ref d/\i=.ref b/\iV K H b (ks.map V.int)/\H d=some (.ext (iy U d bw))/\(∀b ks,U b ks->U' b ks)/\(∀b ks,U' b ks->UG K H b ks)/\U' b ks/\bw.length<=1000000 /\
 Q (upd H d (.ext (iy U' d (Jm bw ks v))))
theorem ade(hu:X.A.units + 1 < bS):aez X (afF X.K):=by
 intro pins s σ H o i v ov iv u Q I ro ri rv ⟨b,d,ks,U,U',bw,e1,e2,hb,hd,hm,hU,hk,hz,q⟩;subst e1;subst e2;cases ro;cases ri;obtain⟨xs,hx,hs,hp,_⟩:=CJ I (Ek hd) fun b ks z=>hU b ks (hm b ks z);refine wpAny_setItem_heap (xC hu) (vq I hb) hx (fun h' hx' sb=>?_) (by rw[<- p9 hp];exact sz6 hz);refine⟨_,I.write (x:=d) (e:=d) (t':=_) (by rw[hd];trivial) (.inl rfl) (fun b' u' ne e=>?_) ?_ (CK hx' hs (Ur (iy.mono (a:=d) hm hp) hk rv)),q⟩
 ·exact(sb.2 b' ne).symm▸e
 ·obtain⟨o,_,_,e,_⟩:=hx';exact⟨o,e⟩
theorem Zc{pos:Pos}:PE X (.Dict [] [] pos) (fun _ H Q=>∀l,H l=none->Q (.ref l) (upd H l (.ext (iy (fun _ _=>False) l [])))):=by
 intro pins s σ H Q I h;have HJ:iE≠s.heap.objs.size:=fun z=>by have lt:=(I.mod.glob.keeps I.bk).lt;rw[<- z]at lt;exact absurd lt (by decide)
 refine wpAny_Dict_empty ⟨.ref s.heap.objs.size,_,I.laid (t':=s.toks) (fun b u e=>cm _ e) (bE _) (CK (.new s.heap) (by simpa using bz HJ) .nil),rfl,h _ I.fresh⟩
theorem Zd{i:Nat}{x:Str}{pos pos' lp:Pos}(hN:X.N.Nodup)(hi:X.N[i]?=some x)(hx:Kg X.env.scope x)(hs:eD (.Dict [] [] lp) (some (.Name x pos')) pos.line X.env=pure false:=by rfl)(hf:X.fn x=true∨X.env.scope.names.lookup x=some .local:=by first|exact .inl rfl|exact .inr rfl|assumption) :
  SS X B W (.Assign [.Name x pos'] (.Dict [] [] lp) pos) (fun ρ=>.nx (ρ.set i (.od []))):=by
 refine PS.imp (vP hN hi hx Zc hs hf) fun De σ H ⟨ρ,G,s,p⟩=>fun l hl=>?_;exact p _ _ G (s.Ig rfl ⟨_,[],rfl,fun _ _ z=>z.elim,.nil⟩ hl) (.refl _)
noncomputable def qQ:List D->Option (List Int)
 | []=>some []
 | .int i::ds=>(qQ ds).map (i::·)
 |_::_=>none
noncomputable def qp:D->Option (List Int)
 | .tup ds=>qQ ds
 |_=>none
theorem xM{K:ai}{G:Hp}:∀{ds:List D}{vs:List V}{ks:List Int},bA K G ds vs->qQ ds=some ks->vs=ks.map V.int
 | [],vs,ks,r,e=>by cases e;exact aZ.mp r
 |d::ds,vs,ks,r,e=>by
  obtain⟨v,vs',rfl,r1,r2⟩:=aG.mp r;cases d with
  |int i =>
   simp only[qQ]at e;cases e2:qQ ds with
   |none=>rw[e2]at e;cases e
   |some js =>
    rw[e2]at e;cases e;rw[aU.mp r1,xM r2 e2];rfl
  |_=>cases e
theorem CN{K:ai}{G:Hp}{d:D}{v:V}{ks:List Int}(r:Rep K G d v)(e:qp d=some ks):∃b,v=.ref b/\iV K G b (ks.map V.int):=by
 cases d with
 |tup ds =>
  obtain⟨a,vs,rfl,h,rr⟩:=bD.mp r;exact⟨a,rfl,xM rr e▸h⟩
 |_=>cases e
noncomputable def fV(kvs:List (List Int×D))(ks:List Int):Option D:=(kvs.find? fun p=>decide (p.1=ks)).map (·.2)
noncomputable def qR(kvs:List (List Int×D))(ks:List Int)(d:D):List (List Int×D):=if (fV kvs ks).isSome then kvs.map (fun p=>if p.1=ks then (p.1,d) else p) else kvs++[(ks,d)]
theorem cg.get{K:ai}{G:Hp}{ks:List Int}{kvs:List (List Int×D)}{bw:List (List Int×V)}(h:cg K G kvs bw):(fV kvs ks=none/\qm bw ks=none)∨∃d v,fV kvs ks=some d/\qm bw ks=some v/\Rep K G d v:=by
 induction h with
 |nil=>exact .inl ⟨rfl,rfl⟩
 | @cons k d v kvs bw r t ih =>
  by_cases c:k=ks
  ·exact .inr ⟨d,v,by simp[fV,ka,c],by simp[qm,ka,c],r⟩
  ·have e1:fV ((k,d)::kvs) ks=fV kvs ks:=by simp[fV,ka,c]
   have e2:qm ((k,v)::bw) ks=qm bw ks:=by simp[qm,ka,c]
   rw[e1,e2];exact ih
theorem cg.app{K:ai}{G:Hp}{k:List Int}{d:D}{v:V}{kvs:List (List Int×D)}{bw:List (List Int×V)}(h:cg K G kvs bw)(r:Rep K G d v):cg K G (kvs++[(k,d)]) (bw++[(k,v)]):=by
 induction h with
 |nil=>exact .cons r .nil
 |cons r1 _ ih=>exact .cons r1 ih
theorem cg.len{K:ai}{G:Hp}{kvs:List (List Int×D)}{bw:List (List Int×V)}(h:cg K G kvs bw):kvs.length=bw.length:=by
 induction h with
 |nil=>rfl
 |cons _ _ ih=>simp[ih]
theorem cg.put{K:ai}{G:Hp}{ks:List Int}{d:D}{v:V}{kvs:List (List Int×D)}{bw:List (List Int×V)}(h:cg K G kvs bw)(r:Rep K G d v):cg K G (qR kvs ks d) (Jm bw ks v):=by
 rcases h.get (ks:=ks) with ⟨e1,e2⟩|⟨_,_,e1,e2,_⟩
 ·unfold qR Jm;rw[e1,e2];exact h.app r
 ·unfold qR Jm;rw[e1,e2];show cg K G (kvs.map _) (bw.map _);clear e1 e2
  induction h with
  |nil=>exact .nil
  | @cons k d' v' kvs bw r1 _ ih =>
   by_cases c:k=ks
   ·simpa[c] using cg.cons r ih
   ·simpa[c] using cg.cons r1 ih
theorem SR.od{K:ai}{σ:St}{H G:Hp}{ρ:ak}(h:SR K B σ H ρ G){i:Nat}{kvs:List (List Int×D)}(q:ρ[i]?=some (.od kvs)) :
  ∃a U bw,σ[i]?=some (some (.ref a))/\H a=some (.ext (iy U a bw))/\G a=none/\B.2 a=none/\(∀b ks,U b ks->UG K G b ks)/\cg K G kvs bw:=by
 obtain⟨a,o,h1,h2,h3,h4,U,bw,rfl,h5,h6⟩:=h.own i _ q rfl;exact⟨a,U,bw,h1,h2,h3,h4,h5,h6⟩
noncomputable def jF(j:Nat)(f:ak->Rs D):ak->Rs D:=fun ρ=>(f ρ).bind fun k=>match qp k,ρ[j]? with|some ks,some (.od kvs)=>.ok (.bl (fV kvs ks).isSome)|_,_=>.no
theorem Us{σ:St}{H:Hp}{j:Nat}{f:ak->Rs D}{Q:VK}(h:tF X.K B W (jF j f) σ H Q):tOp (aaE X.K) (tF X.K B W f) (Aq j) σ H Q:=by
 obtain⟨ρ,G,s,p⟩:=h;refine⟨ρ,G,s,?_⟩;unfold jF at p;cases e:f ρ with
 |no=>rw[e]at p;exact p.elim
 |ex c n=>rw[e]at p;exact p
 |ok k =>
  rw[e]at p;intro v H' G' y r;have p':Post X.K W σ G H (match qp k,ρ[j]? with|some ks,some (.od kvs)=>.ok (.bl (fV kvs ks).isSome)|_,_=>.no) Q:=p;cases e1:qp k with
  |none=>rw[e1]at p';exact p'.elim
  |some ks =>
   rw[e1]at p';obtain⟨b,rfl,hb⟩:=CN r e1;cases e2:ρ[j]? with
   |none=>rw[e2]at p';exact p'.elim
   |some z =>
    rw[e2]at p';cases z with
    |od kvs =>
     obtain⟨d,U,bw,h1,h2,h3,h4,h5,h6⟩:=s.od e2;refine⟨_,h1,b,d,ks,U,bw,rfl,rfl,Same.dU y.gh hb,Ek (y.hh _ _ h2),fun c js z=>Same.dU (y.gg.trans y.gh) (h5 c js z),?_⟩;have:(qm bw ks).isSome=(fV kvs ks).isSome:=by rcases h6.get (ks:=ks) with ⟨q1,q2⟩|⟨_,_,q1,q2,_⟩ <;> rw[q1,q2] <;> rfl
     rw[this];exact p' _ H' G' y (cB.mpr rfl)
    |_=>exact p'.elim
end
section
variable{X:Cx}{B:Bs}{W:Wi}
theorem Ut{K:ai}{σ:St}{H G H' G':Hp}{ρ:ak}{j:Nat}{kvs:List (List Int×D)}{k:D}{v:V}{ks:List Int}(s:SR K B σ H ρ G)(q:ρ[j]?=some (.od kvs))(y:Ext G H G' H')(r:Rep K G' k v)(e:qp k=some ks) :
  ∃b d U bw,v=.ref b/\σ[j]?=some (some (.ref d))/\iV K H' b (ks.map V.int)/\UG K G' b ks/\H' d=some (.ext (iy U d bw))/\(∀b ks,U b ks->UG K G' b ks)/\(∀b ks,UG K G' b ks->UG K H' b ks)/\cg K G' kvs bw:=by
 obtain⟨b,rfl,hb⟩:=CN r e;obtain⟨d,U,bw,h1,h2,h3,h4,h5,h6⟩:=s.od q;exact⟨b,d,U,bw,rfl,h1,Same.dU y.gh hb,hb,y.hh _ _ h2,fun c js z=>Same.dU y.gg (h5 c js z),fun c js z=>Same.dU y.gh z,h6.mono y.gg⟩
noncomputable def oM(j:Nat)(fe fk:ak->Rs D):ak->Ou:=fun ρ=>oR (fe ρ) ρ fun v=>match ρ[j]? with
 |some (.od kvs)=>oR (fk ρ) ρ fun k=>(match qp k with
  |some ks=>if kvs.length<=1000000 then .nx (ρ.set j (.od (qR kvs ks v))) else .no
  |none=>.no)
 |_=>.no
theorem Ze{e b:ah}{x:Str}{p1 tp pos:Pos}{j:Nat}{fe fk:ak->Rs D}(hu:X.A.units + 1 < bS)(he:SE X B W e fe)(hv:PE X (.Name x p1) (Aq j))(hb:SE X B W b fk)
  (hs:oi [.Subscript (.Name x p1) b tp] e pos.line X.env=pure false:=by rfl) (hw:oj [.Subscript (.Name x p1) b tp] e X.env=pure none:=by rfl)
  (h1:(f9 [.Subscript (.Name x p1) b tp] X.env).map (·.2)=[assign (.Subscript (.Name x p1) b tp) X.env]:=by rfl)
  (ha:∀v,assign (.Subscript (.Name x p1) b tp) X.env v=(do
   let ov <- gf [v] (bb (.Name x p1) X.env)
   let iv <- gf [v,ov] (bb b X.env)
   oa tp
   gf [v,ov,iv] (setItem ov iv v)
   release [v,ov,iv] []):=by intro _;rfl) :
  SS X B W (.Assign [.Subscript (.Name x p1) b tp] e pos) (oM j fe fk):=by
 refine PS.imp (Ql he (abu hv hb (ade hu) ha) hs hw h1) fun De σ H dF=>?_;obtain⟨ρ,G,s,p⟩:=dF;unfold oM at p;refine⟨ρ,G,s,fQ s p fun d v H' G' _ y r p'=>?_⟩;cases e2:ρ[j]? with
 |none=>rw[e2]at p';exact p'.elim
 |some z =>
  rw[e2]at p';cases z with
  |od kvs =>
   have s':=s.ext y;obtain⟨d0,U0,yS,h1,h2,_⟩:=s'.od e2;refine⟨_,h1,ρ,G',s',fQ s' p' fun k v2 H2 G2 _ y2 r2 p2=>?_⟩;cases e1:qp k with
   |none=>rw[e1]at p2;exact p2.elim
   |some ks =>
    rw[e1]at p2;dsimp only at p2;by_cases hl:kvs.length<=1000000
    ·rw[if_pos hl]at p2;obtain⟨b',d1,U,bw,rfl,q1,q2,q3,q4,q5,q6,q7⟩:=Ut s' e2 y2 r2 e1;rw[h1]at q1;cases q1;refine⟨b',d0,ks,U,UG X.K G2,bw,rfl,rfl,q2,q4,q5,q6,q3,by rw[<- q7.len];exact hl,?_⟩;exact p2 σ _ G2 ((s'.ext y2).rH e2 rfl h1 rfl ⟨UG X.K G2,_,rfl,fun _ _ z=>z,q7.put (r.mono y2.gg)⟩) (.refl _)
    ·rw[if_neg hl]at p2;exact p2.elim
  |_=>exact p'.elim
end
section
variable{X:Cx}{B:Bs}{W:Wi}
end
noncomputable def Uu(i:Nat):ak->Ou:=fun ρ=>.nx (ρ.set i (.od []))
section
variable{X:Cx}{B:Bs}{W:Wi}
theorem Jo(i:Nat){x:Str}{pos pos' lp:Pos}(hN:X.N.Nodup)(hi:X.N[i]?=some x:=by rfl)(hx:Kg X.env.scope x:=by first|exact Or.inl rfl|exact Or.inr rfl)(hs:eD (.Dict [] [] lp) (some (.Name x pos')) pos.line X.env=pure false:=by rfl)(hf:X.fn x=true∨X.env.scope.names.lookup x=some .local:=by first|exact .inl rfl|exact .inr rfl|assumption) :
  SS X B W (.Assign [.Name x pos'] (.Dict [] [] lp) pos) (Uu i):=Zd hN hi hx hs hf
theorem aaF(h:X.A.units + 8 < bS):X.A.units + 1 < bS:=by lia
theorem CP(j:Nat){a:ah}{x:Str}{p1 pos:Pos}{f:ak->Rs D}(hu:X.A.units + 8 < bS)(ha:SE X B W a f)(hN:X.N[j]?=some x:=by rfl)(hv:DW X.env.scope x:=by first|exact Or.inl rfl|exact Or.inr (Or.inl rfl)|exact Or.inr (Or.inr rfl))(hd:pK x:=by decide)
  (hcd:HF x:=by decide) (hm:iF .In (.Name x p1)=false:=by rfl):ST X B W (.Compare a [.In] [.Name x p1] pos) (fT (jF j f)):=by
 refine PT.imp (Kq (Zb (aaF hu)) ha (gP hN hv hd hcd) hm) fun σ H Q h=>?_;exact Us (Rb h)
theorem sG(j:Nat){e b:ah}{x:Str}{p1 tp pos:Pos}{fe fk:ak->Rs D}(hu:X.A.units + 8 < bS)(he:SE X B W e fe)(hb:SE X B W b fk)(hN:X.N[j]?=some x:=by rfl)(hv:DW X.env.scope x:=by first|exact Or.inl rfl|exact Or.inr (Or.inl rfl)|exact Or.inr (Or.inr rfl))(hd:pK x:=by decide)
  (hcd:HF x:=by decide)
  (hs:oi [.Subscript (.Name x p1) b tp] e pos.line X.env=pure false:=by rfl) (hw:oj [.Subscript (.Name x p1) b tp] e X.env=pure none:=by rfl)
  (h1:(f9 [.Subscript (.Name x p1) b tp] X.env).map (·.2)=[assign (.Subscript (.Name x p1) b tp) X.env]:=by rfl)
  (ha:∀v,assign (.Subscript (.Name x p1) b tp) X.env v=(do
   let ov <- gf [v] (bb (.Name x p1) X.env)
   let iv <- gf [v,ov] (bb b X.env)
   oa tp
   gf [v,ov,iv] (setItem ov iv v)
   release [v,ov,iv] []):=by intro _;rfl) :
  SS X B W (.Assign [.Subscript (.Name x p1) b tp] e pos) (oM j fe fk):=Ze (aaF hu) he (gP hN hv hd hcd) hb hs hw h1 ha
end
section
variable{X:Cx}{K:ai}{B:Bs}{W:Wi}{σ:St}{G H:Hp}{ρ:ak}{a b c:ah}{pos:Pos}{fa fb fc:ak->Rs D}
noncomputable def sH:List D->Rs D
 | [.int i,.int j]=>.ok (.int (if j < i then j else i))
 |_=>.no
theorem Zf:nD K (fun xs H Q=>∃i j,xs=[V.int i,.int j]/\Q (.int (if j < i then j else i)) H) sH:=by
 intro B W σ ρ G H ds vs Q s r p
 match ds,p,r with
 | [.int i,.int j],p,r =>
  obtain⟨v1,vs1,rfl,r1,r2⟩:=aG.mp r;obtain⟨v2,vs2,rfl,r3,r4⟩:=aG.mp r2;cases aZ.mp r4;exact⟨i,j,by rw[aU.mp r1,aU.mp r3],p _ H G s.yK (aU.mpr rfl)⟩
theorem CQ{e e':ah}{p pos:Pos}(hc:X.calm=true) (hm:X.mg "min"=none) (ha:SE X B W e fa) (hb:SE X B W e' fb) (hg:Gl X "min":=by rfl) (he:ba [e,e'] X.env=[(false,bb e X.env),(false,bb e' X.env)]:=by rfl) (he':ba [e'] X.env=[(false,bb e' X.env)]:=by rfl) :
  SE X B W (.Call (.Name "min" p) [e,e'] [] pos) (fA (aj fa (aj fb aO)) sH) :=
 jP (Nx hc) Zf hg hm rfl (aD ha (aD hb aR he') (by rw[he,he'])) (by decide) (by decide) (by rw[he,he']) (by rw[he'];rfl)
end
section
variable{X:Cx}{B:Bs}{W:Wi}
end
end Vl
namespace L2
open PySem PySem.Spec PyProof.Rows
section
variable{X:Cx}{pins:List (ae×Obj)}{σ:List (Option V)}{H:Hp}{s:af}{h':ay}
theorem Inv.Gn{t':Nat}{ch:List ae}{T:ae}{o:HO}(I:Inv X pins σ H s)(k:∀b u,b∉ch->s.heap.get? b=some u->h'.get? b=some u)(hf:∀b∈ch,lu X pins H b)(hT:s.heap.objs.size<=T)
  (new:dD X.prog X.w (upd H T o) h' T o):Inv X pins σ (upd H T o) { s with heap:=h',toks:=t' }:=by
 have fr:H T=none:=I.hok.fresh hT;have neT:∀b u,s.heap.get? b=some u->b≠T:=fun b u e=>cn (dA (bu e) hT);have tr:∀b u,H b=some u->b≠T:=fun b u e=>aM e fr;have Kh:∀b u,H b=some u->b∉ch:=fun b u e z=>by rw[(hf b z).1]at e;cases e
 refine I.step (g':=s.gens) (d':=s.drawn) (ch:=ch) (fun b hb=>⟨(hf b hb).2.2.2.1,(hf b hb).2.1,(hf b hb).2.2.2.2.1,(hf b hb).2.2.2.2.2⟩) (fun b o _ _ hc e _=>k b o hc e) (fun b o _ _ hc e _=>⟨o.slots,k b o hc e⟩) (fun b o _ e n=>by rw[aL (neT b o e)];exact n)
  (fun b o hc e=>⟨o,k b o hc e⟩) (fun b xs e=>by rw[aL (tr _ _ e)];exact e) (fun b o u e=>by rw[aL (tr _ _ e)];exact e) (fun b ps e=>⟨#[],by rw[aL (tr _ _ e),e];simp⟩) (fun m hm=>?_) (fun b u e=>?_) I.bare
 ·obtain⟨o,es,ep,ho,r⟩:=hm;exact⟨o,es,ep,k _ o (fun z=>(hf _ z).2.1 rfl) ho,r⟩
 ·by_cases hb:b=T
  ·subst hb;rw[aQ]at e;cases e;exact new
  ·rw[aL hb]at e;refine(I.hok b u e).stay (fun c v hc q=>k c v ?_ q) (fun c q=>by rw[aL (tr _ _ q)];exact q) (fun c xs q=>by rw[aL (tr _ _ q)];exact q) fun c xs q=>by rw[aL (tr _ _ q)];exact q
   rcases hc with z|z
   ·rw[z];exact Kh b u e
   ·exact Kh c _ z
theorem Inv.LQ{t':Nat}{ch:List ae}(I:Inv X pins σ H s)(k:∀b u,b∉ch->s.heap.get? b=some u->h'.get? b=some u)(hf:∀b∈ch,lu X pins H b):Inv X pins σ H { s with heap:=h',toks:=t' }:=by
 have Kh:∀b u,H b=some u->b∉ch:=fun b u e z=>by rw[(hf b z).1]at e;cases e
 refine I.step (g':=s.gens) (d':=s.drawn) (ch:=ch) (fun b hb=>⟨(hf b hb).2.2.2.1,(hf b hb).2.1,(hf b hb).2.2.2.2.1,(hf b hb).2.2.2.2.2⟩) (fun b o _ _ hc e _=>k b o hc e) (fun b o _ _ hc e _=>⟨o.slots,k b o hc e⟩) (fun _ _ _ _ n=>n)
  (fun b o hc e=>⟨o,k b o hc e⟩) (fun _ _ e=>e) (fun _ _ _ e=>e) (fun b ps e=>⟨#[],by rw[e];simp⟩) (fun m hm=>?_) (fun b u e=>?_) I.bare
 ·obtain⟨o,es,ep,ho,r⟩:=hm;exact⟨o,es,ep,k _ o (fun z=>(hf _ z).2.1 rfl) ho,r⟩
 ·refine(I.hok b u e).stay (fun c v hc q=>k c v ?_ q) (fun _ q=>q) (fun _ _ q=>q) fun _ _ q=>q;rcases hc with z|z
  ·rw[z];exact Kh b u e
  ·exact Kh c _ z
end
section
variable{X:Cx}
end
end L2
namespace Vl
open PySem PySem.Spec L2
section
variable{X:Cx}{B:Bs}{W:Wi}
end
end Vl
namespace PySem
namespace Rvd
theorem OD:Slot "reversed" "__init__" "object.__init__" :=
 .of (owner:="object") (n:="__init__") (by rw[w6,w8];kernel_rfl) (by decide+kernel) (by decide+kernel) (by decide+kernel)
  (by first|exact .inl (by decide+kernel)|exact .inr (by decide+kernel)) (by rw[mf];kernel_rfl)
theorem ahX:TypeCalled "reversed" "reversed.__new__" "object.__init__" :=
 ⟨by decide+kernel,by decide+kernel,⟨_,_,F.mro_reversed⟩,F.made_reversed,by decide+kernel,by rw[mf];kernel_rfl,OD⟩
end Rvd
section
variable{prog:aI}{w:az}{A:aT}{E:aa->af->Prop}{s:af}
end
end PySem
namespace PySem
open PyProof.Rows (IsTup)
section
variable{prog:aI}{w:az}{A:aT}{E:aa->af->Prop}{s:af}
end
section
variable{prog:aI}{w:az}{A:aT}{E:aa->af->Prop}{s:af}
end
end PySem
namespace Vl
open PySem PySem.Spec L2
section
variable{X:Cx}{B:Bs}{W:Wi}{K:ai}
end
end Vl
namespace Vl
open PySem PySem.Spec PySem.Calls PySem.W L2
structure ahY (K:ai)(x:Str)(st:bo)(f:ae)(fd:dn)(ps:List Str):Prop where
 ex:∃(oc:aa) (od:Option ae) (dV kV doc pm:aa) (an:Option ae) (cdv ct:aa) (osl:Array (Option aa)),
  fd=iL x x (fO st) (cu st) (aF st) dV kV doc pm an cdv ct/\K.lookup f=some ⟨oc,od,.func fd,osl⟩/\ox K cdv x=true
 kp:ij K (.ref f)=true
 bi:Binds K fd ps []
end Vl
namespace Vl
open PySem PySem.Spec L2
section
variable{X:Cx}{K:ai}{B:Bs}{W:Wi}{σ:St}{G H:Hp}{ρ:ak}{a b c:ah}{pos:Pos}{fa fb fc:ak->Rs D}
noncomputable def Gp:List D->Rs D
 | [.int i,.int j]=>.ok (.int (if j > i then j else i))
 |_=>.no
theorem Zg:nD K (fun xs H Q=>∃i j,xs=[V.int i,.int j]/\Q (.int (if j > i then j else i)) H) Gp:=by
 intro B W σ ρ G H ds vs Q s r p
 match ds,p,r with
 | [.int i,.int j],p,r =>
  obtain⟨v1,vs1,rfl,r1,r2⟩:=aG.mp r;obtain⟨v2,vs2,rfl,r3,r4⟩:=aG.mp r2;cases aZ.mp r4;exact⟨i,j,by rw[aU.mp r1,aU.mp r3],p _ H G s.yK (aU.mpr rfl)⟩
theorem Ma{e e':ah}{p pos:Pos}(hc:X.calm=true) (hm:X.mg "max"=none) (ha:SE X B W e fa) (hb:SE X B W e' fb) (hg:Gl X "max":=by rfl) (he:ba [e,e'] X.env=[(false,bb e X.env),(false,bb e' X.env)]:=by rfl) (he':ba [e'] X.env=[(false,bb e' X.env)]:=by rfl) :
  SE X B W (.Call (.Name "max" p) [e,e'] [] pos) (fA (aj fa (aj fb aO)) Gp) :=
 jP (Nv hc) Zg hg hm rfl (aD ha (aD hb aR he') (by rw[he,he'])) (by decide) (by decide) (by rw[he,he']) (by rw[he'];rfl)
end
noncomputable def Gq:List D->Rs (List D)
 | [.int m,.int n]=>if (-(2 ^ 62)<=m/\m < 2 ^ 62/\-(2 ^ 62)<=n/\n < 2 ^ 62) then .ok ((b_ (n - m).toNat).map fun(i:Nat)=>.int (m + i)) else .no
 |_=>.no
noncomputable def Uv(fs:ak->Rs (List D))(g:List D->Rs (List D)):ak->Rs (List D):=fun ρ=>(fs ρ).bind g
section
variable{X:Cx}{B:Bs}{W:Wi}
theorem OJ{tg e e':ah}{p1 p2:Pos}{f f':ak->Rs D}(hm:X.mg "range"=none) (hi:SE X B W e f) (hi':SE X B W e' f') (hgl:Gl X "range":=by rfl) (hst:ba [e,e'] X.env=[(false,bb e X.env),(false,bb e' X.env)]:=by rfl) (hst2:ba [e'] X.env=[(false,bb e' X.env)]:=by rfl) :
  SI X B W tg (.Call (.Name "range" p1) [e,e'] [] p2) (Uv (aj f (aj f' aO)) Gq):=by
 refine PI.imp (zc hgl hm (aD hi (aD hi' aR (by rw[hst2];rfl)) (by rw[hst,hst2])) hst hst2) fun σ H R ⟨ρ,G,s,p⟩=>⟨ρ,G,s,?_⟩
 unfold Uv at p;cases e1:aj f (aj f' aO) ρ with
 |ok ds =>
  rw[e1]at p;intro vs H1 G1 e r;have p':Ez X.K W σ G H (Gq ds) R:=p;unfold Gq at p';split at p'
  ·rename_i m n;by_cases c:(-(2 ^ 62)<=m/\m < 2 ^ 62/\-(2 ^ 62)<=n/\n < 2 ^ 62)
   ·rw[if_pos c]at p';obtain⟨v1,vs1,rfl,r1,r2⟩:=aG.mp r;obtain⟨v2,vs2,rfl,r3,r4⟩:=aG.mp r2;cases aZ.mp r4;exact⟨m,n,by rw[aU.mp r1,aU.mp r3],c,p' _ H1 G1 e RK⟩
   ·rw[if_neg c]at p';exact p'.elim
  ·exact p'.elim
 |ex c n=>rw[e1]at p;exact p
 |no=>rw[e1]at p;exact p
end
end Vl
namespace Dk
open PySem PySem.Spec
section
variable{prog:aI}{w:az}{A:aT}{E:aa->af->Prop}{s:af}{d it:ae}{es:Array mP}{ep:Nat}
noncomputable def qT(h:ay)(d:ae)(es:Array mP)(ep:Nat):Prop:=∃o,h.get? d=some o/\o.ExactDict/\o.data=.dict es ep
theorem qT.ty(x:qT s.heap d es ep):s.TypeIs (.ref d) "dict":=let ⟨o,ho,hc,_⟩:=x;⟨o,ho,hc.1⟩
theorem qT.go{h h':ay}(x:qT h d es ep)(e:∀o,h.get? d=some o->h'.get? d=some o):qT h' d es ep:=let ⟨o,ho,r⟩:=x;⟨o,e o ho,r⟩
noncomputable def kit(d:ae)(i n ep:Nat):Obj:={ cls:=.type "dict_keyiterator",data:=.fields #[.ref d,.int i 0,.int n 0,.int ep 0] }
theorem adf{h:ay}{i n:Nat}(e:h.get? it=some (kit d i n ep)):h.IsKeyIter it d i n ep:=⟨_,e,rfl,rfl⟩
theorem afG{Q:aa->af->Prop}(hd:(d == iE)=false)(hm:qT s.heap d es ep)(hQ:Q (.ref s.heap.objs.size) { s with heap:=s.heap.push (kit d 0 es.size ep) }):ar (aw prog w) A (kU (.ref d)) Q E s:=by obtain⟨o,ho,hc,hdat⟩:=id hm;refine w9 hm.ty F.slot_dict_iter (g9 F.slot_dict_iter hm.ty F.entry_dict_iter ?_ (F.args_dict_iter_1 _));unfold Builtin.«dict.__iter__» cz.Dict.dictSlotNone;refine ag (ag (wpAny_notOrdered_dict hm.ty ?_));show ar _ _ (pure (aa.ref d)) _ _ s;refine aS ?_;show ar _ _ (cz.Dict.showsAll d >>= _) _ _ s;unfold cz.Dict.showsAll;rw[if_neg (by rw[hd];exact ui)];refine ag (aS (ag (nS ho hdat (ag (xD ho hdat ?_)))));exact ag (gN (aS ⟨_,rfl,"dict_keyiterator",_,⟨_,cE _ rfl,rfl⟩,pS.lookup,hQ⟩))
theorem afH{i:Nat}{Q:Option aa->af->Prop}(hit:s.heap.IsKeyIter it d i es.size ep)(hm:qT s.heap d es ep)(hx:i < es.size)
  (hQ:∀h',h'.IsKeyIter it d (i + 1) es.size ep->dQ it s.heap h'->Q (some es[i].key) { s with heap:=h' }):ar (aw prog w) A (fy (.ref it)) Q E s:=by
 obtain⟨o,ho,hc,hd⟩:=id hit;obtain⟨od,hod,hcd,hdd⟩:=id hm;unfold fy;refine ag (ml (j8 (name:=i6 "__next__") hit.typeIs pS (g9 pS hit.typeIs F.entry_dict_keyiterator_next ?_ (F.args_dict_keyiterator_next_1 _))));refine ag (aS (ag (ag (ag ?_))))
 first|refine sT hit.typeIs (aS ?_)|refine s_ hit.typeIs (aS ?_)
 refine ag (r_ ho hd ?_);simp only[show cz.Dict_items.ownsTuple "dict_keyiterator"=false by decide,bP,if_false];show ar _ _ (if (aa.ref d == aa.none)=true then _ else _) _ _ s;rw[if_neg (by intro z;cases z)];refine ag (aS (ag (nS hod hdd ?_)));rw[if_neg (by simp)];refine ag (aS (ag (xD hod hdd ?_)));rw[if_neg (by simp)];refine aS ?_;simp only[show ¬((i:Int) < 0) from by lia,if_false,kz,nE hx];refine ag (ag ?_)
 first|refine sT hit.typeIs (aS ?_)|refine s_ hit.typeIs (aS ?_)
 refine ag (wpAny_isOneOf_keyiter hit.typeIs ?_);show ar _ _ (setField (.ref it) 1 (cx ((i:Int) + 1)) >>= _) _ _ s;refine ag (iS ho hd (by simp) ?_);have hit':(s.heap.update it (ik (·.setIfInBounds 1 (cx ((i:Int) + 1))))).IsKeyIter it d (i + 1) es.size ep :=
  ⟨_,gS _ ho (m8 (j3 hd _)),(u_ ..).trans hc,by rw[j3 hd];simp[cx]⟩
 refine ag (f_ (ag ?_));refine wpAny_isOneOf_keyiter (s:={ s with heap:=s.heap.update it (ik (·.setIfInBounds 1 (cx ((i:Int) + 1)))) }) hit'.typeIs ?_;show ar _ _ (pure es[i].key) _ _ _;exact aS (aS ⟨_,rfl,aS (hQ _ hit' (i4 ..))⟩)
theorem ahZ{Q:Option aa->af->Prop}(hh:A.handled=none)(hit:s.heap.IsKeyIter it d es.size es.size ep)(hm:qT s.heap d es ep)
  (hQ:∀h',xf it s.heap h'->Q none { s with heap:=h' }):ar (aw prog w) A (fy (.ref it)) Q E s:=by
 obtain⟨o,ho,hc,hd⟩:=id hit;obtain⟨od,hod,hcd,hdd⟩:=id hm;unfold fy;refine ag (ml (j8 (name:=i6 "__next__") hit.typeIs pS (g9 pS hit.typeIs F.entry_dict_keyiterator_next ?_ (F.args_dict_keyiterator_next_1 _))));refine ag (aS (ag (ag (ag ?_))))
 first|refine sT hit.typeIs (aS ?_)|refine s_ hit.typeIs (aS ?_)
 refine ag (r_ ho hd ?_);simp only[show cz.Dict_items.ownsTuple "dict_keyiterator"=false by decide,bP,if_false];show ar _ _ (if (aa.ref d == aa.none)=true then _ else _) _ _ s;rw[if_neg (by intro z;cases z)];refine ag (aS (ag (nS hod hdd ?_)));rw[if_neg (by simp)];refine ag (aS (ag (xD hod hdd ?_)));rw[if_neg (by simp)];refine aS ?_;simp only[show ¬((es.size:Int) < 0) from by lia,if_false,kz,se (bE _)];refine ag (ag ?_)
 first|refine sT hit.typeIs (aS ?_)|refine s_ hit.typeIs (aS ?_)
 show ar _ _ (setField (.ref it) 0 .none >>= _) _ _ s;refine ag (iS ho hd (by simp) ?_);show ar _ _ (newExc (.type "StopIteration") [] >>= _) _ _ _;refine ag ?_;simp only[newExc,newTuple];refine ag (gN ?_ (by size_fits));refine ag (m:=nB _ _) (rV (a:=aa.none) (by first|rfl|(simp only[nB];rfl)) ?_);refine gN ?_ (by size_fits);simp only[raiseNew];refine ag (xh ?_);rw[show A.in1.handled=none from hh];refine ag (aS (qE ?_));refine ag (o7 (T:="StopIteration") (b:=true) ⟨_,cE _ rfl,rfl⟩ xi ?_);exact aS (hQ _ (((i4 ..).extBut.push _).push _))
theorem adg(hh:A.handled=none)(hne:d≠it) :
  Walks prog w A it [it,d] [it] es.size (fun i v=>∃e,es[i]?=some e/\v=e.key) (fun i h=>h.IsKeyIter it d i es.size ep/\qT h d es ep) where
 sub:=fun b hb=>by simp at hb;simp[hb]
 frame:=fun _ _ _ st hk=>⟨st.1.at fun o e=>hk it (by simp) o e,st.2.go fun o e=>hk d (by simp) o e⟩
 item:=fun i s Q E hi st hQ=>afH st.1 st.2 hi fun h' hI hs=>hQ _ h' s.toks ⟨_,nE hi,rfl⟩ ⟨hI,st.2.go fun o e=>(hs.2 d hne).trans e⟩ fun b o hb e=>(hs.2 b (fun z=>hb (by simp[z]))).trans e
 done:=fun s Q E st hQ=>ahZ hh st.1 st.2 fun h' he=>hQ h' s.toks fun b o hb e=>he b o (fun z=>hb (by simp[z])) e
 self:=fun _ _ _ _ st hQ=>wpAny_pyIter_keyiter st.1 hQ
theorem afI{Q:Bool->af->Prop}(hm:qT s.heap d es ep)(h:Q false s):ar (aw prog w) A (sf (.ref d)) Q E s:=by
 unfold sf;refine ag (wb hm.ty xF.lookup ?_);have e1:splitId "dict.__len__"=some ("dict","__len__"):=by kernel_rfl
 simp only[e1];refine ag (o7 (b:=true) hm.ty (by rw[mf];kernel_rfl) ?_);simp only[eK,bP,if_false];have pick:∀{c:Bool}{x y:Sem Bool},c=true->ar (aw prog w) A x Q E s->ar (aw prog w) A (if c=true then x else y) Q E s:=fun {c x y} hc hy=>by rw[hc];exact hy
 refine pick (by decide+kernel) ?_;exact ag (nh hm.ty (aS h))
noncomputable abbrev bO:Obj:=Tb.bO
theorem Uw{D:ae}{Q:List aa->af->Prop}(hh:A.handled=none)(hd:(D == iE)=false)(ho:qT s.heap D es ep)(hn:es.size<=4900)
  (hQ:∀h' tk,(∀b o,s.heap.get? b=some o->h'.get? b=some o)->s.heap.objs.size<=h'.objs.size->Q (es.toList.map (·.key)) { s with heap:=h',toks:=tk }):ar (aw prog w) A (collect (.ref D)) Q E s:=by
 have uh:D < s.heap.objs.size:=by obtain⟨o,e,_⟩:=id ho;exact bu e
 unfold collect;refine ag (o3 (i5 F.entry_proto_collect ?_));rw[me F.plain_proto_collect _];show ar _ A.in1 (newList [] >>= fun l=>again (.builtin "list.__iadd__" ⟨[l,.ref D],[]⟩)) _ _ s;refine ag (gN ?_);refine aS ⟨ny sg _,i5 F.entry_list_iadd ?_⟩;rw[me sg _];have p1:∀b o,s.heap.get? b=some o->(s.heap.push bO).get? b=some o:=fun b o e=>cm _ e;have hD1:qT (s.heap.push bO) D es ep:=ho.go fun o e=>p1 _ _ e;have hS1:(s.heap.push bO).get? s.heap.objs.size=some bO:=cE _ rfl;show ar _ A.in1 (nI (.ref s.heap.objs.size) (.ref D) (.ref s.heap.objs.size)) _ _ _;unfold nI;have hT:we { s with heap:=s.heap.push bO } (.ref D) "dict":=qT.ty (s:={ s with heap:=s.heap.push bO }) hD1;refine ag (nh hT ?_);have k1:si (.ref s.heap.objs.size) (.ref D)=false:=by simp[si];exact i9 uh
 have k2:(aa.type "dict" == aa.type "list")=false:=by decide
 have k3:(aa.type "dict" == aa.type "tuple")=false:=by decide
 simp only[k1,k2,k3,wa,bP,if_false];refine ag (afG hd hD1 ?_);have p2:∀b o,(s.heap.push bO).get? b=some o->((s.heap.push bO).push (kit D 0 es.size ep)).get? b=some o:=fun b o e=>cm _ e;have hD2:qT ((s.heap.push bO).push (kit D 0 es.size ep)) D es ep:=hD1.go fun o e=>p2 _ _ e;have hS2:=p2 _ _ hS1;have hI2:((s.heap.push bO).push (kit D 0 es.size ep)).get? (s.heap.push bO).objs.size=some (kit D 0 es.size ep):=cE _ rfl;have Ci:(s.heap.push bO).objs.size=s.heap.objs.size + 1:=j4 ..;refine ag (f_ (afI hD2 ?_));have pick:∀{c:Bool}{x y:Sem nK}{R:nK->af->Prop}{F':aa->af->Prop}{s':af},c=true->ar (aw prog w) A.in1 x R F' s'->ar (aw prog w) A.in1 (if c=true then x else y) R F' s':=fun {c x y R F' s'} hc hy=>by rw[hc];exact hy
 refine pick (by decide+kernel) ?_;refine ag (iq ?_);refine ag ?_;show ar _ A.in1 (sj s.heap.objs.size (·.push .none) >>= fun _=>sj s.heap.objs.size (·.pop)) _ _ _;refine ag (o8 hS2 rfl ?_);have hS3:=gS (eA (·.push aa.none)) hS2 rfl;refine o8 hS3 rfl ?_;have yO:=gS (eA (·.pop)) hS3 rfl;generalize hH:(((s.heap.push bO).push (kit D 0 es.size ep)).update s.heap.objs.size (eA (·.push aa.none))).update s.heap.objs.size (eA (·.pop))=H at yO;have oth:∀b o,b≠s.heap.objs.size->((s.heap.push bO).push (kit D 0 es.size ep)).get? b=some o->H.get? b=some o:=fun b o hb e=>by rw[<- hH];exact(jS _ _ (bz hb)).trans ((jS _ _ (bz hb)).trans e)
 have W:=(adg (prog:=prog) (w:=w) (A:=A.in1) (d:=D) (it:=(s.heap.push bO).objs.size) (es:=es) (ep:=ep) (by simpa using hh) (by rw[Ci];exact cn (ky uh))).toS;have hSf:s.heap.objs.size∉[(s.heap.push bO).objs.size,D]:=by simp only[br,da,or_false,not_or];exact⟨by rw[Ci];exact cn (xj _),i9 uh⟩
 refine aS ⟨ny F.plain_extend_loop _,codeAny_extend_loopS W (by rw[ef];lia) s.heap.objs.size hSf _ es.size 0 _ _ _ rfl (d_ _) ⟨adf (oth _ _ (by rw[Ci];exact wt _) hI2),hD2.go fun o e=>oth _ _ (cn uh) e⟩ yO (ItemsOf.nil _) fun s' acc c hm hS' hacc=>?_⟩;show ar _ A (load s.heap.objs.size >>= _) _ _ s';refine ag (qh hS' ?_);have hacc':acc.toList=es.toList.map (·.key):=by
  apply xk;intro i;rw[cK,j9,j9];cases e:acc[i]? with
  |some v =>
   obtain⟨x,hx,rfl⟩:=hacc.2 i v e;rw[hx];rfl
  |none =>
   have:acc.size<=i:=by simpa using e
   rw[hacc.1]at this;rw[se this];rfl
 obtain⟨h',g',d',tk',os'⟩:=s';have eg:g'=s.gens:=hm.gens;have ed:d'=s.drawn:=hm.drawn;have eo:os'=s.os:=hm.os;subst eg ed eo;show ar _ _ (pure acc.toList) _ _ _;rw[hacc'];refine aS (hQ h' tk' (fun b o e=>hm.heap b o ?_ (oth b o (cn (bu e)) (p2 _ _ (p1 _ _ e)))) (gx (bu hS')));simp only[br,da,or_false,not_or];exact⟨cn (bu e),by rw[Ci];exact cn (ky (bu e))⟩
end
end Dk
namespace Vl
open PySem PySem.Spec L2 So Tb
section
variable{X:Cx}{B:Bs}{W:Wi}{K:ai}
noncomputable def adh(K:ai):List V->Hp->VK->Prop:=fun xs H Q=>∃(a:ae) (U:ae->List Int->Prop) (bw:List (List Int×V)),xs=[.ref a]/\Kw H a U bw/\(∀b ks,U b ks->UG K H b ks)/\bw.length < 4900/\(∀p∈bw,p.1≠[]) /\
 ∀l zs,H l=none->zs.length=(bH (bw.map (·.1))).length->(∀(i:Nat) v,zs[i]?=some v->∃b,v=.ref b/\U b ((bH (bw.map (·.1))).getD i []))->Q (.ref l) (upd H l (.lst zs))
theorem uP{U:ae->List Int->Prop}:∀{bw:List (List Int×V)}{xs:List (List Int×ae×aa)},Paired (fun(p:List Int×V) (q:List Int×ae×aa)=>p.1=q.1/\U q.2.1 q.1/\RelV p.2 q.2.2) bw xs ->
  xs.map (·.1)=bw.map (·.1)/\∀x∈xs,U x.2.1 x.1
 | [],_,.nil=>⟨rfl,fun _ h=>by cases h⟩
 |p::bw,q::xs,.cons r t=>by
  obtain⟨e,m⟩:=uP t;refine⟨by rw[bX,bX,e,r.1],fun x hx=>?_⟩;rcases br.mp hx with rfl|hx
  ·exact r.2.1
  ·exact m x hx
theorem Jp(hc:X.calm=true):eF X (.builtin "sorted") (adh X.K):=by
 intro pins s σ H xs us Q I r h;obtain⟨a,U,bw,rfl,hH,hU,hz,hne,q⟩:=h;obtain⟨u,rfl,rx⟩:=r.one;cases rx;obtain⟨φ,hH,hφ⟩:=hH;obtain⟨o,es,ep,ys,ho,hx,hdat,hsys,hes,hnd,hp⟩:=hφ _ (I.hok _ _ hH).1;obtain⟨ek,hu⟩:=uP hp;have hlen:ys.length=bw.length:=by have:=congrArg jb ek;simpa using this
 have hsz:es.size=ys.length:=by have:=congrArg jb hes;simpa using this
 have evs:es.toList.map (·.key)=ys.map fun x=>aa.ref x.2.1:=by rw[hes,gr];rfl
 have each:∀(i:Nat) v,(ys.map fun x=>aa.ref x.2.1)[i]?=some v->∃b,v=.ref b/\c_ (cv X.prog X.w) s.heap ((ys.map (·.1)).getD i []) b/\U b ((ys.map (·.1)).getD i []):=fun i v hv=>by
  rw[cK]at hv;cases e:ys[i]? with
  |none=>rw[e]at hv;cases hv
  |some x =>
   rw[e]at hv;have hg:(ys.map (·.1)).getD i []=x.1:=by rw[gm,cK,e];rfl
   rw[hg];have hux:=hu x (jI e);exact⟨x.2.1,(dE hv).symm,xu I (hU _ _ hux),hux⟩
 have hd0:Dk.qT s.heap a es ep:=⟨o,ho,hx,hdat⟩
 refine So.pW (vs:=ys.map fun x=>aa.ref x.2.1) (aP:=ys.map (·.1)) (fun Q' E' hq=>?_) ⟨by simp,fun i v hv=>let ⟨b,h1,h2,_⟩:=each i v hv;⟨b,h1,h2⟩⟩ (fun ks hks=>?_) (by simp;lia) fun h' tk l n p' k hl' hsp hg=>?_
 ·have:=Dk.Uw (prog:=X.prog) (w:=X.w) (A:=X.A.in1) (E:=E') (Q:=Q') (by simpa using I.ok.hd hc) hsys hd0 (by lia) (by rw[evs];exact hq);exact this
 ·rw[ek]at hks;obtain⟨p,hp',rfl⟩:=dt.mp hks;exact hne p hp'
 ·have ho':=mV (U:=U) (vs:=ys.map fun x=>aa.ref x.2.1) (aP:=ys.map (·.1)) (yR:=ys.map (·.1)) ⟨by simp,fun i v hv=>let ⟨b,h1,_,h3⟩:=each i v hv;⟨b,h1,h3⟩⟩ hsp (.refl _);obtain⟨zs,r1,zl,zv⟩:=Ji ho';rw[ek]at zl zv;have YW:H l=none:=I.hok.fresh hl';refine⟨.ref l,_,I.laid (t':=tk) k hl' (show dD X.prog X.w _ h' _ (.lst zs) from⟨?_,_,n,r1,hg⟩),rfl,q l zs YW zl zv⟩;have:(bH (bw.map (·.1))).length=(bw.map (·.1)).length:=(cV _).length_eq;rw[zl,this,ef];simp;lia
noncomputable def qU(j:Nat):ak->Rs D:=fun ρ=>match ρ[j]? with
 |some (.od kvs)=>if kvs.length < 4900/\∀p∈kvs,p.1≠[] then .ok (.lst ((bH (kvs.map (·.1))).map tupK)) else .no
 |_=>.no
theorem cg.keys{G:Hp}{kvs:List (List Int×D)}{bw:List (List Int×V)}(h:cg K G kvs bw):bw.map (·.1)=kvs.map (·.1):=by
 induction h with
 |nil=>rfl
 |cons r t ih=>rw[bX,bX,ih]
theorem Gr(j:Nat) {x:Str}{p p1 pos:Pos}(hc:X.calm=true) (hm:X.mg "sorted"=none) (hN:X.N[j]?=some x:=by rfl) (hv:DW X.env.scope x:=by first|exact Or.inl rfl|exact Or.inr (Or.inl rfl)|exact Or.inr (Or.inr rfl)) (hd:pK x:=by decide)
  (hcd:HF x:=by decide) (hg:Gl X "sorted":=by rfl) (he:ba [.Name x p1] X.env=[(false,bb (.Name x p1) X.env)]:=by rfl) :
  SE X B W (.Call (.Name "sorted" p) [.Name x p1] [] pos) (qU j):=by
 refine PE.imp (nP (Jp hc) hg hm sR (eG (gP hN hv hd hcd) jA he) (by decide) (by decide) he rfl) fun σ H Q dF=>?_;obtain⟨ρ,G,s,pp⟩:=dF;unfold qU at pp;split at pp
 ·rename_i kvs q;split at pp
  ·rename_i hc2;obtain⟨a,o,h1,h2,h3,h4,U,bw,rfl,hU,hk⟩:=s.own j _ q rfl;have ek:=hk.keys;have el:bw.length=kvs.length:=by have:=congrArg jb ek;simpa using this
   refine⟨_,h1,a,U,bw,rfl,Ek h2,fun b ks z=>Same.dU s.en.gh (hU b ks z),by lia,fun p hp=>?_,fun l zs hl hz hv'=>?_⟩
   ·have:p.1∈kvs.map (·.1):=ek▸nV hp;obtain⟨p',hp',e⟩:=dt.mp this;exact e▸hc2.2 p' hp'
   ·rw[ek]at hz hv';have x:=ji (xs:=zs) s.en.gh s.en.tp hl;refine pp _ _ _ x (bh.mpr ⟨l,zs,rfl,.of aQ,(mq hz fun i v hv2=>?_).mono x.gg⟩);obtain⟨b,e1,e2⟩:=hv' i v hv2;exact⟨b,e1,hU b _ e2⟩
  ·exact pp.elim
 ·exact pp.elim
end
end Vl
namespace Zp
open PySem PySem.Spec
section
variable{prog:aI}{w:az}{A:aT}{E:aa->af->Prop}{s:af}
theorem Jq{it t:ae}{i:Nat}{items:Array aa}{x:aa}{Q:aa->af->Prop}(hit:s.heap.IsTupleIter it t i)(ht:s.heap.IsTuple t items)(hx:items[i]?=some x)
  (hQ:∀h',h'.IsTupleIter it t (i + 1)->dQ it s.heap h'->Q x { s with heap:=h' }):ar (aw prog w) A (mv (.ref it)) Q E s:=by
 obtain⟨o,ho,hc,hd⟩:=id hit;obtain⟨ot,hot,_,nt,hdt⟩:=ht;unfold mv;refine ag (j8 (name:=i6 "__next__") hit.typeIs td (g9 td hit.typeIs F.entry_tuple_iterator_next ?_ (F.args_tuple_iterator_next_1 _)));refine ag (m:=field (.ref it) 0) (eS ho hd (x:=.ref t) rfl ?_);show ar _ _ (if (aa.ref t == aa.none)=true then _ else _) _ _ s;rw[if_neg (by intro z;cases z)];refine ag (m:=field (.ref it) 1) (eS ho hd (x:=.int i 0) rfl ?_);refine ag (m:=seqItems? (.ref t)) (j7 hot hdt ?_);simp only[kz,hx];refine ag (iS ho hd (by simp) (aS ⟨x,rfl,aS (hQ _ ?_ (i4 ..))⟩));exact⟨_,gS _ ho (m8 (j3 hd _)),(u_ ..).trans hc,by rw[j3 hd];simp[cx]⟩
theorem Pa{it t:ae}{i:Nat}{items:Array aa}{Q:aa->af->Prop}(hh:A.handled=none)(hit:s.heap.IsTupleIter it t i)(ht:s.heap.IsTuple t items)(hx:items[i]?=none)
  (hE:∀h' e,xf it s.heap h'->(∃o,h'.get? e=some o/\o.cls=.type "StopIteration")->E (.ref e) { s with heap:=h' }):ar (aw prog w) A (mv (.ref it)) Q E s:=by
 obtain⟨o,ho,hc,hd⟩:=id hit;obtain⟨ot,hot,_,nt,hdt⟩:=ht;unfold mv;refine ag (j8 (name:=i6 "__next__") hit.typeIs td (g9 td hit.typeIs F.entry_tuple_iterator_next ?_ (F.args_tuple_iterator_next_1 _)));refine ag (m:=field (.ref it) 0) (eS ho hd (x:=.ref t) rfl ?_);show ar _ _ (if (aa.ref t == aa.none)=true then _ else _) _ _ s;rw[if_neg (by intro z;cases z)];refine ag (m:=field (.ref it) 1) (eS ho hd (x:=.int i 0) rfl ?_);refine ag (m:=seqItems? (.ref t)) (j7 hot hdt ?_);simp only[kz,hx];refine ag (iq (ag (iS ho hd (by simp) ?_)));show ar _ _ (newExc (.type "StopIteration") [] >>= _) _ _ _;refine ag ?_;simp only[newExc,newTuple];refine ag (gN ?_ (by size_fits));refine ag (m:=nB _ _) (rV (a:=aa.none) (by first|rfl|(simp only[nB];rfl)) ?_);refine gN ?_ (by size_fits);simp only[raiseNew];refine ag (xh ?_)
 first|rw[show A.in1.handled=none from hh]|rw[hh]
 refine ag (aS (qE ?_));exact hE _ _ (((i4 ..).extBut.push _).push _) ⟨_,cE _ rfl,rfl⟩
end
theorem CT{prog:aI}{w:az}{A:aT}(hh:A.handled=none)(it t:ae)(hne:t≠it)(items:Array aa) :
  nX prog w A it [it,t] items.size (fun i v=>items[i]?=some v) (fun i h=>h.IsTupleIter it t i/\h.IsTuple t items) where
 live:=fun _ _ st=>let ⟨o,ho,_⟩:=st.1;⟨o,ho⟩
 frame:=fun _ _ _ st hk=>⟨let ⟨o,ho,r⟩:=st.1;⟨o,hk it (by simp) o ho,r⟩,let ⟨o,ho,r⟩:=st.2;⟨o,hk t (by simp) o ho,r⟩⟩
 item:=fun i s Q E hi st hQ=>Jq st.1 st.2 (x:=items[i]) (by simp[hi]) fun h' hit' hs'=>hQ _ h' s.toks (by simp[hi]) ⟨hit',let ⟨o,ho,r⟩:=st.2;⟨o,(hs'.2 t hne).trans ho,r⟩⟩ hs'
 done:=fun s Q E st hE=>Pa hh st.1 st.2 (by simp) hE
structure Ap (z TI TO i1 i2:ae)(f1 f2:List ae):Prop where
 zTI:TI≠z
 zTO:TO≠z
 TT:TI≠TO
 z1:z∉f1
 z2:z∉f2
 o1:TO∉f1
 o2:TO∉f2
 t1:TI∉f1
 t2:TI∉f2
 m1:i1∈f1
 m2:i2∈f2
 c1:i2∉f1
 c2:i1∉f2
section
variable{prog:aI}{w:az}{A:aT}{E:aa->af->Prop}{s:af}{z TI TO i1 i2:ae}{f1 f2:List ae}{n1 n2 k:Nat}{P1 P2:Nat->aa->Prop}{S1 S2:Nat->ay->Prop}{a b:aa}
theorem uo{Q:aa->af->Prop}(D1:nX prog w A i1 f1 n1 P1 S1)(D2:nX prog w A i2 f2 n2 P2 S2)(p:Ap z TI TO i1 i2 f1 f2)(hz:fS s.heap z TI TO .none)(hTI:eB s.heap TI (.ref i1) (.ref i2))(hTO:eB s.heap TO a b)(h1:S1 k s.heap)(h2:S2 k s.heap)(l1:k < n1)(l2:k < n2)
  (hQ:∀x y h' tk,P1 k x->P2 k y->fS h' z TI TO (cx s.heap.objs.size)->eB h' TO x y->S1 (k + 1) h'->S2 (k + 1) h'->eB h' s.heap.objs.size x y->h'.objs.size=s.heap.objs.size + 1 ->
   (∀c o,c∉[z,TO,i1,i2]->s.heap.get? c=some o->h'.get? c=some o)->Q (.ref s.heap.objs.size) { s with heap:=h',toks:=tk }) :
  ar (aw prog w) A (Builtin.«zip.__next__» ⟨[.ref z],[]⟩) (fun dX s'=>∃v,dX=.done (.ret v)/\Q v s') E s:=by
 have ne1:i1≠z:=fun e=>p.z1 (e▸p.m1);have ne2:i2≠z:=fun e=>p.z2 (e▸p.m2);have no1:i1≠TO:=fun e=>p.o1 (e▸p.m1);have no2:i2≠TO:=fun e=>p.o2 (e▸p.m2);have n12:i1≠i2:=fun e=>p.c2 (e▸p.m2);refine ag (m:=field (.ref z) 2) (eS hz rfl (x:=.bool false) rfl ?_);refine ag (m:=field (.ref z) 3) (eS hz rfl (x:=.ref TI) rfl (ag (j7 hTI rfl ?_)));refine ag (m:=tf (.ref z)) ?_;unfold tf;refine ag (eS hz rfl (x:=.none) rfl (aS ?_));simp only[if_true];refine ag (iq (ag (eS hz rfl (x:=.ref TO) rfl (ag (pT hz (by simp) fun g1 z1 e1=>?_)))))
 replace z1:fS g1 z TI TO .ellipsis:=z1
 refine ag ?_;simp only[xn,List.zipIdx_nil,u6,vj];have a1:S1 k g1:=D1.frame _ _ _ h1 fun b hb o q=>e1.extBut b o (fun e=>p.z1 (e▸hb)) q;have b1:S2 k g1:=D2.frame _ _ _ h2 fun b hb o q=>e1.extBut b o (fun e=>p.z2 (e▸hb)) q;refine ag (ag (xI ?_));refine ag (m:=mv (.ref i1)) (D1.item k _ _ _ l1 a1 fun x g2 tk2 px a2 e2=>aS ?_)
 replace e2:dQ i1 g1 g2:=e2
 have t2:eB g2 TO a b:=e2.extBut _ _ (bz no1) (e1.extBut _ _ p.zTO hTO);refine ag (j7 (s:={ s with heap:=g2,toks:=tk2 }) t2 rfl (ag (wpAny_updateSeq_pair (s:={ s with heap:=g2,toks:=tk2 }) t2 fun g3 t3 e3=>?_)))
 replace t3:eB g3 TO x b:=t3
 replace e3:dQ TO g2 g3:=e3
 refine ag (tj (aS ?_));have b3:S2 k g3:=D2.frame _ _ _ b1 fun b hb o q=>e3.extBut b o (fun e=>p.o2 (e▸hb)) (e2.extBut b o (fun e=>p.c2 (e▸hb)) q);refine ag (ag (xI ?_));refine ag (m:=mv (.ref i2)) (D2.item k _ _ _ l2 b3 fun y g4 tk4 py b4 e4=>aS ?_)
 replace e4:dQ i2 g3 g4:=e4
 have t4:eB g4 TO x b:=e4.extBut _ _ (bz no2) t3;refine ag (j7 (s:={ s with heap:=g4,toks:=tk4 }) t4 rfl (ag (wpAny_updateSeq_pair (s:={ s with heap:=g4,toks:=tk4 }) t4 fun g5 t5 e5=>?_)))
 replace t5:eB g5 TO x y:=t5
 replace e5:dQ TO g4 g5:=e5
 refine ag (tj (aS (aS ?_)));refine ag (j7 (s:={ s with heap:=g5,toks:=tk4 }) t5 rfl (ag (wpAny_newTuple ?_)));have sz:g5.objs.size=s.heap.objs.size:=by rw[e5.1,e4.1,e3.1,e2.1,e1.1]
 have z5:fS g5 z TI TO .ellipsis:=e5.extBut _ _ (bz p.zTO) (e4.extBut _ _ (bz ne2) (e3.extBut _ _ (bz p.zTO) (e2.extBut _ _ (bz ne1) z1)));have kp:∀c o,c∉[z,TO,i1,i2]->s.heap.get? c=some o->g5.get? c=some o:=fun c o hc q=>by simp only[br,da,or_false,not_or]at hc;exact e5.extBut _ _ hc.2.1 (e4.extBut _ _ hc.2.2.2 (e3.extBut _ _ hc.2.1 (e2.extBut _ _ hc.2.2.1 (e1.extBut _ _ hc.1 q))))
 have a5:S1 (k + 1) g5:=D1.frame _ _ _ a2 fun b hb o q=>e5.extBut b o (fun e=>p.o1 (e▸hb)) (e4.extBut b o (fun e=>p.c1 (e▸hb)) (e3.extBut b o (fun e=>p.o1 (e▸hb)) q));have b5:S2 (k + 1) g5:=D2.frame _ _ _ b4 fun b hb o q=>e5.extBut b o (fun e=>p.o2 (e▸hb)) q;have lz:z < g5.objs.size:=bu z5;refine ag (m:=cz.SmallTypes.ownedTupleHandOut (.ref z) (.ref g5.objs.size)) ?_;unfold cz.SmallTypes.ownedTupleHandOut;have z6:fS (g5.push { cls:=.type "tuple",data:=.seq #[x,y] }) z TI TO .ellipsis:=cm _ z5;refine ag (pT (s:={ s with heap:=g5.push { cls:=.type "tuple",data:=.seq #[x,y] },toks:=tk4 }) z6 (by simp) fun g7 z7 e7=>?_)
 replace z7:fS g7 z TI TO (cx g5.objs.size):=z7
 refine pT (s:={ s with heap:=g7,toks:=tk4 }) z7 (by simp) fun g8 z8 e8=>?_
 replace z8:fS g8 z TI TO (cx g5.objs.size):=z8
 have up:∀c o,c≠z->g5.get? c=some o->g8.get? c=some o:=fun c o hc q=>e8.extBut _ _ hc (e7.extBut _ _ hc (cm _ q));have t8:eB g8 g5.objs.size x y:=e8.extBut _ _ (i9 lz) (e7.extBut _ _ (i9 lz) (cE _ rfl));have s8:g8.objs.size=g5.objs.size + 1:=by rw[e8.1,e7.1,j4]
 rw[sz]at z8 t8 s8;refine aS ⟨_,rfl,?_⟩;show Q (.ref g5.objs.size) _;rw[sz];exact hQ x y g8 tk4 px py z8 (up _ _ p.zTO t5) (D1.frame _ _ _ a5 fun b hb o q=>up b o (fun e=>p.z1 (e▸hb)) q) (D2.frame _ _ _ b5 fun b hb o q=>up b o (fun e=>p.z2 (e▸hb)) q) t8 s8 fun c o hc q=>up c o (fun e=>hc (by simp[e])) (kp c o hc q)
theorem Ux{Q:nK->af->Prop}(D1:nX prog w A i1 f1 n1 P1 S1)(p:Ap z TI TO i1 i2 f1 f2)(hz:fS s.heap z TI TO .none)(hTI:eB s.heap TI (.ref i1) (.ref i2))(hTO:eB s.heap TO a b)(h1:S1 n1 s.heap)
  (hE:∀h' e,(∀c o,c∉[z,TO,i1,i2]->s.heap.get? c=some o->h'.get? c=some o)->(∃o,h'.get? e=some o/\o.cls=.type "StopIteration")->E (.ref e) { s with heap:=h' }) :
  ar (aw prog w) A (Builtin.«zip.__next__» ⟨[.ref z],[]⟩) Q E s:=by
 have ne1:i1≠z:=fun e=>p.z1 (e▸p.m1);refine ag (m:=field (.ref z) 2) (eS hz rfl (x:=.bool false) rfl ?_);refine ag (m:=field (.ref z) 3) (eS hz rfl (x:=.ref TI) rfl (ag (j7 hTI rfl ?_)));refine ag (m:=tf (.ref z)) ?_;unfold tf;refine ag (eS hz rfl (x:=.none) rfl (aS ?_));simp only[if_true];refine ag (iq (ag (eS hz rfl (x:=.ref TO) rfl (ag (pT hz (by simp) fun g1 z1 e1=>?_)))))
 replace z1:fS g1 z TI TO .ellipsis:=z1
 refine ag ?_;simp only[xn,List.zipIdx_nil,u6,vj];have a1:S1 n1 g1:=D1.frame _ _ _ h1 fun b hb o q=>e1.extBut b o (fun e=>p.z1 (e▸hb)) q;refine ag (ag (xI ?_));refine ag (m:=mv (.ref i1)) (D1.done _ _ _ a1 fun g2 e e2 he=>?_);obtain⟨oe,q1,q2⟩:=he;have z2:fS g2 z TI TO .ellipsis:=e2 _ _ (bz ne1) z1;have ez:e≠z:=fun x=>by subst x;rw[z2]at q1;cases q1;simp at q2
 refine pT (s:={ s with heap:=g2 }) z2 (by simp) fun g3 _ e3=>hE g3 e (fun c o hc q=>?_) ⟨oe,e3.extBut _ _ ez q1,q2⟩;simp only[br,da,or_false,not_or]at hc;exact e3.extBut _ _ hc.1 (e2 _ _ hc.2.2.1 (e1.extBut _ _ hc.1 q))
end
theorem walks{prog:aI}{w:az}{A:aT}{z TI TO i1 i2:ae}{f1 f2:List ae}{n:Nat}{P1 P2:Nat->aa->Prop}{S1 S2:Nat->ay->Prop}(D1:nX prog w A.in1 i1 f1 n P1 S1)(D2:nX prog w A.in1 i2 f2 n P2 S2)(p:Ap z TI TO i1 i2 f1 f2) :
    WalksT prog w A z (z::TI::TO::(f1++f2)) [z,TO,i1,i2] n
      (fun i vals=>∃x y,P1 i x/\P2 i y/\vals=#[x,y])
      (fun i h=>fS h z TI TO .none/\eB h TI (.ref i1) (.ref i2)/\(∃a b,eB h TO a b)/\S1 i h/\S2 i h)
      (fun i T h=>fS h z TI TO (cx T)/\eB h TI (.ref i1) (.ref i2)/\(∃a b,eB h TO a b)/\S1 (i + 1) h/\S2 (i + 1) h/\T∉[z,TO,i1,i2]) where
  sub:=fun b hb=>by
    simp only[br,da,or_false,du]at hb ⊢;rcases hb with rfl|rfl|rfl|rfl
    . exact .inl rfl
    . exact .inr (.inr (.inl rfl))
    . exact .inr (.inr (.inr (.inl p.m1)))
    . exact .inr (.inr (.inr (.inr p.m2)))
  frame:=fun i h h' st hk=>by obtain⟨q1,q2,⟨a,b,q3⟩,q4,q5⟩:=st;exact⟨hk z (by simp) _ q1,hk TI (by simp) _ q2,⟨a,b,hk TO (by simp) _ q3⟩,D1.frame _ _ _ q4 fun b hb o q=>hk b (by simp[hb]) o q,D2.frame _ _ _ q5 fun b hb o q=>hk b (by simp[hb]) o q⟩
  item:=fun i s Q E hi st hQ=>by
    obtain⟨q1,q2,⟨a,b,q3⟩,q4,q5⟩:=st;have hT:s.TypeIs (.ref z) "zip":=⟨_,q1,rfl⟩
    have TIw:TI∉[z,TO,i1,i2]:=by simp only[br,da,or_false,not_or];exact⟨p.zTI,p.TT,fun e=>p.t1 (e▸p.m1),fun e=>p.t2 (e▸p.m2)⟩
    unfold fy;refine ag (ml (j8 (name:=i6 "__next__") hT tm (g9 tm hT F.entry_zip_next (uo D1 D2 p q1 q2 q3 q4 q5 hi hi fun x y h' tk px py r1 r2 r3 r4 r5 r6 r7=>aS ?_) (F.args_zip_next_1 _))));have fr:∀{c:ae}{o:Obj},s.heap.get? c=some o->s.heap.objs.size≠c:=fun e=>i9 (bu e);refine hQ s.heap.objs.size #[x,y] h' tk ⟨x,y,px,py,rfl⟩ (bE _) ⟨_,r5,rfl,_,rfl⟩ ⟨r1,r7 TI _ TIw q2,⟨_,_,r2⟩,r3,r4,?_⟩ r7;simp only[br,da,or_false,not_or];obtain⟨o1,l1⟩:=D1.live _ _ q4;obtain⟨o2,l2⟩:=D2.live _ _ q5;exact⟨fr q1,fr q3,fr l1,fr l2⟩
  go:=fun elts k pos i T s Q E hm hQ=>by obtain⟨q1,q2,⟨a,b,q3⟩,q4,q5,_⟩:=hm;refine wpAny_letOwnedTupleGo_zip q1 fun h' z' e'=>hQ h' ⟨z',e'.extBut _ _ p.zTI q2,⟨a,b,e'.extBut _ _ p.zTO q3⟩,D1.frame _ _ _ q4 fun b hb o q=>e'.extBut b o (fun e=>p.z1 (e▸hb)) q,D2.frame _ _ _ q5 fun b hb o q=>e'.extBut b o (fun e=>p.z2 (e▸hb)) q⟩ fun c o hc q=>e'.extBut _ _ (fun e=>hc (by simp[e])) q
  apart:=fun i T h hm=>hm.2.2.2.2.2
  done := fun s Q E st hQ => by
    obtain⟨q1,q2,⟨a,b,q3⟩,q4,q5⟩:=st;have hT:s.TypeIs (.ref z) "zip":=⟨_,q1,rfl⟩
    unfold fy;refine ag (ml (j8 (name:=i6 "__next__") hT tm (g9 tm hT F.entry_zip_next (Ux D1 p q1 q2 q3 q4 fun h' e kk he=>?_) (F.args_zip_next_1 _))));obtain⟨o,ho,hc⟩:=he;refine ag (o7 (T:="StopIteration") (b:=true) ⟨o,ho,hc⟩ xi ?_);exact aS (hQ h' s.toks kk)
  self:=fun i s Q E st hQ=>pV st.1 hQ
noncomputable abbrev tit(t:ae):Obj:={ cls:=.type "tuple_iterator",data:=.fields #[.ref t,.int 0 0] }
noncomputable abbrev duo(x y:aa):Obj:={ cls:=.type "tuple",data:=.seq #[x,y] }
noncomputable abbrev h1(h:ay)(a:ae):ay:=h.push (tit a)
noncomputable abbrev h2(h:ay)(a b:ae):ay:=(h1 h a).push (tit b)
noncomputable abbrev h3(h:ay)(a b:ae):ay:=(h2 h a b).push (duo (.ref h.objs.size) (.ref (h1 h a).objs.size))
noncomputable abbrev h4(h:ay)(a b:ae):ay:=(h3 h a b).push (duo .none .none)
noncomputable abbrev h5(h:ay)(a b:ae):ay:=(h4 h a b).push { cls:=.type "zip",data:=.fields #[.none,.bool false,.bool false,.ref (h2 h a b).objs.size,.ref (h3 h a b).objs.size] }
theorem Pb(a b:ae)(xs ys:Array aa) :
  Meets (Builtin.«zip.__new__» ⟨[.type "zip",.ref a,.ref b],[]⟩) (fun _ R s=>s.heap.IsTuple a xs/\s.heap.IsTuple b ys/\R (.ok (.ret (.ref (h4 s.heap a b).objs.size))) { s with heap:=h5 s.heap a b }) :=
 .of_wp fun prog w A R s h=>by
  obtain⟨hp,g,d,tk,os⟩:=s;obtain⟨ha,hb,h⟩:=h;have hsub:=sub_zip;have A1:ay.IsTuple (af.heap ⟨hp,g,d,tk,os⟩) a xs:=ha;have B1:ay.IsTuple (af.heap ⟨hp.push { cls:=.type "tuple_iterator",data:=.fields #[.ref a,.int 0 0] },g,d,tk,os⟩) b ys:=let ⟨o,e,r⟩:=hb;⟨o,cm _ e,r⟩
  wp_walk using qi A1,qi B1
  exact⟨_,rfl,h⟩
section
variable{prog:aI}{w:az}{A:aT}{E:aa->af->Prop}{s:af}
theorem Pg{a b:ae}{xs ys:Array aa}{Q:aa->af->Prop}(ha:s.heap.IsTuple a xs)(hb:s.heap.IsTuple b ys)
  (h:∀h',fS h' (s.heap.objs.size + 4) (s.heap.objs.size + 2) (s.heap.objs.size + 3) .none->eB h' (s.heap.objs.size + 2) (.ref s.heap.objs.size) (.ref (s.heap.objs.size + 1))->eB h' (s.heap.objs.size + 3) .none .none ->
   h'.IsTupleIter s.heap.objs.size a 0->h'.IsTupleIter (s.heap.objs.size + 1) b 0->(∀c o,s.heap.get? c=some o->h'.get? c=some o)->Q (.ref (s.heap.objs.size + 4)) { s with heap:=h' }) :
  ar (aw prog w) A (call (.type "zip") [.ref a,.ref b]) Q E s:=by
 refine callType_new F.called_zip (by decide) (F.typeCall_zip_2 _ _) (F.newCall_zip_2 _ _) (fun obj=>F.args_object_init_3 obj _ _) F.entry_zip_new (Pb a b xs ys) ⟨ha,hb,?_⟩;have z1:(h1 s.heap a).objs.size=s.heap.objs.size + 1:=j4 ..;have z2:(h2 s.heap a b).objs.size=s.heap.objs.size + 2:=by show((h1 s.heap a).push _).objs.size=_;rw[j4,z1]
 have z3:(h3 s.heap a b).objs.size=s.heap.objs.size + 3:=by show((h2 s.heap a b).push _).objs.size=_;rw[j4,z2]
 have z4:(h4 s.heap a b).objs.size=s.heap.objs.size + 4:=by show((h3 s.heap a b).push _).objs.size=_;rw[j4,z3]
 have k5:∀c o,(h4 s.heap a b).get? c=some o->(h5 s.heap a b).get? c=some o:=fun c o e=>cm _ e;have k4:∀c o,(h3 s.heap a b).get? c=some o->(h5 s.heap a b).get? c=some o:=fun c o e=>k5 c o (cm _ e);have k3:∀c o,(h2 s.heap a b).get? c=some o->(h5 s.heap a b).get? c=some o:=fun c o e=>k4 c o (cm _ e);have k2:∀c o,(h1 s.heap a).get? c=some o->(h5 s.heap a b).get? c=some o:=fun c o e=>k3 c o (cm _ e);have g5:(h5 s.heap a b).get? (s.heap.objs.size + 4)=some { cls:=.type "zip",data:=.fields #[.none,.bool false,.bool false,.ref (h2 s.heap a b).objs.size,.ref (h3 s.heap a b).objs.size] }:=by rw[<- z4];exact cE _ rfl
 have g4:(h5 s.heap a b).get? (s.heap.objs.size + 3)=some (duo .none .none):=by rw[<- z3];exact k5 _ _ (cE _ rfl)
 have g3:(h5 s.heap a b).get? (s.heap.objs.size + 2)=some (duo (.ref s.heap.objs.size) (.ref (h1 s.heap a).objs.size)):=by rw[<- z2];exact k4 _ _ (cE _ rfl)
 have g2:(h5 s.heap a b).get? (s.heap.objs.size + 1)=some (tit b):=by rw[<- z1];exact k3 _ _ (cE _ rfl)
 have g1:(h5 s.heap a b).get? s.heap.objs.size=some (tit a):=k2 _ _ (cE _ rfl);rw[z2,z3]at g5;rw[z1]at g3;show _/\_;rw[z4];exact⟨⟨_,g5,rfl⟩,h _ g5 g3 g4 ⟨_,g1,rfl,rfl⟩ ⟨_,g2,rfl,rfl⟩ fun c o e=>k2 c o (cm _ e)⟩
end
end Zp
namespace L2
open PySem PySem.Spec PyProof.Rows
theorem CV{X:Cx}{pins:List (ae×Obj)}{σ:St}{H:Hp}{s:af}{a b:ae}{xs:List V}(I:Inv X pins σ H s)(hf:lu X pins H b)(hq:iV X.K H a xs):a≠b:=fun e=>by
 subst e;rcases hq with (q|⟨o,q⟩)|⟨o,its,n,q,_⟩
 ·rw[hf.1]at q;cases q
 ·rw[hf.1]at q;cases q
 ·have hb:=I.mod.Kf a o q;rcases hf.2.2.2.1 with z|z
  ·exact I.ok.DX a o hb z
  ·exact absurd (dA (bu (I.ok.bs a o hb).1) z) (eQ _)
noncomputable def Itz(K:ai)(a b:ae)(n:Nat):It :=
  ⟨fun i H=>i < n/\∃xs ys,iV K H a xs/\iV K H b ys/\xs.length=n/\ys.length=n,
   fun i H v H'=>∃T x y,H T=none/\v=.ref T/\H'=upd H T (.tup [x,y])/\(∀xs,iV K H a xs->xs[i]?=some x)/\∀ys,iV K H b ys->ys[i]?=some y,
   fun i H=>n<=i/\∃xs ys,iV K H a xs/\iV K H b ys/\xs.length=n/\ys.length=n⟩
theorem Uy{P:aI}{w:az}{K:ai}{elts:List ah}{kx:Nat}{tp:Pos}(a b z TI TO i1 i2:ae)(n:Nat)(d1:TI≠z)(d2:TO≠z)(d3:TI≠TO)(d4:z≠i1)(d5:z≠i2)(d6:TO≠i1)(d7:TO≠i2)(d8:TI≠i1)(d9:TI≠i2)(d0:i1≠i2) :
    Turn P w K (.Tuple elts kx tp) (Itz K a b n) [z,TI,TO,i1,i2] z (fun i h=>i<=n/\fS h z TI TO .none/\eB h TI (.ref i1) (.ref i2)/\(∃x y,eB h TO x y)/\h.IsTupleIter i1 a i/\h.IsTupleIter i2 b i) where
  mem:=by simp
  obj:=fun i h st c hc=>by
    obtain⟨_,q1,q2,⟨x,y,q3⟩,⟨o4,q4,_,e4⟩,⟨o5,q5,_,e5⟩⟩:=st;simp only[br,da,or_false]at hc;rcases hc with rfl|rfl|rfl|rfl|rfl
    . exact⟨_,q1,fun v q=>by have q':Data.fields _=Data.cell v:=q;cases q'⟩
    . exact⟨_,q2,fun v q=>by have q':Data.seq _ _=Data.cell v:=q;cases q'⟩
    . exact⟨_,q3,fun v q=>by have q':Data.seq _ _=Data.cell v:=q;cases q'⟩
    . exact⟨o4,q4,fun v q=>by rw[e4]at q;cases q⟩
    . exact⟨o5,q5,fun v q=>by rw[e5]at q;cases q⟩
  keep:=fun i h h' st k=>by obtain⟨q0,q1,q2,⟨x,y,q3⟩,⟨o4,q4,r4⟩,⟨o5,q5,r5⟩⟩:=st;exact⟨q0,k z (by simp) _ q1,k TI (by simp) _ q2,⟨x,y,k TO (by simp) _ q3⟩,⟨o4,k i1 (by simp) _ q4,r4⟩,⟨o5,k i2 (by simp) _ q5,r5⟩⟩
  item:=by
    intro X hP hw hK hc i pins s σ H E I hf st hg;subst hP hw hK;obtain⟨hlt,xs,ys,qa,qb,lx,ly⟩:=hg;obtain⟨q0,q1,q2,q3,q4,q5⟩:=id st;obtain⟨ia,va,pa,_⟩:=I.tuple qa;obtain⟨ib,vb,pb,_⟩:=I.tuple qb;have sa:ia.toArray.size=n:=by rw[cy,<- va.length,lx]
    have sb:ib.toArray.size=n:=by rw[cy,<- vb.length,ly]
    have na:∀c∈[z,TI,TO,i1,i2],a≠c:=fun c hc'=>CV I (hf c hc') qa;have nb:∀c∈[z,TI,TO,i1,i2],b≠c:=fun c hc'=>CV I (hf c hc') qb;have D1:=Zp.CT (prog:=X.prog) (w:=X.w) (A:=X.A.in1) (by simpa using I.ok.hd hc) i1 a (na _ (by simp)) ia.toArray;have D2:=Zp.CT (prog:=X.prog) (w:=X.w) (A:=X.A.in1) (by simpa using I.ok.hd hc) i2 b (nb _ (by simp)) ib.toArray;rw[sa]at D1;rw[sb]at D2;have ap:Zp.Ap z TI TO i1 i2 [i1,a] [i2,b]:=by
      refine⟨d1,d2,d3,?_,?_,?_,?_,?_,?_,by simp,by simp,?_,?_⟩ <;> simp only[br,da,or_false,not_or]
      . exact⟨d4,bz (na _ (by simp))⟩
      . exact⟨d5,bz (nb _ (by simp))⟩
      . exact⟨d6,bz (na _ (by simp))⟩
      . exact⟨d7,bz (nb _ (by simp))⟩
      . exact⟨d8,bz (na _ (by simp))⟩
      . exact⟨d9,bz (nb _ (by simp))⟩
      . exact⟨bz d0,bz (na _ (by simp))⟩
      . exact⟨d0,bz (nb _ (by simp))⟩
    have W:=Zp.walks (A:=X.A) D1 D2 ap;refine W.item i s _ _ hlt ⟨q1,q2,q3,⟨q4,pa⟩,q5,pb⟩ fun T vals g1 tk hv hT tup mid kk=>?_;obtain⟨x',y',hx,hy,rfl⟩:=hv;have sub:∀c∈[z,TO,i1,i2],lu X pins H c:=fun c hc'=>hf c (by simp only[br,da,or_false]at hc' ⊢;rcases hc' with h|h|h|h <;> simp[h]);have lxi:i < xs.length:=by lia
    have lyi:i < ys.length:=by lia
    obtain⟨u,hu,ru⟩:=va.get (cS lxi);obtain⟨v,hv2,rv⟩:=vb.get (cS lyi);have ex:x'=u:=by
      have:ia[i]?=some x':=by simpa using hx
      rw[hu]at this;exact(dE this).symm
    have ey:y'=v:=by
      have:ib[i]?=some y':=by simpa using hy
      rw[hv2]at this;exact(dE this).symm
    subst ex ey;refine⟨.ref T,rfl,W.go elts kx tp i T _ _ _ mid fun g2 st2 kk2=>?_⟩;have tw:T∉[z,TO,i1,i2]:=W.apart _ _ _ mid;have I2:Inv X pins σ (upd H T (.tup [xs[i],ys[i]])) { s with heap:=g2,toks:=tk }:=by refine I.Gn (ch:=[z,TO,i1,i2]) (fun c o hc' q=>kk2 c o hc' (kk c o hc' q)) sub hT ?_;obtain⟨o,ho,hoc,m,hod⟩:=tup;exact⟨by show 2<=sizeLine;decide,[x',y'],.cons ru (.cons rv .nil),o,kk2 T o tw ho,hoc,m,hod⟩
    have nT:∀c∈[z,TI,TO,i1,i2],c≠T:=fun c hc' e=>by
      subst e;obtain⟨o,ho,_⟩:∃o,s.heap.get? c=some o/\True:=by
        obtain⟨x,y,q3'⟩:=q3;obtain⟨o4,q4',_⟩:=q4;obtain⟨o5,q5',_⟩:=q5;simp only[br,da,or_false]at hc';rcases hc' with rfl|rfl|rfl|rfl|rfl
        . exact⟨_,q1,trivial⟩
        . exact⟨_,q2,trivial⟩
        . exact⟨_,q3',trivial⟩
        . exact⟨_,q4',trivial⟩
        . exact⟨_,q5',trivial⟩
      exact absurd (dA (bu ho) hT) (eQ _)
    refine⟨.ref T,_,I2,rfl,⟨T,xs[i],ys[i],I.hok.fresh hT,rfl,rfl,fun zs hz=>by rw[I.pL hz qa];exact cS lxi,fun zs hz=>by rw[I.pL hz qb];exact cS lyi⟩,⟨hlt,st2.1,st2.2.1,st2.2.2.1,st2.2.2.2.1.1,st2.2.2.2.2.1⟩,fun c hc'=>?_⟩;rw[aL (nT c hc')];exact(hf c hc').1
  done := by
    intro X hP hw hK hc i pins s σ H E I hf st hg;subst hP hw hK;obtain⟨hge,xs,ys,qa,qb,lx,ly⟩:=hg;obtain⟨q0,q1,q2,q3,q4,q5⟩:=id st;have ei:i=n:=by lia
    subst ei;obtain⟨ia,va,pa,_⟩:=I.tuple qa;obtain⟨ib,vb,pb,_⟩:=I.tuple qb;have sa:ia.toArray.size=i:=by rw[cy,<- va.length,lx]
    have sb:ib.toArray.size=i:=by rw[cy,<- vb.length,ly]
    have na:∀c∈[z,TI,TO,i1,i2],a≠c:=fun c hc'=>CV I (hf c hc') qa;have nb:∀c∈[z,TI,TO,i1,i2],b≠c:=fun c hc'=>CV I (hf c hc') qb;have D1:=Zp.CT (prog:=X.prog) (w:=X.w) (A:=X.A.in1) (by simpa using I.ok.hd hc) i1 a (na _ (by simp)) ia.toArray;have D2:=Zp.CT (prog:=X.prog) (w:=X.w) (A:=X.A.in1) (by simpa using I.ok.hd hc) i2 b (nb _ (by simp)) ib.toArray;rw[sa]at D1;rw[sb]at D2;have ap:Zp.Ap z TI TO i1 i2 [i1,a] [i2,b]:=by
      refine⟨d1,d2,d3,?_,?_,?_,?_,?_,?_,by simp,by simp,?_,?_⟩ <;> simp only[br,da,or_false,not_or]
      . exact⟨d4,bz (na _ (by simp))⟩
      . exact⟨d5,bz (nb _ (by simp))⟩
      . exact⟨d6,bz (na _ (by simp))⟩
      . exact⟨d7,bz (nb _ (by simp))⟩
      . exact⟨d8,bz (na _ (by simp))⟩
      . exact⟨d9,bz (nb _ (by simp))⟩
      . exact⟨bz d0,bz (na _ (by simp))⟩
      . exact⟨d0,bz (nb _ (by simp))⟩
    have W:=Zp.walks (A:=X.A) D1 D2 ap;have sub:∀c∈[z,TO,i1,i2],lu X pins H c:=fun c hc'=>hf c (by simp only[br,da,or_false]at hc' ⊢;rcases hc' with h|h|h|h <;> simp[h]);exact W.done s _ _ ⟨q1,q2,q3,⟨q4,pa⟩,q5,pb⟩ fun h' tk kk=>⟨rfl,I.LQ (t':=tk) (ch:=[z,TO,i1,i2]) kk sub⟩
  self:=fun _ _ _ _ _ st h=>pV st.2.1 h
section
variable{X:Cx}
theorem Uz:ic "zip"=some (.type "zip"):=by decide+kernel
end
end L2
namespace Vl
open PySem PySem.Spec L2
section
variable{X:Cx}{B:Bs}{W:Wi}{K:ai}{G:Hp}
noncomputable def qW(ds es:List D):List D:=(ds.zip es).map fun p=>.tup [p.1,p.2]
theorem adi{a b:ae}{ds es:List D}{vs us:List V}(qa:iV K G a vs)(qb:iV K G b us)(ra:bA K G ds vs)(rb:bA K G es us)(hl:ds.length=es.length):Yl K (Itz K a b vs.length) (qW ds es) G:=by
 intro i G1 H1 gg e;have la:=ra.length;have lb:=rb.length;have q1:=Same.dU e.gh (Same.dU gg qa);have q2:=Same.dU e.gh (Same.dU gg qb);have lz:(qW ds es).length=vs.length:=by unfold qW;rw[cw,List.length_zip];lia
 refine⟨fun d hd=>?_,fun hge=>⟨by rw[<- lz];exact hge,vs,us,q1,q2,rfl,by lia⟩⟩;have hlt:i < vs.length:=by rw[<- lz];exact(dm.mp hd).1
 have hd1:ds[i]?=some (ds[i]'(by lia)):=cS (by lia);have hd2:es[i]?=some (es[i]'(by lia)):=cS (by lia);have ed:d=.tup [ds[i]'(by lia),es[i]'(by lia)]:=by unfold qW at hd;rw[cK,List.getElem?_zip_eq_some (z:=(ds[i]'(by lia),es[i]'(by lia))) |>.mpr ⟨hd1,hd2⟩]at hd;exact(dE hd).symm
 subst ed;obtain⟨x,hx,rx⟩:=ra.get hd1;obtain⟨y,hy,ry⟩:=rb.get hd2;refine⟨⟨hlt,vs,us,q1,q2,rfl,by lia⟩,fun v H2 yl=>?_⟩;obtain⟨T,x',y',hT,rfl,rfl,y1,y2⟩:=yl;have e1:=y1 vs q1;have e2:=y2 us q2;rw[hx]at e1;rw[hy]at e2;cases e1;cases e2;have x2:=rC (xs:=[x,y]) e.gh e.tp hT;exact⟨_,e.trans x2,bD.mpr ⟨T,_,rfl,.inl (.of aQ),aG.mpr ⟨_,_,rfl,(rx.mono gg).mono x2.gg,bA.one ((ry.mono gg).mono x2.gg)⟩⟩⟩
end
end Vl
namespace Vl
open PySem PySem.Spec PySem.Calls PySem.W L2
section
variable{X:Cx}{K:ai}{B:Bs}{W:Wi}{σ:St}{G H:Hp}{ρ:ak}
end
end Vl
namespace Vl
open PySem PySem.Spec L2
section
variable{X:Cx}{B:Bs}{W:Wi}{K:ai}
end
end Vl
namespace L2
open PySem PySem.Spec PyProof.Rows
theorem CW{X:Cx}{pins:List (ae×Obj)}{σ:St}{H:Hp}{s:af}{a b:ae}{xs:List V}(I:Inv X pins σ H s)(hf:lu X pins H b)(hq:jz X.K H a xs):a≠b:=fun e=>by
 subst e;rcases hq with (q|⟨o,q⟩)|⟨o,its,n,q,_⟩
 ·rw[hf.1]at q;cases q
 ·rw[hf.1]at q;cases q
 ·have hb:=I.mod.Kf a o q;rcases hf.2.2.2.1 with z|z
  ·exact I.ok.DX a o hb z
  ·exact absurd (dA (bu (I.ok.bs a o hb).1) z) (eQ _)
noncomputable def Zh(K:ai)(a b:ae)(n:Nat):It :=
  ⟨fun i H=>i < n/\∃xs ys,jz K H a xs/\jz K H b ys/\xs.length=n/\ys.length=n,
   fun i H v H'=>∃T x y,H T=none/\v=.ref T/\H'=upd H T (.tup [x,y])/\(∀xs,jz K H a xs->xs[i]?=some x)/\∀ys,jz K H b ys->ys[i]?=some y,
   fun i H=>n<=i/\∃xs ys,jz K H a xs/\jz K H b ys/\xs.length=n/\ys.length=n⟩
theorem Ph{P:aI}{w:az}{K:ai}{elts:List ah}{kx:Nat}{tp:Pos}(a b z TI TO i1 i2:ae)(n:Nat)(d1:TI≠z)(d2:TO≠z)(d3:TI≠TO)(d4:z≠i1)(d5:z≠i2)(d6:TO≠i1)(d7:TO≠i2)(d8:TI≠i1)(d9:TI≠i2)(d0:i1≠i2) :
    Turn P w K (.Tuple elts kx tp) (Zh K a b n) [z,TI,TO,i1,i2] z (fun i h=>i<=n/\fS h z TI TO .none/\eB h TI (.ref i1) (.ref i2)/\(∃x y,eB h TO x y)/\h.IsListIter i1 a i/\h.IsListIter i2 b i) where
  mem:=by simp
  obj:=fun i h st c hc=>by
    obtain⟨_,q1,q2,⟨x,y,q3⟩,⟨o4,q4,_,e4⟩,⟨o5,q5,_,e5⟩⟩:=st;simp only[br,da,or_false]at hc;rcases hc with rfl|rfl|rfl|rfl|rfl
    . exact⟨_,q1,fun v q=>by have q':Data.fields _=Data.cell v:=q;cases q'⟩
    . exact⟨_,q2,fun v q=>by have q':Data.seq _ _=Data.cell v:=q;cases q'⟩
    . exact⟨_,q3,fun v q=>by have q':Data.seq _ _=Data.cell v:=q;cases q'⟩
    . exact⟨o4,q4,fun v q=>by rw[e4]at q;cases q⟩
    . exact⟨o5,q5,fun v q=>by rw[e5]at q;cases q⟩
  keep:=fun i h h' st k=>by obtain⟨q0,q1,q2,⟨x,y,q3⟩,⟨o4,q4,r4⟩,⟨o5,q5,r5⟩⟩:=st;exact⟨q0,k z (by simp) _ q1,k TI (by simp) _ q2,⟨x,y,k TO (by simp) _ q3⟩,⟨o4,k i1 (by simp) _ q4,r4⟩,⟨o5,k i2 (by simp) _ q5,r5⟩⟩
  item:=by
    intro X hP hw hK hc i pins s σ H E I hf st hg;subst hP hw hK;obtain⟨hlt,xs,ys,qa,qb,lx,ly⟩:=hg;obtain⟨q0,q1,q2,q3,q4,q5⟩:=id st;obtain⟨ia,va,pa,_⟩:=I.list qa;obtain⟨ib,vb,pb,_⟩:=I.list qb;have sa:ia.toArray.size=n:=by rw[cy,<- va.length,lx]
    have sb:ib.toArray.size=n:=by rw[cy,<- vb.length,ly]
    have na:∀c∈[z,TI,TO,i1,i2],a≠c:=fun c hc'=>CW I (hf c hc') qa;have nb:∀c∈[z,TI,TO,i1,i2],b≠c:=fun c hc'=>CW I (hf c hc') qb;have D1:=tq (prog:=X.prog) (w:=X.w) (A:=X.A.in1) (by simpa using I.ok.hd hc) i1 a (na _ (by simp)) ia.toArray;have D2:=tq (prog:=X.prog) (w:=X.w) (A:=X.A.in1) (by simpa using I.ok.hd hc) i2 b (nb _ (by simp)) ib.toArray;rw[sa]at D1;rw[sb]at D2;have ap:Zp.Ap z TI TO i1 i2 [i1,a] [i2,b]:=by
      refine⟨d1,d2,d3,?_,?_,?_,?_,?_,?_,by simp,by simp,?_,?_⟩ <;> simp only[br,da,or_false,not_or]
      . exact⟨d4,bz (na _ (by simp))⟩
      . exact⟨d5,bz (nb _ (by simp))⟩
      . exact⟨d6,bz (na _ (by simp))⟩
      . exact⟨d7,bz (nb _ (by simp))⟩
      . exact⟨d8,bz (na _ (by simp))⟩
      . exact⟨d9,bz (nb _ (by simp))⟩
      . exact⟨bz d0,bz (na _ (by simp))⟩
      . exact⟨d0,bz (nb _ (by simp))⟩
    have W:=Zp.walks (A:=X.A) D1 D2 ap;refine W.item i s _ _ hlt ⟨q1,q2,q3,⟨q4,pa.isList⟩,q5,pb.isList⟩ fun T vals g1 tk hv hT tup mid kk=>?_;obtain⟨x',y',hx,hy,rfl⟩:=hv;have sub:∀c∈[z,TO,i1,i2],lu X pins H c:=fun c hc'=>hf c (by simp only[br,da,or_false]at hc' ⊢;rcases hc' with h|h|h|h <;> simp[h]);have lxi:i < xs.length:=by lia
    have lyi:i < ys.length:=by lia
    obtain⟨u,hu,ru⟩:=va.get (cS lxi);obtain⟨v,hv2,rv⟩:=vb.get (cS lyi);have ex:x'=u:=by
      have:ia[i]?=some x':=by simpa using hx
      rw[hu]at this;exact(dE this).symm
    have ey:y'=v:=by
      have:ib[i]?=some y':=by simpa using hy
      rw[hv2]at this;exact(dE this).symm
    subst ex ey;refine⟨.ref T,rfl,W.go elts kx tp i T _ _ _ mid fun g2 st2 kk2=>?_⟩;have tw:T∉[z,TO,i1,i2]:=W.apart _ _ _ mid;have I2:Inv X pins σ (upd H T (.tup [xs[i],ys[i]])) { s with heap:=g2,toks:=tk }:=by refine I.Gn (ch:=[z,TO,i1,i2]) (fun c o hc' q=>kk2 c o hc' (kk c o hc' q)) sub hT ?_;obtain⟨o,ho,hoc,m,hod⟩:=tup;exact⟨by show 2<=sizeLine;decide,[x',y'],.cons ru (.cons rv .nil),o,kk2 T o tw ho,hoc,m,hod⟩
    have nT:∀c∈[z,TI,TO,i1,i2],c≠T:=fun c hc' e=>by
      subst e;obtain⟨o,ho,_⟩:∃o,s.heap.get? c=some o/\True:=by
        obtain⟨x,y,q3'⟩:=q3;obtain⟨o4,q4',_⟩:=q4;obtain⟨o5,q5',_⟩:=q5;simp only[br,da,or_false]at hc';rcases hc' with rfl|rfl|rfl|rfl|rfl
        . exact⟨_,q1,trivial⟩
        . exact⟨_,q2,trivial⟩
        . exact⟨_,q3',trivial⟩
        . exact⟨_,q4',trivial⟩
        . exact⟨_,q5',trivial⟩
      exact absurd (dA (bu ho) hT) (eQ _)
    refine⟨.ref T,_,I2,rfl,⟨T,xs[i],ys[i],I.hok.fresh hT,rfl,rfl,fun zs hz=>by rw[I.rA hz qa];exact cS lxi,fun zs hz=>by rw[I.rA hz qb];exact cS lyi⟩,⟨hlt,st2.1,st2.2.1,st2.2.2.1,st2.2.2.2.1.1,st2.2.2.2.2.1⟩,fun c hc'=>?_⟩;rw[aL (nT c hc')];exact(hf c hc').1
  done := by
    intro X hP hw hK hc i pins s σ H E I hf st hg;subst hP hw hK;obtain⟨hge,xs,ys,qa,qb,lx,ly⟩:=hg;obtain⟨q0,q1,q2,q3,q4,q5⟩:=id st;have ei:i=n:=by lia
    subst ei;obtain⟨ia,va,pa,_⟩:=I.list qa;obtain⟨ib,vb,pb,_⟩:=I.list qb;have sa:ia.toArray.size=i:=by rw[cy,<- va.length,lx]
    have sb:ib.toArray.size=i:=by rw[cy,<- vb.length,ly]
    have na:∀c∈[z,TI,TO,i1,i2],a≠c:=fun c hc'=>CW I (hf c hc') qa;have nb:∀c∈[z,TI,TO,i1,i2],b≠c:=fun c hc'=>CW I (hf c hc') qb;have D1:=tq (prog:=X.prog) (w:=X.w) (A:=X.A.in1) (by simpa using I.ok.hd hc) i1 a (na _ (by simp)) ia.toArray;have D2:=tq (prog:=X.prog) (w:=X.w) (A:=X.A.in1) (by simpa using I.ok.hd hc) i2 b (nb _ (by simp)) ib.toArray;rw[sa]at D1;rw[sb]at D2;have ap:Zp.Ap z TI TO i1 i2 [i1,a] [i2,b]:=by
      refine⟨d1,d2,d3,?_,?_,?_,?_,?_,?_,by simp,by simp,?_,?_⟩ <;> simp only[br,da,or_false,not_or]
      . exact⟨d4,bz (na _ (by simp))⟩
      . exact⟨d5,bz (nb _ (by simp))⟩
      . exact⟨d6,bz (na _ (by simp))⟩
      . exact⟨d7,bz (nb _ (by simp))⟩
      . exact⟨d8,bz (na _ (by simp))⟩
      . exact⟨d9,bz (nb _ (by simp))⟩
      . exact⟨bz d0,bz (na _ (by simp))⟩
      . exact⟨d0,bz (nb _ (by simp))⟩
    have W:=Zp.walks (A:=X.A) D1 D2 ap;have sub:∀c∈[z,TO,i1,i2],lu X pins H c:=fun c hc'=>hf c (by simp only[br,da,or_false]at hc' ⊢;rcases hc' with h|h|h|h <;> simp[h]);exact W.done s _ _ ⟨q1,q2,q3,⟨q4,pa.isList⟩,q5,pb.isList⟩ fun h' tk kk=>⟨rfl,I.LQ (t':=tk) (ch:=[z,TO,i1,i2]) kk sub⟩
  self:=fun _ _ _ _ _ st h=>pV st.2.1 h
section
variable{X:Cx}
noncomputable def afN(K:ai)(ta:TA):TI:=fun σ H R=>ta σ H fun vs H1=>(∃a b xs ys,vs=[.ref a,.ref b]/\iV K H1 a xs/\iV K H1 b ys/\xs.length=ys.length/\R (Itz K a b xs.length) H1)∨(∃a b xs ys,vs=[.ref a,.ref b]/\jz K H1 a xs/\jz K H1 b ys/\xs.length=ys.length/\R (Zh K a b xs.length) H1)
theorem Zi{l1 l2:ah}{ta:TA}{p pos:Pos}{elts:List ah}{kx:Nat}{tp:Pos}(hg:Gl X "zip") (hm:X.mg "zip"=none) (ha:PA X [l1,l2] ta) (hs:ba [l1,l2] X.env=[(false,bb l1 X.env),(false,bb l2 X.env)]:=by rfl) (hs2:ba [l2] X.env=[(false,bb l2 X.env)]:=by rfl) :
  PI X (.Tuple elts kx tp) (.Call (.Name "zip" p) [l1,l2] [] pos) (afN X.K ta):=by
 intro pins s σ H R I h;refine Call_ (tM I hg hm Uz (qk (gO (ha pos pins s σ H _ I h) fun us s1 ⟨vs,H1,I1,r1,q1⟩=>?_) (by rw[hs,hs2]) (by rw[hs2];rfl)));have five:∀c∈[s1.heap.objs.size + 4,s1.heap.objs.size + 2,s1.heap.objs.size + 3,s1.heap.objs.size,s1.heap.objs.size + 1],lu X pins H1 c:=fun c hc=>by
  have hc':s1.heap.objs.size<=c:=by
   simp only[br,da,or_false]at hc;rcases hc with rfl|rfl|rfl|rfl|rfl
   ·exact kG _ _
   ·exact kG _ _
   ·exact kG _ _
   ·exact bE _
   ·exact kG _ _
  exact I1.Np hc' (I1.hok.fresh hc')
 rcases q1 with ⟨a,b,xs,ys,e,qa,qb,hl,q⟩|⟨a,b,xs,ys,e,qa,qb,hl,q⟩
 ·subst e;obtain⟨u,v,rfl,ru,rv⟩:=Ef r1;cases ru;cases rv;obtain⟨ia,va,pa,_⟩:=I1.tuple qa;obtain⟨ib,vb,pb,_⟩:=I1.tuple qb;refine Zp.Pg (show s1.heap.IsTuple a ia.toArray from pa) (show s1.heap.IsTuple b ib.toArray from pb) fun h' q1 q2 q3 q4 q5 kk=>pV q1 ?_;refine⟨s1.heap.objs.size + 4,[s1.heap.objs.size + 4,s1.heap.objs.size + 2,s1.heap.objs.size + 3,s1.heap.objs.size,s1.heap.objs.size + 1],_,Itz X.K a b xs.length,H1,rfl,I1.kept (t':=s1.toks) kk,
   Uy a b _ _ _ _ _ xs.length ?_ ?_ ?_ ?_ ?_ ?_ ?_ ?_ ?_ ?_,⟨d_ _,q1,q2,⟨_,_,q3⟩,q4,q5⟩,five,q⟩
  iterate 10 (intro z;have:=congrArg (fun(n:Nat)=>n) z;revert this;generalize (s1.heap.objs.size:Nat)=m;intro this;lia)
 ·subst e;obtain⟨u,v,rfl,ru,rv⟩:=Ef r1;cases ru;cases rv;obtain⟨ia,va,pa,_⟩:=I1.list qa;obtain⟨ib,vb,pb,_⟩:=I1.list qb;refine call_zip_2 pa.isList pb.isList fun h' q1 q2 q3 q4 q5 _ kk=>pV q1 ?_;refine⟨s1.heap.objs.size + 4,[s1.heap.objs.size + 4,s1.heap.objs.size + 2,s1.heap.objs.size + 3,s1.heap.objs.size,s1.heap.objs.size + 1],_,Zh X.K a b xs.length,H1,rfl,I1.kept (t':=s1.toks) kk,
   Ph a b _ _ _ _ _ xs.length ?_ ?_ ?_ ?_ ?_ ?_ ?_ ?_ ?_ ?_,⟨d_ _,q1,q2,⟨_,_,q3⟩,q4,q5⟩,five,q⟩
  iterate 10 (intro z;have:=congrArg (fun(n:Nat)=>n) z;revert this;generalize (s1.heap.objs.size:Nat)=m;intro this;lia)
end
end L2
namespace Vl
open PySem PySem.Spec L2
section
variable{X:Cx}{B:Bs}{W:Wi}{K:ai}{G:Hp}
theorem Zj{a b:ae}{ds es:List D}{vs us:List V}(qa:jz K G a vs)(qb:jz K G b us)(ra:bA K G ds vs)(rb:bA K G es us)(hl:ds.length=es.length):Yl K (Zh K a b vs.length) (qW ds es) G:=by
 intro i G1 H1 gg e;have la:=ra.length;have lb:=rb.length;have q1:=e.gh.seq (gg.seq qa);have q2:=e.gh.seq (gg.seq qb);have lz:(qW ds es).length=vs.length:=by unfold qW;rw[cw,List.length_zip];lia
 refine⟨fun d hd=>?_,fun hge=>⟨by rw[<- lz];exact hge,vs,us,q1,q2,rfl,by lia⟩⟩;have hlt:i < vs.length:=by rw[<- lz];exact(dm.mp hd).1
 have hd1:ds[i]?=some (ds[i]'(by lia)):=cS (by lia);have hd2:es[i]?=some (es[i]'(by lia)):=cS (by lia);have ed:d=.tup [ds[i]'(by lia),es[i]'(by lia)]:=by unfold qW at hd;rw[cK,List.getElem?_zip_eq_some (z:=(ds[i]'(by lia),es[i]'(by lia))) |>.mpr ⟨hd1,hd2⟩]at hd;exact(dE hd).symm
 subst ed;obtain⟨x,hx,rx⟩:=ra.get hd1;obtain⟨y,hy,ry⟩:=rb.get hd2;refine⟨⟨hlt,vs,us,q1,q2,rfl,by lia⟩,fun v H2 yl=>?_⟩;obtain⟨T,x',y',hT,rfl,rfl,y1,y2⟩:=yl;have e1:=y1 vs q1;have e2:=y2 us q2;rw[hx]at e1;rw[hy]at e2;cases e1;cases e2;have x2:=rC (xs:=[x,y]) e.gh e.tp hT;exact⟨_,e.trans x2,bD.mpr ⟨T,_,rfl,.inl (.of aQ),aG.mpr ⟨_,_,rfl,(rx.mono gg).mono x2.gg,bA.one ((ry.mono gg).mono x2.gg)⟩⟩⟩
noncomputable def Pj:List D->Rs (List D)
 | [.tup ds,.tup es]=>if ds.length=es.length then .ok (qW ds es) else .no
 | [.lst ds,.lst es]=>if ds.length=es.length then .ok (qW ds es) else .no
 |_=>.no
theorem Zk{e e':ah}{p1 p2:Pos}{elts:List ah}{kx:Nat}{tp:Pos}{f f':ak->Rs D}(hm:X.mg "zip"=none) (hi:SE X B W e f) (hi':SE X B W e' f') (hgl:Gl X "zip":=by rfl) (hst:ba [e,e'] X.env=[(false,bb e X.env),(false,bb e' X.env)]:=by rfl) (hst2:ba [e'] X.env=[(false,bb e' X.env)]:=by rfl) :
  SI X B W (.Tuple elts kx tp) (.Call (.Name "zip" p1) [e,e'] [] p2) (Uv (aj f (aj f' aO)) Pj):=by
 refine PI.imp (Zi hgl hm (aD hi (aD hi' aR (by rw[hst2];rfl)) (by rw[hst,hst2])) hst hst2) fun σ H R ⟨ρ,G,s,p⟩=>⟨ρ,G,s,?_⟩
 unfold Uv at p;cases e1:aj f (aj f' aO) ρ with
 |ok ds =>
  rw[e1]at p;intro vs H1 G1 e r;have p':Ez X.K W σ G H (Pj ds) R:=p;unfold Pj at p';split at p'
  ·rename_i ds es;by_cases c:ds.length=es.length
   ·rw[if_pos c]at p';obtain⟨v1,vs1,rfl,r1,r2⟩:=aG.mp r;obtain⟨v2,vs2,rfl,r3,r4⟩:=aG.mp r2;cases aZ.mp r4;obtain⟨a,xs,rfl,qa,ra⟩:=bD.mp r1;obtain⟨b,ys,rfl,qb,rb⟩:=bD.mp r3;exact .inl ⟨a,b,xs,ys,rfl,Same.dU e.gh qa,Same.dU e.gh qb,by rw[<- ra.length,<- rb.length];exact c,p' _ H1 G1 e (adi qa qb ra rb c)⟩
   ·rw[if_neg c]at p';exact p'.elim
  ·rename_i ds es;by_cases c:ds.length=es.length
   ·rw[if_pos c]at p';obtain⟨v1,vs1,rfl,r1,r2⟩:=aG.mp r;obtain⟨v2,vs2,rfl,r3,r4⟩:=aG.mp r2;cases aZ.mp r4;obtain⟨a,xs,rfl,qa,ra⟩:=bh.mp r1;obtain⟨b,ys,rfl,qb,rb⟩:=bh.mp r3;exact .inr ⟨a,b,xs,ys,rfl,e.gh.seq qa,e.gh.seq qb,by rw[<- ra.length,<- rb.length];exact c,p' _ H1 G1 e (Zj qa qb ra rb c)⟩
   ·rw[if_neg c]at p';exact p'.elim
  ·exact p'.elim
 |ex c n=>rw[e1]at p;exact p
 |no=>rw[e1]at p;exact p
end
end Vl
namespace L2
open PySem PySem.Spec PyProof.Rows
section
variable{X:Cx}
end
end L2
namespace Vl
open PySem PySem.Spec L2
section
variable{X:Cx}{B:Bs}{W:Wi}{K:ai}{G:Hp}
end
end Vl
namespace Tb
open PySem PySem.SetTable
noncomputable def wd(p:Probe)(d:Option Nat):Probe:={ p with dummy:=d }
noncomputable def Emp(t:cb)(j:Nat):Prop:=¬wJ t j/\has t.dummies j=false
structure aks (t:cb)(L:List iz):Prop where
 pw:∃k,t.mask + 1=2 ^ k
 m7:7<=t.mask
 pl:t.place=(L.map (·.1)).toArray
 so:(L.map (·.1)).Pairwise (· < ·)
 le:∀e∈L,e.1<=t.mask
 dr:wI t.dummies
 dj:∀e∈L,has t.dummies e.1=false
 fl:t.fill<=t.mask
 reach:∀e∈L,∃s,pos t e.2.1 s=e.1/\∀s',s' < s->¬Emp t (pos t e.2.1 s')
section
variable{t:cb}{L:List iz}
end
end Tb
namespace Tb
open PySem PySem.Spec PySem.SetTable
section
variable{prog:aI}{w:az}{A:aT}{E:aa->af->Prop}{s:af}
end
section
variable{prog:aI}{w:az}{U:ae->List Int->Prop}{A:aT}{E:aa->af->Prop}{s:af}
end
section
variable{prog:aI}{w:az}{U:ae->List Int->Prop}{A:aT}{E:aa->af->Prop}{s:af}
end
end Tb
namespace So
open PySem PySem.Spec PySem.W PyProof.Rows PySem.Calls PySem.SetTable Tb
section
variable{prog:aI}{w:az}{A:aT}{E:aa->af->Prop}{s:af}{U:ae->List Int->Prop}
end
end So
namespace Vl
open PySem PySem.Spec L2 So Tb
section
variable{X:Cx}{B:Bs}{W:Wi}
end
end Vl
namespace Vl
open PySem PySem.Spec L2 Dk
section
variable{prog:aI}{w:az}{A:aT}{E:aa->af->Prop}{s:af}
end
section
variable{X:Cx}{B:Bs}{W:Wi}
end
end Vl
namespace So
open PySem PySem.Spec PySem.W PyProof.Rows PySem.Calls Tb
section
variable{prog:aI}{w:az}{A:aT}{E:aa->af->Prop}{s:af}
section
variable{I S:ae}{fp wr:List ae}{G:Array kS->Array kS->Prop}{n:Nat}{P:Nat->aa->Prop}{St:Nat->af->Prop}{R:Result->af->Prop}{Kp:ay->Prop}{bt:Nat->Nat->Bool}
noncomputable def two(v:aa)(c:Nat):Obj:={ cls:=.type "list",dict:=none,data:=.seq #[v,v] c,slots:=#[] }
end
end
end So
namespace Vl
open PySem PySem.Spec L2 So
section
variable{X:Cx}{B:Bs}{W:Wi}{K:ai}
end
end Vl
namespace Vl
open PySem PySem.Spec L2
theorem zW{K:Type}[DecidableEq K]{β:Type}{k:K}:∀{xs:List (K×β)}{j:Nat}{p:β},(xs.map (·.1)).Nodup->xs[j]?=some (k,p)->xs.eraseIdx j=xs.filter fun x=>!decide (x.1=k)
 | [],j,p,_,h=>by simp at h
 |x::xs,0,p,hn,h=>by
  simp only[tx,Option.some.injEq]at h;subst h;rw[bX,gE]at hn;have:∀y∈xs,(!decide (y.1=k))=true:=fun y hy=>by have:y.1≠k:=fun e=>hn.1 (dt.mpr ⟨y,hy,e⟩);simp[this]
  simp only[List.eraseIdx_cons_zero,eW,decide_true,eK,bP,if_false];exact(List.filter_eq_self.mpr this).symm
 |x::xs,j + 1,p,hn,h=>by simp only[tz]at h;rw[bX,gE]at hn;have hk:k∈xs.map (·.1):=dt.mpr ⟨(k,p),jI h,rfl⟩;have ne:x.1≠k:=fun e=>hn.1 (e▸hk);rw[rX,eW,if_pos (by simp[ne]),zW hn.2 h]
theorem zX{α β:Type}(f:α->β):∀(l:List α) (j:Nat),(l.map f).eraseIdx j=(l.eraseIdx j).map f
 | [],_=>rfl
 |_::_,0=>rfl
 |_::l,j + 1=>by simp[rX,zX f l j]
section
variable{prog:aI}{w:az}{K:Type}[DecidableEq K]{knd:HeapKind prog w K}{A:aT}{E:aa->af->Prop}{s:af}
theorem UJ{d a:ae}{xs:List (K×ae×aa)}{k:K}{p:ae×aa}{Q:Option mP->af->Prop}(hu:knd.room A)(hkey:knd.is s.heap k a)(hm:s.heap.DictOfH knd d xs)(hp:kP xs k=some p)
  (h:∀e h',e.val=p.2->h'.DictOfH knd d (xs.filter fun x=>!decide (x.1=k))->dQ d s.heap h'->Q (some e) { s with heap:=h',toks:=s.toks + knd.draws k })
  (hsz:xs.length<=sizeLine):ar (aw prog w) A (cz.Dict.takeOut d (.ref a)) Q E s:=by
 obtain⟨o,es,ep,ho,hc,hd,he,his,hn⟩:=hm;have hes:es.size<=sizeLine:=by have:=xN he;omega
 unfold cz.Dict.takeOut
 try with_reducible refine f_ ?_
 refine ag (knd.pyHash hu hkey (ag (wpAny_dictFind_heap (s:={ s with toks:=s.toks + knd.draws k }) hu hkey ho hd he his hn ?_ ?_)))
 ·intro hno;rw[atKey_none_of_get hno]at hp;cases hp
 ·intro j q hj;rw[atKey_of_get hn hj]at hp;cases hp;refine ag (nS (s:={ s with toks:=s.toks + knd.draws k }) ho hd ?_);rw[entry_at he j,hj];have el:(es.eraseIdxIfInBounds j).toList=(xs.filter fun x=>!decide (x.1=k)).map (entryOfKey knd):=by rw[<- zW hn hj,<- zX,<- he];obtain⟨l⟩:=es;simp
  refine ag (wpAny_updateDictKeys (hz:=hes) (s:={ s with toks:=s.toks + knd.draws k }) ho hd (aS (h _ _ rfl ⟨_,_,ep + 1,gS _ ho (Obj.isFreed_of_dict (Obj.data_mapDictKeys hd _)),
   hc.mapDictKeys _,Obj.data_mapDictKeys hd _,el,fun x hx=>knd.keeps (his x (h_.mp hx).1) ho hd (i4 ..),?_⟩ (i4 ..))))
  exact hn.sublist (List.Sublist.map _ v7)
theorem Jr(knd:HeapKind prog w K)(d a:ae) :
  MeetsIn prog w (Builtin.«dict.pop» ⟨[.ref d,.ref a],[]⟩) (fun A R s=>knd.room A.in1/\∃k xs p,knd.is s.heap k a/\s.heap.DictOfH knd d xs/\xs.length<=sizeLine/\kP xs k=some p /\
   ∀h',h'.DictOfH knd d (xs.filter fun x=>!decide (x.1=k))->dQ d s.heap h'->R (.ok (.ret p.2)) { s with heap:=h',toks:=s.toks + knd.draws k }) :=
 .of_wp fun A R s ⟨hu,k,xs,p,hkey,hm,hsz,hp,h⟩=>by
  unfold Builtin.«dict.pop»;refine ag ?_;unfold cz.Dict.keyAndDefault;refine ag (wpAny_notOrdered_dict hm.typeIs ?_);show ar _ _ (pure (d,aa.ref a,none)) _ _ s;refine aS ?_;have hkp:(keyPart (.ref a)).isSome=false:=rfl;simp only[hkp,bP,if_false];obtain⟨o,es,ep,ho,hc,hd,he,his,hn⟩:=id hm;refine ag (nS ho hd (ag (aS ?_)));have hne:es.isEmpty=false:=by
   have hs:=xN he;cases hx:xs with
   |nil=>rw[hx]at hp;cases hp
   |cons y ys =>
    rw[hx,ck]at hs;simp[Array.isEmpty,hs]
  simp only[hne,bP,if_false];refine ag (UJ hu hkey hm hp (fun e h' hv hm' hs'=>?_) hsz);simp only[Option.isNone_some,bP,if_false];exact ag (tj (aS ⟨e.val,rfl,by rw[hv];exact h h' hm' hs'⟩))
theorem Js(knd:HeapKind prog w K)(d:ae)(hd:(d == iE)=false) :
  MeetsIn prog w (Builtin.«dict.__len__» ⟨[.ref d],[]⟩) (fun _ R s=>∃xs,s.heap.DictOfH knd d xs/\R (.ok (.ret (.int xs.length s.toks))) { s with toks:=s.toks + 1 }) :=
 .of_wp fun A R s ⟨xs,hm,h⟩=>by obtain⟨o,es,ep,ho,hc,hdat,he,his,hn⟩:=hm;show ar _ _ (dictSize d >>= _) _ _ s;unfold dictSize;refine ag (ag (nS ho hdat (aS ?_)));show ar _ _ (cz.Dict.pendingCount d >>= _) _ _ s;refine ag (wpAny_pendingCount_other hd ?_);refine wpAny_ret_mkInt ?_;have:es.size=xs.length:=xN he;rw[l6,this];exact h
theorem aie{d:ae}{xs:List (K×ae×aa)}{Q:aa->af->Prop}(hd:(d == iE)=false)(hm:s.heap.DictOfH knd d xs)(hfit:(xs.length:Int) < 2 ^ 63)
  (h:Q (.int xs.length (s.toks + 1)) { s with toks:=s.toks + 1 + 1 }):ar (aw prog w) A (call (.builtin "len") [.ref d]) Q E s:=by
 refine Calls.call_function_entry kind_len plain_len entry_len (args_len1 _) ?_;unfold Builtin.«len»;refine ag (m:=oneArg "len" _) (aS ?_);refine ag (m:=callSpecial? (.ref d) (i6 "__len__")) (j8 (name:=i6 "__len__") hm.typeIs xF
  (call_meetsIn xF hm.typeIs F.entry_dict_len (F.args_dict_len_1 _) (Js knd d hd) ⟨xs,hm,?_⟩))
 show ar _ _ _ _ _ { s with toks:=s.toks + 1 };refine ag (f_ (aS ?_));refine ag (tj ?_);show ar _ _ (if ((xs.length:Nat):Int) < 0 then _ else _) _ _ _;rw[if_neg (by omega)];show ar _ _ (if ((xs.length:Nat):Int) ≥ 2 ^ 63 then _ else _) _ _ _;rw[if_neg (by omega)];exact ag (wpAny_mkInt (aS ⟨_,rfl,h⟩))
end
section
variable{X:Cx}{B:Bs}{W:Wi}{K:ai}
noncomputable def UL(bw:List (List Int×V))(ks:List Int):List (List Int×V):=bw.filter fun p=>!decide (p.1=ks)
noncomputable def iZ(kvs:List (List Int×D))(ks:List Int):List (List Int×D):=kvs.filter fun p=>!decide (p.1=ks)
theorem UW{U:ae->List Int->Prop}{ks:List Int}{bw:List (List Int×V)}{xs:List (List Int×ae×aa)}(r:DP U bw xs):DP U (UL bw ks) (xs.filter fun x=>!decide (x.1=ks)):=by
 induction r with
 |nil=>exact .nil
 | @cons p q _ _ r1 _ ih =>
  unfold UL at ih ⊢;by_cases c:p.1=ks
  ·have c':q.1=ks:=r1.1▸c;rw[eW,eW,if_neg (by simp[c]),if_neg (by simp[c'])];exact ih
  ·have c':¬q.1=ks:=fun z=>c (r1.1.trans z);rw[eW,eW,if_pos (by simp[c]),if_pos (by simp[c'])];exact .cons r1 ih
theorem cg.out{G:Hp}{ks:List Int}{kvs:List (List Int×D)}{bw:List (List Int×V)}(h:cg K G kvs bw):cg K G (iZ kvs ks) (UL bw ks):=by
 induction h with
 |nil=>exact .nil
 | @cons k d v kvs bw r t ih =>
  unfold UL iZ at ih ⊢;by_cases c:k=ks
  ·rw[eW,eW,if_neg (by simp[c]),if_neg (by simp[c])];exact ih
  ·rw[eW,eW,if_pos (by simp[c]),if_pos (by simp[c])];exact .cons r ih
noncomputable def Va(K:ai):V->List V->Hp->VK->Prop:=fun x vs H Q=>∃(b d:ae) (ks:List Int) (U:ae->List Int->Prop) (bw:List (List Int×V)) (v:V),x=.ref d/\vs=[.ref b]/\iV K H b (ks.map V.int)/\H d=some (.ext (iy U d bw))/\(∀b ks,U b ks->UG K H b ks) /\
 bw.length<=1000000/\qm bw ks=some v/\Q v (upd H d (.ext (iy U d (UL bw ks))))
theorem Zm(hu:X.A.units + 1 < bS):MtR X "dict.pop" (Va X.K):=by
 intro pins s σ H x vs v us Q I rx rv ⟨b,d,ks,U,bw,w,e1,e2,hb,hd,hU,hz,hg,q⟩;subst e1;subst e2;cases rx;obtain⟨u,rfl,ru⟩:=rv.one;cases ru;obtain⟨xs,hm,hs,hp,_⟩:=CJ I (Ek hd) hU;rcases sy (ks:=ks) hp with ⟨w1,w2⟩|⟨v',q',w1,w2,w3⟩
 ·rw[hg]at w1;cases w1
 ·rw[hg]at w1;cases w1;refine call_meetsIn F.slot_dict_pop hm.typeIs F.entry_dict_pop (F.args_dict_pop_2 _ _) (Jr (n9 (cv X.prog X.w)) d b) ⟨xC hu,ks,xs,q',vq I hb,hm,by rw[<- p9 hp];exact sz6 hz,w2,fun h' hx' sb=>?_⟩;refine⟨_,_,I.write (x:=d) (e:=d) (t':=_) (by rw[hd];trivial) (.inl rfl) (fun b' u' ne e=>?_) ?_ (CK hx' hs (UW hp)),w3,q⟩
  ·exact(sb.2 b' ne).symm▸e
  ·obtain⟨o,_,_,e,_⟩:=hx';exact⟨o,e⟩
noncomputable def xO(j:Nat)(f:ak->Rs D):ak->Ou:=fun ρ=>match ρ[j]? with
 |some (.od kvs)=>oR (f ρ) ρ fun k=>(match qp k with
  |some ks=>if kvs.length<=1000000/\(fV kvs ks).isSome then .nx (ρ.set j (.od (iZ kvs ks))) else .no
  |none=>.no)
 |_=>.no
theorem Mf{e:ah}{x:Str}{p1 p2 cp:Pos}{j:Nat}{t:TA}(hu:X.A.units + 1 < bS)(hv:PE X (.Name x p1) (Aq j))(ha:PA X [e] t)
  (h1:k9 (.Name x p1) "pop" X.env (bb (.Name x p1) X.env)=bb (.Name x p1) X.env) (h2:ba [e] X.env=[(false,bb e X.env)])
  (h3:((df cp (ba [e] X.env)).all (fun q=>!q.1) && (k_ cp (lh [] X.env)).all (fun q=>q.1.isSome) && decide (([e]:List ah).length + ([]:List fF).length + (if ([]:List fF).isEmpty then 0 else 1) < 30))=true)
  (h4:(p2.endLine == cp.line)=true) (h5:(df cp (ba [] X.env)).any (·.1)=false) :
  PE X (.Call (.Attribute (.Name x p1) "pop" p2) [e] [] cp) (fun σ H Q=>∃(d0:ae) (U0:ae->List Int->Prop) (yS:List (List Int×V)),σ[j]?=some (some (.ref d0))/\H d0=some (.ext (iy U0 d0 yS))/\t σ H fun vs H2=>Va X.K (.ref d0) vs H2 Q):=by
 intro pins s σ H Q I ⟨d0,U0,yS,g1,g2,g3⟩;refine wpAny_Call_method_late h1 h3 h4 rfl (gO (hv pins s σ H (fun y H1=>y=.ref d0/\H1=H) I ⟨_,g1,rfl,rfl⟩) fun v s1 ⟨y,H1,I1,r1,hy,hH⟩=>?_);subst hy;subst hH;cases r1;obtain⟨⟨o',es',ep',xs',w1,w2,_⟩,_,_⟩:=(show dD X.prog X.w H1 s1.heap d0 (.ext (iy U0 d0 yS)) from I1.hok d0 _ g2)
 refine⟨"dict","dict.pop",F.plainAttrs_dict,F.slot_dict_pop,F.type_dict_pop,⟨o',w1,w2.1⟩,fun a ea=>?_,?_⟩
 ·cases ea;exact⟨o',w1,w2.2.1⟩
 have hA:=ha cp pins s1 σ H1 _ I1 g3;rw[h2]at hA ⊢;refine Calls.callWith_builtin (by show(false || (df cp (ba [] X.env)).any (·.1))=false;rw[h5] <;> rfl) (uA ?_);exact gO hA fun us s2 ⟨vs,H2,I2,r2,q2⟩=>Zm hu pins s2 σ H2 (.ref d0) vs (.ref d0) us Q I2 rfl r2 q2
theorem CZ(j:Nat){x:Str}{e:ah}{pos p1 p2 cp:Pos}{f:ak->Rs D}(hu:X.A.units + 8 < bS)(he:SE X B W e f)(hN:X.N[j]?=some x:=by rfl)(hv:DW X.env.scope x:=by first|exact Or.inl rfl|exact Or.inr (Or.inl rfl)|exact Or.inr (Or.inr rfl))(hd:pK x:=by decide)
  (hcd:HF x:=by decide) (hst:ba [e] X.env=[(false,bb e X.env)]:=by rfl)
  (hbase:k9 (.Name x p1) "pop" X.env (bb (.Name x p1) X.env)=bb (.Name x p1) X.env:=by rfl)
  (hfew:((df cp (ba [e] X.env)).all (fun x=>!x.1) && (k_ cp (lh [] X.env)).all (fun x=>x.1.isSome)
   && decide (([e]:List ah).length + ([]:List fF).length + (if ([]:List fF).isEmpty then 0 else 1) < 30))=true:=by rfl)
  (hline:(p2.endLine == cp.line)=true:=by rfl) (hplain:(df cp (ba [] X.env)).any (·.1)=false:=by rfl)
  (hs:eD (.Call (.Attribute (.Name x p1) "pop" p2) [e] [] cp) none pos.line X.env=pure false:=by rfl) :
  SS X B W (.Expr (.Call (.Attribute (.Name x p1) "pop" p2) [e] [] cp) pos) (xO j f):=by
 refine PS.imp (pN (Mf (iO (Nat.add_le_add_left (by decide) _) hu) (gP hN hv hd hcd) (eG he jA hst) hbase hst hfew hline hplain) hs) fun De σ H ⟨ρ,G,s,p⟩=>?_;unfold xO at p;cases e2:ρ[j]? with
 |none=>rw[e2]at p;exact p.elim
 |some z =>
  rw[e2]at p;cases z with
  |od kvs =>
   obtain⟨d0,U0,yS,h1,h2,_⟩:=s.od e2;refine⟨d0,U0,yS,h1,h2,ρ,G,s,fQ s p fun k v H' G' _ y r p'=>?_⟩;cases e1:qp k with
   |none=>rw[e1]at p';exact p'.elim
   |some ks =>
    rw[e1]at p';dsimp only at p';by_cases hc:kvs.length<=1000000/\(fV kvs ks).isSome
    ·rw[if_pos hc]at p';obtain⟨b',d1,U,bw,rfl,q1,q2,q3,q4,q5,q6,q7⟩:=Ut s e2 y r e1;rw[h1]at q1;cases q1;rcases q7.get (ks:=ks) with ⟨w1,w2⟩|⟨dd,vv,w1,w2,w3⟩
     ·rw[w1]at hc;exact absurd hc.2 (by decide)
     ·refine⟨b',d0,ks,U,bw,vv,rfl,rfl,q2,q4,fun c js z=>q6 c js (q5 c js z),by rw[<- q7.len];exact hc.1,w2,?_⟩;exact p' σ _ G' ((s.ext y).rH e2 rfl h1 rfl ⟨U,_,rfl,q5,q7.out⟩) (.refl _)
    ·rw[if_neg hc]at p';exact p'.elim
  |_=>exact p.elim
theorem Pk:eF X (.builtin "len") (fun xs H Q=>∃(a:ae) (U:ae->List Int->Prop) (bw:List (List Int×V)),xs=[.ref a]/\H a=some (.ext (iy U a bw))/\(∀b ks,U b ks->UG X.K H b ks)/\bw.length<=1000000/\Q (.int bw.length) H):=by intro pins s σ H xs us Q I r ⟨a,U,bw,e1,hH,hU,hz,q⟩;subst e1;obtain⟨u,rfl,rx⟩:=r.one;cases rx;obtain⟨ys,hm,hs,hp,_⟩:=CJ I (Ek hH) hU;have hl:=p9 hp;exact aie hs hm (by omega) ⟨.int bw.length,H,I.tok _,⟨s.toks + 1,by rw[hl]⟩,q⟩
noncomputable def xQ(j:Nat):ak->Rs D:=fun ρ=>match ρ[j]? with
 |some (.od kvs)=>if kvs.length<=1000000 then .ok (.int kvs.length) else .no
 |_=>.no
theorem Mi(j:Nat) {x:Str}{p p1 pos:Pos}(hm:X.mg "len"=none) (hN:X.N[j]?=some x:=by rfl) (hv:DW X.env.scope x:=by first|exact Or.inl rfl|exact Or.inr (Or.inl rfl)|exact Or.inr (Or.inr rfl)) (hd:pK x:=by decide)
  (hcd:HF x:=by decide) (hg:Gl X "len":=by rfl) (he:ba [.Name x p1] X.env=[(false,bb (.Name x p1) X.env)]:=by rfl) :
  SE X B W (.Call (.Name "len" p) [.Name x p1] [] pos) (xQ j):=by
 refine PE.imp (nP Pk hg hm PySem.boot_len (eG (gP hN hv hd hcd) jA he) (by decide) (by decide) he rfl) fun σ H Q ⟨ρ,G,s,pp⟩=>?_;unfold xQ at pp;split at pp
 ·rename_i kvs q;split at pp
  ·rename_i hc2;obtain⟨a,o,h1,h2,h3,h4,U,bw,rfl,hU,hk⟩:=s.own j _ q rfl;have el:=hk.len;refine⟨_,h1,a,U,bw,rfl,h2,fun b ks z=>Same.dU s.en.gh (hU b ks z),by omega,?_⟩;have:=pp _ H G s.yK (aU.mpr rfl);rw[<- el];exact this
  ·exact pp.elim
 ·exact pp.elim
end
end Vl
namespace Zp
open PySem PySem.Spec
section
variable{prog:aI}{w:az}{A:aT}{E:aa->af->Prop}{s:af}
end
end Zp
namespace L2
open PySem PySem.Spec PyProof.Rows
section
variable{X:Cx}
end
end L2
namespace Vl
open PySem PySem.Spec L2
section
variable{X:Cx}{B:Bs}{W:Wi}{K:ai}{G:Hp}
noncomputable def Gs(h:Tg)(gb:ak->Ou)(f:ak->Rs (List D)):ak->Ou:=fun ρ=>match f ρ with
 | .ok ds=>cL h gb ds ρ
 | .ex c n=>.ex c n ρ
 | .no=>.no
theorem Zn{tg iter:ah}{body:List bo}{pos:Pos}{f:ak->Rs (List D)}{h:Tg}{gb:ak->Ou}(hp:kf (aw X.prog X.w) X.A X.env X.xe)(hc:X.calm=true)(hi:SI X B W tg iter f)(hg:SG X B tg h)(hb:tE X B W body gb)
  (hs:∀x,gi iter X.env x=pure x:=by intro _;rfl):SS X B W (.For tg iter body [] pos) (Gs h gb f):=by
 refine PS.imp (vQ hp hc hi hg hb hs) fun De σ H ⟨ρ,G,s,p⟩=>⟨ρ,G,s,?_⟩
 unfold Gs at p;cases e:f ρ with
 |no=>rw[e]at p;exact p.elim
 |ex c n=>rw[e]at p;exact fun H' G' x=>p σ H' G' (s.ext x) x.gg
 |ok ds =>
  rw[e]at p;intro J H' G' x yl;refine⟨fun i m σ H=>m=ds.length - i/\i<=ds.length/\∃ρ G,SR X.K B σ H ρ G/\Same G' G/\bQ X.K B W G (cL h gb (ds.drop i) ρ) De,⟨ds.length,by simp,d_ _,ρ,G',s.ext x,.refl _,by simpa using bQ.same p x.gg⟩,?_⟩;rintro i m σ2 H2 ⟨rfl,hi',ρ2,G2,s2,gg,p2⟩;obtain⟨y1,y2⟩:=yl i G2 H2 gg s2.yK;by_cases hlt:i < ds.length
  ·obtain⟨go,y3⟩:=y1 ds[i] (cS hlt);refine .inr ⟨go,fun σ' H'=>∃ρ' G3,SR X.K B σ' H' ρ' G3/\Same G' G3/\bQ X.K B W G3 (cL h gb (ds.drop (i + 1)) ρ') De,fun σ' H3 p'=>⟨ds.length - (i + 1),by lia,rfl,hlt,p'⟩,fun v H3 yd=>?_⟩;obtain⟨G3,x3,r3⟩:=y3 v H3 yd;rw[iP hlt]at p2;exact rJ (s2.ext x3) r3 (bQ.same p2 x3.gg) fun σ' H4 ρ' G4 s' q' p'=>⟨ρ',G4,s',gg.trans (x3.gg.trans q'),p'⟩
  ·have ei:i=ds.length:=by lia
   subst ei;rw[qA]at p2;exact .inl ⟨y2 (bE _),p2 σ2 H2 G2 s2 (.refl _)⟩
end
end Vl
namespace Vl
open PySem PySem.Spec PySem.Calls PySem.W L2
end Vl
namespace HT2
open PySem PySem.Spec PyProof.Rows HT
variable{prog:aI}{w:az}{A:aT}{E:aa->af->Prop}{s:af}
end HT2
namespace Vl
open PySem PySem.Spec PySem.Calls PySem.W L2
section
variable{X:Cx}{B:Bs}{W:Wi}
section
variable{K:ai}{σ:St}{G H:Hp}{ρ:ak}
end
end
end Vl
namespace Vl
open PySem PySem.Spec PySem.Calls PySem.W L2 PyProof.Rows
section
variable{X:Cx}{B:Bs}{W:Wi}
section
variable{K:ai}
end
section
variable{K:ai}
end
variable{a b:ah}{pos:Pos}{fa fb:ak->Rs D}
end
end Vl
namespace Vl
open PySem PySem.Spec L2 AutoSeq1
noncomputable abbrev adk(xs:Array aa)(m:Nat)(sl:Array (Option aa)):Obj:={ cls:=.type "list",dict:=none,data:=.seq xs m,slots:=sl }
theorem Jt{l b:ae}{xs ys:Array aa}{m k:Nat}{sl:Array (Option aa)}(c0:¬(!xs.isEmpty && qq (xs.size + ys.size))=true)(c1:xs.size<=sizeLine)(c2:xs.size + ys.size<=sizeLine + 1) :
  Meets (Builtin.«list.extend» ⟨[.ref l,.ref b],[]⟩) (fun _ R s=>s.heap.get? l=some (adk xs m #[])/\s.heap.get? b=some (adk ys k sl)/\R (.ok (.ret .none)) { s with heap:=s.heap.update l (eA fun x=>x++ys),toks:=s.toks }):=by
 refine .of_wp fun prog w A R s h=>?_;obtain⟨hp,g,d,tk,os⟩:=s;obtain⟨h1,h2,h3⟩:=h;have f1:=idx_int;have f2:=sub_tuple_tuple;have f3:=sub_list_list;have f4:=sub_tuple_list;have f5:=sub_list_tuple;have z:(xs++ys).size<=sizeLine + 1:=by rw[kL];exact c2
 wp_walk using(o8 h1 rfl (hz:=c1) (_hz':=z)),wpAny_loadPart' h1,wpAny_loadPart' h2
 exact⟨_,rfl,h3⟩
section
variable{X:Cx}{B:Bs}{W:Wi}{K:ai}
noncomputable def aaH(K:ai):V->List V->Hp->VK->Prop:=fun x vs H Q=>∃l b xs zs,x=.ref l/\vs=[.ref b]/\H l=some (.lst xs)/\jz K H b zs/\xs.length + zs.length<=sizeLine/\Q .non (upd H l (.lst (xs++zs)))
theorem Zo:MtM X "list.extend" (aaH X.K):=by
 intro pins s σ H x vs v us Q I rx rv ⟨l,b,xs,zs,e1,e2,hH,hB,hz,q⟩;subst e1;subst e2;cases rx;obtain⟨u,rfl,ru⟩:=rv.one;cases ru;obtain⟨z,its,n,r,hl,e⟩:=I.aeV hH;have hb:∃(its2:List aa) (n2:Nat) (sl:Array (Option aa)),Vals zs its2/\s.heap.get? b=some (adk its2.toArray n2 sl):=by
  rcases hB with h|⟨o,its2,n2,hk,hc,hd,hs,hz2,r2⟩
  ·obtain⟨z2,its2,n2,r2,e2⟩:=h.ok I.hok;exact⟨its2,n2,#[],r2,e2⟩
  ·refine⟨its2.toList,n2,o.slots,r2,?_⟩;rw[I.DY b o hk];cases o;simp only at hc hd hs;subst hc;subst hd;subst hs;rfl
 obtain⟨its2,n2,sl,r2,w2⟩:=hb;have l2:=r2.length;have le:its.length + its2.length<=sizeLine:=by lia
 have c:¬(!its.toArray.isEmpty && qq (its.length + its2.length))=true:=fun y=>by have:=(lS _ _▸y).2;rw[QF le]at this;cases this
 have m:=Jt (l:=l) (b:=b) (xs:=its.toArray) (ys:=its2.toArray) (m:=n) (k:=n2) (sl:=sl) c (dq (kG _ _) le) (vn le);refine call_meets F.slot_list_extend ⟨_,e,rfl⟩ F.entry_list_extend (F.args_list_extend_2 _ _) m ⟨e,w2,.non,_,?_,rfl,q⟩;exact I.aeT (its':=its++its2) hH e (by simp) (r.append r2) (by rw[dy];exact hz)
noncomputable def Gu(i:Nat)(f:ak->Rs D):ak->Ou:=fun ρ=>match ρ[i]? with
 |some (.ow ds)=>oR (f ρ) ρ fun d=>(match d with
  | .lst es=>if ds.length + es.length<=1000000 then .nx (ρ.set i (.ow (ds++es))) else .no
  |_=>.no)
 |_=>.no
theorem Zq{i:Nat}{x:Str}{e:ah}{pos p1 p2 cp:Pos}{f:ak->Rs D}(he:SE X B W e f)
  {pe:PE X (.Call (.Attribute (.Name x p1) "extend" p2) [e] [] cp) (tBM X.K "list" (aaH X.K) (Aq i) (Qw (tF X.K B W f) abJ))}
  (hs:eD (.Call (.Attribute (.Name x p1) "extend" p2) [e] [] cp) none pos.line X.env=pure false:=by rfl) :
  SS X B W (.Expr (.Call (.Attribute (.Name x p1) "extend" p2) [e] [] cp) pos) (Gu i f):=by
 refine PS.imp (pN pe hs) fun De σ H dF=>?_;obtain⟨ρ,G,s,p⟩:=dF;unfold Gu at p;cases q:ρ[i]? with
 |none=>rw[q]at p;exact p.elim
 |some z =>
  rw[q]at p;cases z with
  |no=>exact p.elim
  |fz d=>exact p.elim
  |od _=>exact p.elim
  |op _=>exact p.elim
  |oe _=>exact p.elim
  |ow ds =>
   obtain⟨a,vs,e1,h2,h3,h4,h5⟩:=s.ow i ds q;refine⟨_,e1,.inl ⟨rfl,vs,.of h2⟩,ρ,G,s,fQ s p fun d v H' G' _ x r p'=>?_⟩;cases d with
   |lst es =>
    dsimp only at p';by_cases hl:ds.length + es.length<=1000000
    ·rw[if_pos hl]at p';have s':=s.ext x;obtain⟨b,us,rfl,q2,rr⟩:=bh.mp r;refine⟨a,b,vs,us,rfl,rfl,x.hh _ _ h2,x.gh.seq q2,by rw[<- h5.length,<- rr.length];exact sz6 hl,?_⟩;exact p' σ _ G' (s'.write q e1 ((h5.mono x.gg).append rr)) (.refl _)
    ·rw[if_neg hl]at p';exact p'.elim
   |_=>exact p'.elim
theorem Zr(i:Nat){x:Str}{e:ah}{pos p1 p2 cp:Pos}{f:ak->Rs D}(he:SE X B W e f)(hN:X.N[i]?=some x:=by rfl)(hv:DW X.env.scope x:=by first|exact Or.inl rfl|exact Or.inr (Or.inl rfl)|exact Or.inr (Or.inr rfl))(hd:pK x:=by decide)
  (hcd:HF x:=by decide) (hst:ba [e] X.env=[(false,bb e X.env)]:=by rfl)
  (hbase:k9 (.Name x p1) "extend" X.env (bb (.Name x p1) X.env)=bb (.Name x p1) X.env:=by rfl)
  (hfew:((df cp (ba [e] X.env)).all (fun x=>!x.1) && (k_ cp (lh [] X.env)).all (fun x=>x.1.isSome)
   && decide (([e]:List ah).length + ([]:List fF).length + (if ([]:List fF).isEmpty then 0 else 1) < 30))=true:=by rfl)
  (hline:(p2.endLine == cp.line)=true:=by rfl) (hplain:(df cp (ba [] X.env)).any (·.1)=false:=by rfl)
  (hs:eD (.Call (.Attribute (.Name x p1) "extend" p2) [e] [] cp) none pos.line X.env=pure false:=by rfl) :
  SS X B W (.Expr (.Call (.Attribute (.Name x p1) "extend" p2) [e] [] cp) pos) (Gu i f) :=
 Zq (pe:=QD xw PySem.F.slot_list_extend PySem.F.type_list_extend Zo (gP hN hv hd hcd) (eG he jA hst) hbase hfew hline hst hplain) he hs
end
end Vl
namespace Vl
open PySem PySem.Spec L2
section
variable{X:Cx}{B:Bs}{W:Wi}{K:ai}
variable{o e:ah}{apos cpos:Pos}{fo fe:ak->Rs D}
end
end Vl
namespace Vl
open PySem PySem.Spec PySem.Calls PySem.W L2
noncomputable def Mj(H:Hp)(a:ae):Hp:=fun b=>if b=a then none else H b
theorem jD{H:Hp}{a b:ae}(h:b≠a):Mj H a b=H b:=if_neg h
theorem sI{H:Hp}{a:ae}:Mj H a a=none:=if_pos rfl
theorem xR{H:Hp}{a b:ae}{o:HO}(h:Mj H a b=some o):b≠a/\H b=some o:=by
 by_cases e:b=a
 ·subst e;rw[sI]at h;cases h
 ·rw[jD e]at h;exact⟨e,h⟩
noncomputable def aku:Sl->Option (List D)
 | .ow ds=>some ds
 | .op ds=>some ds
 |_=>none
section
variable{X:Cx}{K:ai}{B:Bs}{W:Wi}{σ:St}{G H G' H':Hp}{ρ:ak}
end
noncomputable def spF(K:ai)(n:Nat)(g:List D->Rs (List D)):Sp:=fun vs H Q E=>vs.length=n/\∃G ds,Ex0 K G H/\bA K G ds vs/\(match g ds with
 | .ok es=>∀a ws H' G',Ext G H G' H'->G' a=none->H a=none->H' a=some (.lst ws)->bA K G' es ws->Q (.ref a) H'
 |_=>False)
noncomputable def Okf(P:aI)(w:az)(K:ai)(mg:Str->Option aa)(base:ay)(x:Str)(k n:Nat)(v:List D->Rs (List D)):Prop :=
 ∃f fd ps,nO P w K mg base (uf P w K) k f fd ps (spF K n v)/\mg x=some (.ref f)/\ij K (.ref f)=true/\Binds K fd ps []
section
variable{X:Cx}{K:ai}{B:Bs}{W:Wi}{σ:St}{G H G' H':Hp}{ρ:ak}
theorem xT{x:Str}{p pos:Pos}{e:ah}{es:List ah}{t:TA}{f:ae}{fd:dn}{ps:List Str}{k:Nat}{sp:Sp}(F:nO X.prog X.w X.K X.mg X.base (uf X.prog X.w X.K) k f fd ps sp)(hr:iB k X.A)(hg:Gl X x)(hm:X.mg x=some (.ref f))(hk:ij X.K (.ref f)=true)(hb:Binds X.K fd ps [])
  (ha:PA X (e::es) t) (hdb:pK x:=by decide) (he:ba (e::es) X.env=(false,bb e X.env)::ba es X.env:=by rfl) (hpl:(df pos (ba es X.env)).any (·.1)=false:=by rfl) :
  PE X (.Call (.Name x p) (e::es) [] pos) (fun σ H Q=>t σ H fun vs H1=>sp vs H1 Q fun _ _ _=>False):=by
 intro pins s σ H Q I h;refine oy (vd I hg hm ?_ hdb);refine ve (h₀:=X.base) I.ok.mod.Kf hk (gO (ha pos pins s σ H _ I h) fun us s1 ⟨vs,H1,I1,r,q⟩=>⟨I1.DY,?_⟩) he hpl;have hl:(us++[]).length=ps.length:=by rw[eI,<- r.length];exact F.len _ _ _ _ q
 have hbb:=hb s1 us I1.DY hl;rw[eI]at hbb;refine qB (lj (F.run X.A X.stack s1 H1 ⟨us,[]⟩ us vs Q _ hr I1.env0 hbb r q) fun r s' hq=>?_);cases r with
 |error e=>obtain⟨ea,c,n,H',_,_,_,_,_,_,w⟩:=hq;exact w.elim
 |ok fl =>
  cases fl with
  |ret u=>exact I1.after hq
  |next=>exact eR hq
  |brk=>exact eR hq
  |cont=>exact eR hq
noncomputable def Gv(i n:Nat)(g:List D->Rs (List D))(fs:ak->Rs (List D)):ak->Ou:=fun ρ=>oR (fs ρ) ρ fun ds=>if ds.length=n then (match g ds with|.ok es=>.nx (ρ.set i (.ow es))|_=>.no) else .no
theorem Zt(i:Nat){x y:Str}{p pos pos' cp:Pos}{e:ah}{es:List ah}{fs:ak->Rs (List D)}{k n kr:Nat}{g:List D->Rs (List D)}(O:Okf X.prog X.w X.K X.mg X.base x k n g)(hr:iB kr X.A)(hN:X.N.Nodup)(ha:SA X B W (e::es) fs)(hi:X.N[i]?=some y:=by rfl)(hx:Kg X.env.scope y:=by first|exact Or.inl rfl|exact Or.inr rfl)
  (hs:eD (.Call (.Name x p) (e::es) [] cp) (some (.Name y pos')) pos.line X.env=pure false:=by rfl) (hf:X.fn y=true∨X.env.scope.names.lookup y=some .local:=by first|exact .inl rfl|exact .inr rfl|assumption) (hg:Gl X x:=by rfl) (hdb:pK x:=by decide)
  (he:ba (e::es) X.env=(false,bb e X.env)::ba es X.env:=by rfl) (hpl:(df cp (ba es X.env)).any (·.1)=false:=by rfl) (Xf:k<=kr:=by decide) :
  SS X B W (.Assign [.Name y pos'] (.Call (.Name x p) (e::es) [] cp) pos) (Gv i n g fs):=by
 obtain⟨f,fd,ps,F,hm,hk,hb⟩:=O
 replace hr:=hr.mono Xf
 refine PS.imp (vP hN hi hx (xT F hr hg hm hk hb ha hdb he hpl) hs hf) fun De σ H ⟨ρ,G,s,p⟩=>⟨ρ,G,s,?_⟩
 unfold Gv at p;cases e:fs ρ with
 |ok ds =>
  rw[e]at p;dsimp only[oR]at p;by_cases hl:ds.length=n
  ·rw[if_pos hl]at p;intro vs H1 G1 x r;refine⟨by rw[<- r.length];exact hl,G1,ds,(s.ext x).ex0,r,?_⟩;cases e1:g ds with
   |ok es' =>
    rw[e1]at p;dsimp only at p ⊢;intro a ws H' G' y g1 h1 h2 r2;have s1:=s.ext x
    let H2:Hp:=Mj H' a
    have y2:Ext G1 H1 G' H2:=⟨y.gg,fun b o w=>by
      show Mj H' a b=some o;rw[jD (aM w h1)];exact y.hh b o w,fun b o w=>by
      show Mj H' a b=some o;rw[jD (aM w g1)];exact y.gh b o w,fun b xs w=>y.tp b xs (xR w).2,y.nw⟩
    have s2:=(s1.ext y2).aar (i:=i) (p:=a) r2 sI;have e2:upd H2 a (.lst ws)=H':=by
     funext b;by_cases w:b=a
     ·subst w;rw[aQ];exact h2.symm
     ·rw[aL w];exact jD w
    rw[e2]at s2;exact p _ H' G' s2 (x.gg.trans y.gg)
   |ex c m=>rw[e1]at p;exact p.elim
   |no=>rw[e1]at p;exact p.elim
  ·rw[if_neg hl]at p;exact p.elim
 |ex c m=>rw[e]at p;exact fun H1 G1 x=>p σ H1 G1 (s.ext x) x.gg
 |no=>rw[e]at p;exact p
end
noncomputable def lf{α:Type}(r:Rs α)(ρ:ak):Rs (α×ak):=match r with
 | .ok a=>.ok (a,ρ)
 |_=>.no
noncomputable def bx{α β:Type}(r:Rs (α×ak))(k:α->ak->Rs (β×ak)):Rs (β×ak):=match r with
 | .ok (a,ρ)=>k a ρ
 |_=>.no
noncomputable def oX{α:Type}(r:Rs (α×ak))(k:α->ak->Ou):Ou:=match r with
 | .ok (a,ρ)=>k a ρ
 |_=>.no
noncomputable def qF(K:ai)(B:Bs)(σ:St)(G:Hp)(r:Rs (D×ak))(Q:VK):Prop:=match r with
 | .ok (d,ρ')=>∀v H' G',SR K B σ H' ρ' G'->Same G G'->Rep K G' d v->Q v H'
 |_=>False
noncomputable def Vb(K:ai)(B:Bs)(σ:St)(G:Hp)(r:Rs (List D×ak))(Q:List V->Hp->Prop):Prop:=match r with
 | .ok (ds,ρ')=>∀vs H' G',SR K B σ H' ρ' G'->Same G G'->bA K G' ds vs->Q vs H'
 |_=>False
noncomputable def tX(K:ai)(B:Bs)(f:ak->Rs (D×ak)):TE:=fun σ H Q=>∃ρ G,SR K B σ H ρ G/\qF K B σ G (f ρ) Q
noncomputable def tAX(K:ai)(B:Bs)(f:ak->Rs (List D×ak)):TA:=fun σ H Q=>∃ρ G,SR K B σ H ρ G/\Vb K B σ G (f ρ) Q
noncomputable def SX(X:Cx)(B:Bs)(e:ah)(f:ak->Rs (D×ak)):Prop:=PE X e (tX X.K B f)
noncomputable def SAX(X:Cx)(B:Bs)(es:List ah)(f:ak->Rs (List D×ak)):Prop:=PA X es (tAX X.K B f)
noncomputable def xP(f:ak->Rs D):ak->Rs (D×ak):=fun ρ=>lf (f ρ) ρ
noncomputable def xPA(f:ak->Rs (List D)):ak->Rs (List D×ak):=fun ρ=>lf (f ρ) ρ
section
variable{X:Cx}{K:ai}{B:Bs}{W:Wi}{σ:St}{G H G' H':Hp}{ρ:ak}
theorem qF.same{r:Rs (D×ak)}{Q:VK}(h:qF K B σ G r Q)(e:Same G G'):qF K B σ G' r Q:=by
 cases r with
 |ok p=>obtain⟨d,ρ'⟩:=p;exact fun v H' G'' s q=>h v H' G'' s (e.trans q)
 |_=>exact h
theorem Zu{r:Rs D}{Q:VK}(s:SR K B σ H ρ G)(p:qF K B σ G (lf r ρ) Q):Post K W σ G H r Q:=by
 cases r with
 |ok d=>exact fun v H' G' e r=>p v H' G' (s.ext e) e.gg r
 |ex c n=>exact p.elim
 |no=>exact p.elim
theorem adl{r:Rs (List D×ak)}{k:List D->ak->Rs (D×ak)}{Q:VK}{Q':List V->Hp->Prop}(p:qF K B σ G (bx r k) Q)(h:∀d ρ1 v H1 G1,SR K B σ H1 ρ1 G1->Same G G1->bA K G1 d v->qF K B σ G1 (k d ρ1) Q->Q' v H1):Vb K B σ G r Q':=by
 cases r with
 |ok x=>obtain⟨d,ρ1⟩:=x;exact fun v H1 G1 s q r=>h d ρ1 v H1 G1 s q r (qF.same (show qF K B σ G (k d ρ1) Q from p) q)
 |ex c n=>exact p.elim
 |no=>exact p.elim
theorem aif{e:ah}{f:ak->Rs D}(h:SE X B W e f):SX X B e (xP f):=PE.imp h fun σ H Q ⟨ρ,G,s,p⟩=>⟨ρ,G,s,Zu s p⟩
theorem afO{es:List ah}{f:ak->Rs (List D)}(h:SA X B W es f):SAX X B es (xPA f):=PA.imp h fun σ H Q ⟨ρ,G,s,p⟩=>by
 refine⟨ρ,G,s,?_⟩;unfold xPA at p;cases e1:f ρ with
 |ok b=>rw[e1]at p;exact fun vs H' G' y r=>p vs H' G' (s.ext y) y.gg r
 |ex c n=>rw[e1]at p;exact p.elim
 |no=>rw[e1]at p;exact p.elim
section
variable{x:Str}{p pos:Pos}{e:ah}{es:List ah}{id T:String}{r:List V->Hp->VK->Prop}{g:List D->Rs D}{fs:ak->Rs (List D×ak)}
end
variable{a b:ah}{pos:Pos}{fa fb:ak->Rs (D×ak)}
end
end Vl
namespace Vl
open PySem PySem.Spec PySem.Calls PySem.W L2 So
noncomputable def afP(f:ak->Rs (D×ak)):ak->Ou:=fun ρ=>oX (f ρ) fun d ρ1=>.rx d ρ1
noncomputable def Ml(i:Nat)(f:ak->Rs (D×ak)):ak->Ou:=fun ρ=>match ρ[i]? with
 |some (.ow _)=>oX (f ρ) fun d ρ1=>(match ρ1[i]? with
  |some (.ow ds)=>if ds.length < 1000000 then .nx (ρ1.set i (.ow (ds++[d]))) else .no
  |_=>.no)
 |_=>.no
section
variable{X:Cx}{K:ai}{B:Bs}{W:Wi}{σ:St}{G H G' H':Hp}{ρ:ak}{De:Ends}
theorem Gw{r:Rs (D×ak)}{k:D->ak->Ou}{Q:VK}(p:bQ K B W G (oX r k) De)(h:∀d ρ1 v H1 G1,SR K B σ H1 ρ1 G1->Same G G1->Rep K G1 d v->bQ K B W G1 (k d ρ1) De->Q v H1):qF K B σ G r Q:=by
 cases r with
 |ok x=>obtain⟨d,ρ1⟩:=x;exact fun v H1 G1 s q r=>h d ρ1 v H1 G1 s q r (bQ.same (show bQ K B W G (k d ρ1) De from p) q)
 |ex c n=>exact p.elim
 |no=>exact p.elim
theorem adn{e:ah}{pos}{f:ak->Rs (D×ak)}(h:SX X B e f):SS X B W (.Return (some e) pos) (afP f) :=
 PS.imp (Av h) fun De σ H ⟨ρ,G,s,p⟩=>⟨ρ,G,s,Gw (k:=fun d ρ1=>.rx d ρ1) p fun d ρ1 v H1 G1 s1 q1 r1 p1=>p1 v σ H1 G1 s1 (.refl _) r1⟩
theorem Zv(i:Nat){x:Str}{e:ah}{pos p1 p2 cp:Pos}{f:ak->Rs (D×ak)}(he:SX X B e f)(hN:X.N[i]?=some x:=by rfl)(hv:DW X.env.scope x:=by first|exact Or.inl rfl|exact Or.inr (Or.inl rfl)|exact Or.inr (Or.inr rfl))(hd:pK x:=by decide)
  (hcd:HF x:=by decide) (hst:ba [e] X.env=[(false,bb e X.env)]:=by rfl)
  (hbase:k9 (.Name x p1) "append" X.env (bb (.Name x p1) X.env)=bb (.Name x p1) X.env:=by rfl)
  (hfew:((df cp (ba [e] X.env)).all (fun x=>!x.1) && (k_ cp (lh [] X.env)).all (fun x=>x.1.isSome)
   && decide (([e]:List ah).length + ([]:List fF).length + (if ([]:List fF).isEmpty then 0 else 1) < 30))=true:=by rfl)
  (hline:(p2.endLine == cp.line)=true:=by rfl) (hplain:(df cp (ba [] X.env)).any (·.1)=false:=by rfl)
  (hs:eD (.Call (.Attribute (.Name x p1) "append" p2) [e] [] cp) none pos.line X.env=pure false:=by rfl) :
  SS X B W (.Expr (.Call (.Attribute (.Name x p1) "append" p2) [e] [] cp) pos) (Ml i f):=by
 refine PS.imp (pN (QD xw PySem.F.slot_list_append PySem.F.type_list_append tU (gP hN hv hd hcd) (eG he jA hst) hbase hfew hline hst hplain) hs) fun De σ H ⟨ρ,G,s,p⟩=>?_;unfold Ml at p;cases q:ρ[i]? with
 |none=>rw[q]at p;exact p.elim
 |some z =>
  rw[q]at p;cases z with
  |ow ds0 =>
   obtain⟨a,vs0,e1,h2,h3,h4,h5⟩:=s.ow i ds0 q;refine⟨_,e1,.inl ⟨rfl,vs0,.of h2⟩,ρ,G,s,Gw (k:=fun d ρ1=>(match ρ1[i]? with
    |some (.ow ds)=>if ds.length < 1000000 then .nx (ρ1.set i (.ow (ds++[d]))) else .no
    |_=>.no)) p fun d ρ1 v H1 G1 s1 q1 r1 p1=>?_⟩
   cases e3:ρ1[i]? with
   |none=>rw[e3]at p1;exact p1.elim
   |some z1 =>
    rw[e3]at p1;cases z1 with
    |ow ds =>
     dsimp only at p1;by_cases hc:ds.length < 1000000
     ·rw[if_pos hc]at p1;obtain⟨b,vs,k1,k2,k3,k4,k5⟩:=s1.ow i ds e3;have eb:b=a:=by rw[e1]at k1;injection k1 with z;injection z with z;injection z with z;exact z.symm
      subst eb;exact⟨b,vs,v,rfl,rfl,k2,by rw[<- k5.length];exact dA hc (by rw[ef];decide),p1 σ _ G1 (s1.write e3 e1 (k5.append (.one r1))) (.refl _)⟩
     ·rw[if_neg hc]at p1;exact p1.elim
    |_=>exact p1.elim
  |_=>exact p.elim
end
section
variable{X:Cx}{K:ai}{B:Bs}{W:Wi}{σ:St}{G H G' H':Hp}{ρ:ak}{a b:ah}{pos:Pos}{fa fb:ak->Rs (D×ak)}
section
variable{x:Str}{p1:Pos}{fb:ak->Rs D}(j:Nat)(hu:X.A.units + 8 < bS)(hb:SE X B W b fb)(hN:X.N[j]?=some x)(hv:DW X.env.scope x)(hd:pK x)(hcd:HF x)
end
end
end Vl
namespace Vl
open PySem PySem.Spec L2 AutoSeq1
section
variable{X:Cx}{B:Bs}{W:Wi}{K:ai}
end
end Vl
namespace Vl
open PySem PySem.Spec L2
mutual
noncomputable def Gx:D->Bool
 | .non=>true
 | .bl _=>true
 | .int _=>true
 | .str _=>true
 | .tup ds=>Gy ds
 |_=>false
noncomputable def Gy:List D->Bool
 | []=>true
 |d::ds=>Gx d && Gy ds
end
noncomputable def Xh(G:Hp)(a:ae):Hp:=fun b=>if b=a then none else G b
theorem uz{G:Hp}{a b:ae}(h:b≠a):Xh G a b=G b:=if_neg h
theorem Vc{G:Hp}{a:ae}:Xh G a a=none:=if_pos rfl
section
variable{X:Cx}{B:Bs}{W:Wi}{K:ai}{G H:Hp}{σ:L2.St}{ρ:ak}{a:ae}{vs:List V}
theorem ado{b:ae}{xs:List V}(h:G a=some (.lst vs))(r:iV K G b xs):iV K (Xh G a) b xs:=by
 rcases r with (r|⟨o,r⟩)|r
 ·have:b≠a:=fun z=>by rw[z,h]at r;cases r
  exact .inl (.inl (by rw[uz this];exact r))
 ·have:b≠a:=fun z=>by rw[z,h]at r;cases r
  exact .inl (.inr ⟨o,by rw[uz this];exact r⟩)
 ·exact .inr r
mutual
theorem Mq(h:G a=some (.lst vs)):∀{d:D}{v:V},Gx d=true->Rep K G d v->Rep K (Xh G a) d v
 | .non,v,_,r=>jh.mpr (jh.mp r)
 | .bl b,v,_,r=>cB.mpr (cB.mp r)
 | .int i,v,_,r=>aU.mpr (aU.mp r)
 | .str i,v,_,r=>mK.mpr (mK.mp r)
 | .tup ds,v,n,r=>by obtain⟨b,us,e,q,rr⟩:=bD.mp r;exact bD.mpr ⟨b,us,e,ado h q,Gz h (by unfold Gx at n;exact n) rr⟩
 | .lst _,v,n,r=>by unfold Gx at n;cases n
 | .zu _ _,v,n,r=>by unfold Gx at n;cases n
 | .zx _ _,v,n,r=>by unfold Gx at n;cases n
 | .fn _,v,n,r=>by unfold Gx at n;cases n
 | .obj _ _ _,v,n,r=>by unfold Gx at n;cases n
theorem Gz(h:G a=some (.lst vs)):∀{ds:List D}{us:List V},Gy ds=true->bA K G ds us->bA K (Xh G a) ds us
 | [],us,_,r=>aZ.mpr (aZ.mp r)
 |d::ds,us,n,r=>by obtain⟨v,ws,e,r1,r2⟩:=aG.mp r;unfold Gy at n;have n:=lS _ _▸n;exact aG.mpr ⟨v,ws,e,Mq h n.1 r1,Gz h n.2 r2⟩
end
theorem SR.lend(h:SR K B σ H ρ G){i:Nat}{ds:List D}(q:ρ[i]?=some (.ow ds)):∃a vs,H a=some (.lst vs)/\G a=none/\SR K B σ H (ρ.set i (.fz (.lst ds))) (upd G a (.lst vs)):=by
  obtain⟨a,vs,e1,h2,h3,h4,h5⟩:=h.ow i ds q;have hl:i < ρ.length:=(dm.mp q).1;have gg:Same G (upd G a (.lst vs)):=fun b o z=>by rw[aL (aM z h3)];exact z
  refine⟨a,vs,h2,h3,⟨h.en.gg.trans gg,h.en.hh,fun b o z=>?_,fun b xs z=>?_,fun b o z w=>?_⟩,by simp[h.len],fun j d z=>?_,fun j fs z wz=>?_,fun j k fs gs c z1 w1 z2 w2 z3 z4=>?_,fun j es c z1 wl z2=>?_,h.co⟩
  ·by_cases w:b=a
   ·subst w;rw[aQ]at z;cases z;exact h2
   ·rw[aL w]at z;exact h.en.gh b o z
  ·by_cases w:b=a
   ·subst w;rw[h2]at z;cases z
   ·rw[aL w];exact h.en.tp b xs z
  ·rw[aL (aM z h4)];exact h.en.nw b o z w
  ·by_cases e:i=j
   ·subst e;rw[dC hl]at z;cases z;exact⟨_,e1,bh.mpr ⟨a,vs,rfl,.of aQ,h5.mono gg⟩⟩
   ·rw[de e]at z;obtain⟨v,w1,w2⟩:=h.fz j d z;exact⟨v,w1,w2.mono gg⟩
  ·by_cases e:i=j
   ·subst e;rw[dC hl]at z;cases z;cases wz
   ·rw[de e]at z;obtain⟨b,us,w1,w2,w3,w4,w5⟩:=h.own j fs z wz;have hne:b≠a:=fun w=>by subst w;exact e (h.ap i j _ fs b q rfl z wz e1 w1)
    exact⟨b,us,w1,w2,by rw[aL hne];exact w3,w4,w5.mono gg⟩
  ·have nj:i≠j:=fun e=>by subst e;rw[dC hl]at z1;cases z1;cases w1
   have nk:i≠k:=fun e=>by subst e;rw[dC hl]at z2;cases z2;cases w2
   rw[de nj]at z1;rw[de nk]at z2;exact h.ap j k fs gs c z1 w1 z2 w2 z3 z4
  ·have nj:i≠j:=fun e=>by subst e;rw[dC hl]at z1;cases z1;cases wl
   rw[de nj]at z1;exact h.tie j es c z1 wl z2
theorem vA{G2 H2:Hp}(h2:H a=some (.lst vs))(h3:G a=none)(x:Ext (upd G a (.lst vs)) H G2 H2):Ext G H (Xh G2 a) H2:=by
 refine⟨fun b o z=>?_,x.hh,fun b o z=>?_,fun c xs z=>?_,fun b o z w=>?_⟩
 ·have ne:=aM z h3;rw[uz ne];exact x.gg b o (by rw[aL ne];exact z)
 ·by_cases e:b=a
  ·rw[e,Vc]at z;cases z
  ·rw[uz e]at z;exact x.gh b o z
 ·have ne:c≠a:=fun e=>by rw[e,x.hh a _ h2]at z;cases z
  rw[uz ne];exact x.tp c xs z
 ·by_cases e:b=a
  ·rw[e];exact Vc
  ·rw[uz e];exact x.nw b o z (by rw[aL e];exact w)
noncomputable def uQ(i:Nat)(f:ak->Rs D):ak->Rs D:=fun ρ=>match ρ[i]? with
 |some (.ow ds)=>(match f (ρ.set i (.fz (.lst ds))) with
  | .ok d=>if Gx d then .ok d else .no
  |r=>r)
 |_=>.no
theorem Dc(i:Nat){e:ah}{f:ak->Rs D}(h:SE X B W e f):SE X B W e (uQ i f):=by
 intro pins s σ H Q I ⟨ρ,G,r,p⟩;unfold uQ at p;cases q:ρ[i]? with
 |none=>rw[q]at p;exact p.elim
 |some z =>
  rw[q]at p;cases z with
  |ow ds =>
   obtain⟨a,vs,h2,h3,r'⟩:=r.lend q;refine h pins s σ H Q I ⟨_,_,r',?_⟩;dsimp only at p;cases e2:f (ρ.set i (.fz (.lst ds))) with
   |ok d =>
    rw[e2]at p;dsimp only at p;by_cases n:Gx d=true
    ·rw[if_pos n]at p;exact fun v H' G' x rd=>p v H' (Xh G' a) (vA h2 h3 x) (Mq (x.gg a _ aQ) n rd)
    ·rw[if_neg n]at p;exact p.elim
   |ex c n =>
    rw[e2]at p;exact fun H' G' x=>p H' (Xh G' a) (vA h2 h3 x)
   |no=>rw[e2]at p;exact p.elim
  |_=>exact p.elim
noncomputable def jV(i:Nat)(f:ak->Rs Bool):ak->Rs Bool:=fun ρ=>match ρ[i]? with
 |some (.ow ds)=>f (ρ.set i (.fz (.lst ds)))
 |_=>.no
theorem Dd(i:Nat){e:ah}{f:ak->Rs Bool}(h:ST X B W e f):ST X B W e (jV i f):=by
 intro pins s σ H Q I ⟨ρ,G,r,p⟩;unfold jV at p;cases q:ρ[i]? with
 |none=>rw[q]at p;exact p.elim
 |some z =>
  rw[q]at p;cases z with
  |ow ds =>
   obtain⟨a,vs,h2,h3,r'⟩:=r.lend q;refine h pins s σ H Q I ⟨_,_,r',?_⟩;dsimp only at p;cases e2:f (ρ.set i (.fz (.lst ds))) with
   |ok d=>rw[e2]at p;exact fun H' G' x=>p H' (Xh G' a) (vA h2 h3 x)
   |ex c n=>rw[e2]at p;exact fun H' G' x=>p H' (Xh G' a) (vA h2 h3 x)
   |no=>rw[e2]at p;exact p.elim
  |_=>exact p.elim
end
end Vl
namespace Vl
open PySem PySem.Spec PySem.Calls PySem.W L2
section
variable{X:Cx}{B:Bs}{a b:ah}{pos:Pos}{fa fb:ak->Rs (D×ak)}
end
section
variable{ρ ρ1:ak}{d x y z:D}{f fa fb:ak->Rs D}{g k a b:ak->Ou}{r:Ou}{ds:List D}{fs:ak->Rs (List D)}{c c1 c2:ak->Rs Bool}{t u:Bool}{i j:Nat}{α β:Type}{e:Str}{n:Int}
theorem Vd:Rq (.nx ρ) k=k ρ:=rfl
theorem Ve:Rq (.rt d) k=.rt d:=rfl
theorem Vf:Rq (.ex e n ρ) k=.ex e n ρ:=rfl
theorem Pn{a:α}{k:α->Ou}:oR (.ok a) ρ k=k a:=rfl
theorem adp{k:α->Ou}:oR (.ex e n) ρ k=.ex e n ρ:=rfl
theorem GC{a:α}{k:α->Rs β}:Rs.bind (.ok a) k=k a:=rfl
theorem Vg{k:α->Rs β}:Rs.bind (.ex e n) k=.ex e n:=rfl
theorem adq:oO (some ρ)=.nx ρ:=rfl
theorem Vh:dX (.nx ρ)=.ok .non:=rfl
theorem Vi:dX (.rt d)=.ok d:=rfl
theorem Vj:dX (.ex e n ρ)=.ex e n:=rfl
theorem Vk:Rt (.nx ρ)=.nx ρ:=rfl
theorem Vm:Rt (.rt d)=.rt d:=rfl
theorem Ju{n:Nat}{v:List D->Rs D}:bU n v ds=if ds.length=n then v ds else .no:=rfl
theorem Jv{a:α}:jt (.ok a)=.ok a:=rfl
theorem lH{m n:Int}(h:-(2 ^ 64) < n/\n < 2 ^ 64):dI (.int m) (.int n)=.ok (.int (m * n)):=aav (.inr h)
theorem adt{m n:Int}(h:-(2 ^ 64) < m/\m < 2 ^ 64):dI (.int m) (.int n)=.ok (.int (m * n)):=aav (.inl h)
theorem Mr{m:Int}:iY (.tup ds) (.int m)=match vU ds m with|some d=>.ok d|none=>.no:=rfl
theorem Vn{m:Int}:iY (.lst ds) (.int m)=match vU ds m with|some d=>.ok d|none=>.no:=rfl
theorem qX:nJ [.lst ds]=.ok (.int ds.length):=rfl
theorem xU:nJ [.tup ds]=.ok (.int ds.length):=rfl
theorem Jw:jQ [.lst ds]=.ok (.tup ds):=rfl
theorem Jx:jQ [.tup ds]=.ok (.tup ds):=rfl
theorem Jy:qO [.lst ds]=.ok (.lst ds):=rfl
theorem Jz:qO [.tup ds]=.ok (.lst ds):=rfl
theorem JB:afC [.int n]=.ok (.int n):=rfl
theorem JC:afC [.bl t]=.ok (.int (if t then 1 else 0)):=rfl
theorem Vo:Jg x .non=.ok (.bl (qD x)):=rfl
theorem JD:afD x .non=.ok (.bl (!qD x)):=rfl
theorem adu:qD .non=true:=rfl
theorem adw:qD (.bl t)=false:=rfl
theorem adx:qD (.int n)=false:=rfl
theorem ady:qD (.tup ds)=false:=rfl
theorem adz:qD (.lst ds)=false:=rfl
theorem Vp:Yb (.int n)=.ok (.int (-n)):=rfl
theorem GD{d:D}:vU (d::ds) 0=some d:=by
 unfold vU;have:Nz (d::ds).length 0=some 0:=by unfold Nz;simp
 rw[this];rfl
theorem GF{d d':D}:vU (d::d'::ds) 1=some d':=by
 unfold vU;have:Nz (d::d'::ds).length 1=some 1:=by unfold Nz;simp;lia
 rw[this];rfl
end
section
open So Tb
theorem uD{α:Type}{h:Tg}{fe:ak->Rs D}(P:ak->Prop)(uU:α->D)(F:α->D):∀{xs:List α}{ρ:ak},P ρ->(∀x∈xs,∀ρ,P ρ->∃ρ1,h (uU x) ρ=some ρ1/\fe ρ1=.ok (F x)/\P ρ1)->cW h (fun _=>.ok true) fe (xs.map uU) ρ=.ok (xs.map F)
 | [],ρ,p,_=>rfl
 |x::xs,ρ,p,st=>by obtain⟨ρ1,e1,e2,p2⟩:=st x (by simp) ρ p;have e:=uD (xs:=xs) P uU F p2 fun d' hd=>st d' (by simp[hd]);simp only[bX,cW,e1,Rs.bind,e2,e,if_true]
theorem Zw{acc:LL}{k x:List Int}:x∈ins acc k↔x=k∨x∈acc:=by
 unfold ins;split
 ·rename_i h;constructor
  ·exact .inr
  ·rintro(rfl|h')
   ·exact h
   ·exact h'
 ·exact br
theorem qY{l:LL}{x:List Int}:x∈bI l↔x∈l:=by
 unfold bI;have:∀(l acc:LL),x∈l.foldl ins acc↔x∈l∨x∈acc:=by
  intro l
  induction l with
  |nil=>intro acc;simp
  |cons a l ih =>
   intro acc;rw[ll,ih,Zw,br];constructor
   ·rintro(h|h|h)
    ·exact .inl (.inr h)
    ·exact .inl (.inl h)
    ·exact .inr h
   ·rintro((h|h)|h)
    ·exact .inr (.inl h)
    ·exact .inl h
    ·exact .inr (.inr h)
 simpa using this l []
theorem Pq(l:LL):(bI l).Nodup:=by
 unfold bI;have:∀(l acc:LL),acc.Nodup->(l.foldl ins acc).Nodup:=by
  intro l
  induction l with
  |nil=>intro acc h;exact h
  |cons a l ih =>
   intro acc h;refine ih _ ?_;unfold ins;split
   ·exact h
   ·rename_i hn;exact gE.mpr ⟨hn,h⟩
 exact this l [] wm
theorem fU{l:LL}{x:List Int}:x∈bH l↔x∈l:=(cV l).mem_iff
theorem pX(l:LL):(bH l).length=l.length:=(cV l).length_eq
noncomputable abbrev rise(l:LL):LL:=bH (bI l)
theorem Vq{l:LL}{x:List Int}:x∈rise l↔x∈l:=fU.trans qY
theorem Zx{f:ak->Rs D}{ρ:ak}{aP:LL}(h:f ρ=.ok (.lst (aP.map tupK)))(hl:aP.length < 4900)(hne:∀ks∈aP,ks≠[]):xH (fK f) ρ=.ok (.lst ((rise aP).map tupK)):=by unfold xH fK;rw[h];simp only[GC,Cv,uw];rw[if_pos (iO (Tb.wL _) hl)];simp only[GC,Cw];rw[if_pos ⟨fun ks hk=>hne ks (qY.mp hk),iO (wL aP) hl⟩]
noncomputable def Pair(ks:List Int):Prop:=∃a b,ks=[a,b]
theorem Pair.ne{ks:List Int}(h:Pair ks):ks≠[]:=by obtain⟨a,b,rfl⟩:=h;simp
theorem sJ(ks:List Int):fW (tupK ks)<=2:=by
 unfold tupK;have:eU (ks.map D.int)<=1:=by
  induction ks with
  |nil=>simp[eU]
  |cons k ks ih=>simp only[bX,eU,fW];exact Nat.max_le.mpr ⟨by lia,ih⟩
 simp only[fW];lia
theorem zY(aP:LL):eU (aP.map tupK)<=2:=by
 induction aP with
 |nil=>simp[eU]
 |cons k aP ih=>simp only[bX,eU];exact Nat.max_le.mpr ⟨sJ k,ih⟩
theorem xV{α:Type}(xs:List α):Oi [.lst (xs.map fun _=>.bl true)]=.ok (.bl true):=by
 have h:∀xs:List α,wB (xs.map fun _=>D.bl true)=some (xs.map fun _=>true):=fun xs=>by
  induction xs with
  |nil=>rfl
  |cons x xs ih=>simp only[bX,wB,ih];rfl
 simp only[Oi,h];have:(xs.map fun _=>true).all id=true:=by simp
 rw[this]
end
end Vl
namespace Vl
open PySem PySem.Spec PySem.Calls PySem.W L2 So
section
variable{ρ ρ1 ρ2:ak}{d x y z:D}{f fa fb:ak->Rs D}{xa xb:ak->Rs (D×ak)}{g k a b:ak->Ou}{r:Ou}{ds:List D}{fs:ak->Rs (List D)}{xs:ak->Rs (List D×ak)}{c c1 c2:ak->Rs (Bool×ak)}{t u:Bool}{i j:Nat}
end
end Vl
namespace Vl
open PySem PySem.Spec PySem.Calls PySem.W L2
noncomputable abbrev KL:=LL
theorem t2(a b:D):gq [a,b]=.ok (.tup [a,b]):=Sh (by simp)
theorem pY(ks:List Int):qp (tupK ks)=some ks:=by
 show qQ (ks.map D.int)=some ks
 induction ks with
 |nil=>rfl
 |cons k ks ih=>rw[bX];show(qQ (ks.map D.int)).map _=_;rw[ih];rfl
theorem jW(kvs:List (List Int×D))(x:List Int):(fV kvs x).isSome=decide (x∈kvs.map (·.1)):=by
 induction kvs with
 |nil=>rfl
 |cons p kvs ih =>
  unfold fV at ih ⊢;rw[ka,bX];by_cases h:p.1=x
  ·simp[h]
  ·have h':¬x=p.1:=fun z=>h z.symm;simp only[h,decide_false];rw[ih];simp[h']
theorem xW(kvs:List (List Int×D))(ks x:List Int)(d:D):x∈(qR kvs ks d).map (·.1)↔x=ks∨x∈kvs.map (·.1):=by
 unfold qR;split
 ·rename_i c;rw[jW]at c;have hk:=of_decide_eq_true c;have e:(kvs.map fun p=>if p.1=ks then (p.1,d) else p).map (·.1)=kvs.map (·.1):=by rw[gr];refine nv fun p _=>?_;show(if p.1=ks then (p.1,d) else p).1=p.1;split <;> rfl
  rw[e];exact⟨.inr,fun h=>h.elim (fun z=>z▸hk) id⟩
 ·rw[j6,du];simp[or_comm]
theorem Ms(kvs:List (List Int×D))(ks:List Int)(d:D):(qR kvs ks d).length<=kvs.length + 1:=by
 unfold qR;split
 ·rw[cw];lia
 ·simp
theorem Vr{ρ:ak}{j:Nat}{kvs:List (List Int×D)}{ks:List Int}{v:D}{fe fk:ak->Rs D}(he:fe ρ=.ok v)(hj:ρ[j]?=some (.od kvs))(hk:fk ρ=.ok (tupK ks))(hl:kvs.length<=1000000):oM j fe fk ρ=.nx (ρ.set j (.od (qR kvs ks v))):=by unfold oM;rw[he,hj];show oR (fk ρ) ρ _=_;rw[hk];show(match qp (tupK ks) with|some ks=>if kvs.length<=1000000 then Ou.nx _ else .no|none=>.no)=_;rw[pY];show(if kvs.length<=1000000 then Ou.nx _ else .no)=_;rw[if_pos hl]
noncomputable def GK(kvs:List (List Int×D)):Prop:=∀x∈kvs.map (·.1),Pair x
noncomputable abbrev sh(k:KL)(b:Bool):D:=.tup [.tup (k.map tupK),.bl b]
structure GN (kvs:List (List Int×D)):Prop where
 pr:GK kvs
 nd:(kvs.map (·.1)).Nodup
theorem GN.put{kvs:List (List Int×D)}(h:GN kvs)(x y:Int)(d:D):GN (qR kvs [x,y] d):=by
 refine⟨fun z hz=>?_,?_⟩
 ·rcases(xW kvs [x,y] z d).mp hz with rfl|h'
  ·exact⟨x,y,rfl⟩
  ·exact h.pr z h'
 ·unfold qR;split
  ·have e:(kvs.map fun p=>if p.1=[x,y] then (p.1,d) else p).map (·.1)=kvs.map (·.1):=by rw[gr];refine nv fun p _=>?_;show(if p.1=[x,y] then (p.1,d) else p).1=p.1;split <;> rfl
   rw[e];exact h.nd
  ·rename_i c;rw[j6,xS];refine⟨h.nd,by simp,fun a ha b hb=>?_⟩;simp only[bX,iN,iA]at hb;subst hb;rintro rfl;rw[jW]at c;exact c (decide_eq_true ha)
theorem GN.nil:GN []:=⟨fun _ h=>(by cases h),wm⟩
theorem GN.out{kvs:List (List Int×D)}(h:GN kvs)(ks:List Int):GN (iZ kvs ks)/\(iZ kvs ks).length<=kvs.length/\kvs.length<=(iZ kvs ks).length + 1:=by
 refine⟨⟨fun z hz=>?_,h.nd.sublist (List.Sublist.map _ v7)⟩,List.length_filter_le _ _,?_⟩
 ·obtain⟨p,hp,rfl⟩:=dt.mp hz;exact h.pr _ (nV ((h_.mp hp).1))
 ·have nd:=h.nd;clear h;unfold iZ
  induction kvs with
  |nil=>simp
  |cons p kvs ih =>
   rw[bX,gE]at nd;have:=ih nd.2;rw[eW];by_cases c:p.1=ks
   ·rw[if_neg (by simp[c])];have e:kvs.filter (fun p=>!decide (p.1=ks))=kvs:=List.filter_eq_self.mpr fun q hq=>by have:q.1≠ks:=fun z=>nd.1 (c.trans z.symm▸nV hq);simp[this]
    rw[e];simp
   ·rw[if_pos (by simp[c])];simp only[ck];lia
theorem QC(p:List Int)(i:Int)(j:Nat)(hi:i=j)(hj:j < p.length):iY (tupK p) (.int i)=.ok (.int (p.getD j 0)):=by subst hi;show iY (.tup (p.map D.int)) (.int j)=_;rw[Mr];unfold vU Nz;rw[if_pos (by lia),if_pos (by rw[cw];lia)];simp only[kz,tJ,cK,cS hj,oI,gm,oP]
theorem zZ:∀a b:List Int,tW (a.map D.int) (b.map D.int)=decide (a=b)
 | [],[]=>rfl
 | [],_::_=>rfl
 |_::_,[]=>rfl
 |x::a,y::b=>by simp only[bX,tW,lR,zZ a b];by_cases h:x=y <;> by_cases h2:a=b <;> simp[h,h2]
theorem GJ(a b:List Int):lR (tupK a) (tupK b)=decide (a=b):=by unfold Vl.tupK;simp only[lR];exact zZ a b
theorem aii(x:List Int)(k:KL):Za (tupK x) (.tup (k.map tupK))=.ok (.bl (decide (x∈k))):=by
 have e:Xg (tupK x) (k.map tupK)=decide (x∈k):=by
  unfold Xg
  induction k with
  |nil=>simp
  |cons y k ih =>
   rw[bX,xx,ih,GJ];by_cases h:y=x
   ·subst h;simp
   ·by_cases h2:x∈k <;> simp[h,h2,bz h]
 show Jh false _ _=_;simp only[Jh];rw[if_pos ⟨dq (sJ x) (by decide),dq (zY k) (by decide)⟩];simp only[bP,if_false,e]
theorem Mt{X:ak->Rs Bool}{E:ak->Rs D}{t:List Int->Bool}{F:List Int->List Int}{cs:List Sl}:∀{L:KL},(∀ks∈L,X (.fz (tupK ks)::cs)=.ok (t ks))->(∀ks∈L,E (.fz (tupK ks)::cs)=.ok (tupK (F ks)))->∀a,cW (aK 0) X E (L.map tupK) (a::cs)=.ok (((L.filter t).map F).map tupK)
 | [],_,_,a=>rfl
 |k::L,hx,he,a=>by
  have ih:=Mt (L:=L) (fun ks h=>hx ks (.tail _ h)) (fun ks h=>he ks (.tail _ h)) (.fz (tupK k));have h1:=hx k (.head _);have h2:=he k (.head _);cases c:t k with
  |true =>
   rw[c]at h1;simp only[bX,cW,aK,p7,h1,h2,ih,Rs.bind,if_true,eW,c]
  |false =>
   rw[c]at h1;simp only[bX,cW,aK,p7,h1,h2,ih,Rs.bind,bP,if_false,eW,c]
theorem JF{L:KL}{X:ak->Rs Bool}{E:ak->Rs D}{t:List Int->Bool}{F:List Int->List Int}{ρ:ak}{fi:ak->Rs (List D)}{caps:List Nat}{cs:List Sl}(hs:cZ 1 caps ρ=.no::cs)(hi:fi ρ=.ok (L.map tupK))(hx:∀ks∈L,X (.fz (tupK ks)::cs)=.ok (t ks))(he:∀ks∈L,E (.fz (tupK ks)::cs)=.ok (tupK (F ks)))(hl:L.length<=1000) :
  fu (aK 0) X E 1 caps fi ρ=.ok (.lst (((L.filter t).map F).map tupK)):=by
 refine BL hi ?_ (by rw[cw,cw];have:=List.length_filter_le t L;lia);rw[hs];exact Mt hx he _
theorem Aa{L:KL}{X:ak->Rs Bool}{E:ak->Rs D}{t:List Int->Bool}{ρ:ak}{fi:ak->Rs (List D)}{caps:List Nat}{cs:List Sl}(hs:cZ 1 caps ρ=.no::cs)(hi:fi ρ=.ok (L.map tupK))(hx:∀ks∈L,X (.fz (tupK ks)::cs)=.ok (t ks))(he:∀ks∈L,E (.fz (tupK ks)::cs)=.ok (tupK ks))(hl:L.length<=1000) :
  fu (aK 0) X E 1 caps fi ρ=.ok (.lst ((L.filter t).map tupK)):=by
 have:=JF (F:=id) hs hi hx he hl;rwa [List.map_id]at this
section
variable{X:Cx}{K:ai}{B:Bs}{W:Wi}{σ:St}{G H:Hp}{ρ:ak}
section
variable{a b:ah}{pos:Pos}{fa fb:ak->Rs D}
end
end
end Vl
namespace L2
open PySem PySem.Spec PyProof.Rows
section
variable{X:Cx}{tg:ah}
end
end L2
namespace Vl
open PySem PySem.Spec L2
section
variable{X:Cx}{B:Bs}{W:Wi}{tg:ah}
end
end Vl
namespace Vl
open PySem PySem.Spec PySem.Calls PySem.W L2
section
variable{X:Cx}{pins:List (ae×Obj)}{σ:St}{H:Hp}{s:af}
end
section
variable{X:Cx}{pins:List (ae×Obj)}{σ:St}
end
section
variable{X:Cx}{pins:List (ae×Obj)}{σ:St}
end
section
variable{X:Cx}{pins:List (ae×Obj)}{σ:St}{H:Hp}{s:af}
structure Made (X:Cx)(pins:List (ae×Obj))(σ:St)(H:Hp)(P:ae)(q:Str)(params:Arguments)(body:ah)(sc:Scope)(f c':ae)(pm ctv:aa)(H':Hp)(s':af):Prop where
 inv:Inv X pins σ H' s'
 hs:H'=H∨∃a,H a=none/\H'=upd H a (.Qi q)
 Qi:H' c'=some (.Qi q)
 obj:s'.heap.get? f=some (kla_obj "<lambda>" q params body sc (fY sc X.env) pm c' ctv)
 fn:H' f=none
 ff:f∉rz X.stack
end
noncomputable def H0(ts:List (ae×Str))(K:ai)(a:ae)(o:HO):Hp:=fun b=>match ts.lookup b with
 |some q=>some (.tab q)
 |none=>if b=a/\K.lookup a=none then some o else none
section
variable{X:Cx}{B:Bs}{W:Wi}{K:ai}
end
end Vl
namespace Dk
open PySem PySem.Spec
section
variable{prog:aI}{w:az}{A:aT}{E:aa->af->Prop}{s:af}{es:Array mP}{ep:Nat}{D:ae}
end
end Dk
namespace Vl
open PySem PySem.Spec PySem.Calls PySem.W L2
section
variable{X:Cx}{B:Bs}{W:Wi}{K:ai}
end
structure akA (K:ai)(x:Str)(st:bo)(f:ae)(fd:dn)(c P:ae)(q:Str):Prop where
 ex:∃(oc:aa) (od:Option ae) (kV doc pm:aa) (an:Option ae) (ct:aa) (osl:Array (Option aa)),
  fd=iL x x (fO st) (cu st) (aF st) .none kV doc pm an (.ref c) ct/\K.lookup f=some ⟨oc,od,.func fd,osl⟩/\ox K (.ref c) x=true
 kp:ij K (.ref f)=true
 hd:codeHdIn K c P=true
 mem:(P,q)∈abS K
section
variable{P:aI}{w:az}{K:ai}{mg:Str->Option aa}{base:ay}
end
end Vl
namespace Vl
open PySem PySem.Spec L2 So Tb
noncomputable def afQ(t:Int)(ks:List Int):List Int :=
 let r:=ks.getD 0 0;let c:=ks.getD 1 0
 if t=0 then [r,c] else if t=1 then [c,-r] else if t=2 then [-r,-c] else if t=3 then [-c,r] else if t=4 then [r,-c] else if t=5 then [-c,-r] else if t=6 then [-r,c] else [c,r]
noncomputable def turned(t:Int)(l:LL):LL:=bH (l.map (afQ t))
end Vl
namespace Vl
open PySem PySem.Spec PySem.Calls PySem.W L2 So Tb
noncomputable abbrev c0(a:List Int):Int:=a.getD 0 0
noncomputable abbrev c1(a:List Int):Int:=a.getD 1 0
noncomputable def Mu(a b:List Int):Prop:=c0 a < c0 b∨(c0 a=c0 b/\c1 a < c1 b)
theorem GP{a:List Int}(h:Pair a):a=[c0 a,c1 a]:=by obtain⟨x,y,rfl⟩:=h;rfl
theorem Vs{a b:List Int}(ha:Pair a)(hb:Pair b)(h0:c0 a=c0 b)(h1:c1 a=c1 b):a=b:=by rw[GP ha,GP hb,h0,h1]
theorem Mv{a:List Int}(h:Mu a a):False:=by unfold Mu at h;lia
theorem adA{a b c:List Int}(h:Mu a b)(k:Mu b c):Mu a c:=by unfold Mu at *;lia
theorem GQ{a b:List Int}(ha:Pair a)(hb:Pair b):tH a b=true↔Mu a b:=by
 obtain⟨x,y,rfl⟩:=ha;obtain⟨z,w,rfl⟩:=hb;unfold Mu;show _↔x < z∨(x=z/\y < w)
 simp only[tH];by_cases h:x=z
 ·subst h;by_cases k:y=w
  ·subst k;simp
  ·simp[k]
 ·simp[h]
structure jc (L:KL):Prop where
 pr:∀x∈L,Pair x
 pw:L.Pairwise Mu
theorem jc.nd{L:KL}(h:jc L):L.Nodup:=h.pw.imp fun {a b} z e=>by subst e;exact Mv z
theorem jc.le{L:KL}(h:jc L):L.Pairwise Qg:=by
 have:L.Pairwise fun a b=>Pair a/\Pair b/\Mu a b:=by refine qr.imp_of_mem (fun {a b} ha hb z=>⟨h.pr a ha,h.pr b hb,z⟩) h.pw
 refine this.imp fun {a b} dF=>?_;obtain⟨pa,pb,z⟩:=dF;unfold Qg;cases e:tH b a with
 |false=>rfl
 |true=>exact(Mv (adA z ((GQ pb pa).mp e))).elim
theorem jc.of{L:KL}(pr:∀x∈L,Pair x)(nd:L.Nodup)(pw:L.Pairwise Qg):jc L:=by
 refine⟨pr,?_⟩;have:L.Pairwise fun a b=>a≠b/\Qg a b:=(List.pairwise_and_iff.mpr ⟨nd,pw⟩)
 refine qr.imp_of_mem (fun {a b} ha hb ⟨ne,z⟩=>?_) this;have pa:=pr a ha;have pb:=pr b hb;by_cases c:Mu a b
 ·exact c
 ·exfalso;have nlt:¬Mu b a:=fun w=>by have:=(GQ pb pa).mpr w;unfold Qg at z;rw[z]at this;cases this
  unfold Mu at c nlt;exact ne (Vs pa pb (by lia) (by lia))
theorem jc.sort{L:KL}(pr:∀x∈L,Pair x)(nd:L.Nodup):jc (bH L):=.of (fun x hx=>pr x (fU.mp hx)) ((cV L).nodup_iff.mpr nd) (rT L)
theorem jc.rise{L:KL}(pr:∀x∈L,Pair x):jc (rise L):=.sort (fun x hx=>pr x (qY.mp hx)) (Pq L)
theorem jc.ext{L M:KL}(hL:jc L)(hM:jc M)(h:∀x,x∈L↔x∈M):L=M:=ur ((List.perm_ext_iff_of_nodup hL.nd hM.nd).mpr h) hL.le hM.le
theorem jc.filter{L:KL}(h:jc L)(t:List Int->Bool):jc (L.filter t):=⟨fun x hx=>h.pr x (h_.mp hx).1,h.pw.filter t⟩
noncomputable def go(st c:List Int)(j:Nat):List Int:=[c0 c + j * c0 st,c1 c + j * c1 st]
noncomputable def Up(st:List Int):Prop:=Mu [0,0] st
end Vl
namespace Vl
open PySem PySem.Spec PySem.Calls PySem.W L2
end Vl
namespace L2
open PySem PySem.Spec PyProof.Rows Vl
section
variable{X:Cx}{tg:ah}
end
end L2
namespace Vl
open PySem PySem.Spec L2 So Tb
section
variable{X:Cx}{B:Bs}{W:Wi}{tg:ah}{K:ai}
end
end Vl
namespace Vl
open PySem PySem.Spec PySem.Calls PySem.W L2 So
theorem Ab{α:Type}{h:Tg}{g:ak->Ou}(F:α->D)(P:List α->ak->Prop){L0:List α}
  (hs:∀x done ρ,x∈L0->done.length < L0.length->P done ρ->∃ρ1 ρ2,h (F x) ρ=some ρ1/\g ρ1=.nx ρ2/\P (done++[x]) ρ2) :
  ∀(L done:List α) (ρ:ak),(∀x∈L,x∈L0)->done.length + L.length<=L0.length->P done ρ->∃ρ',cL h g (L.map F) ρ=.nx ρ'/\P (done++L) ρ'
 | [],done,ρ,_,_,p=>⟨ρ,rfl,by rw[eI];exact p⟩
 |x::L,done,ρ,hx,hl,p=>by rw[ck]at hl;obtain⟨ρ1,ρ2,e1,e2,p2⟩:=hs x done ρ (hx x (.head _)) (by lia) p;obtain⟨ρ',e,p'⟩:=Ab F P hs L (done++[x]) ρ2 (fun y hy=>hx y (.tail _ hy)) (by rw[dy,List.length_singleton];lia) p2;refine⟨ρ',?_,by rw[fN]at p';exact p'⟩;simp only[bX,cL,e1,e2];exact e
theorem xX{α:Type}{h:Tg}{g:ak->Ou}(F:α->D)(P:List α->ak->Prop){L:List α}{ρ:ak}(p:P [] ρ)
  (hs:∀x done ρ,x∈L->done.length < L.length->P done ρ->∃ρ1 ρ2,h (F x) ρ=some ρ1/\g ρ1=.nx ρ2/\P (done++[x]) ρ2):∃ρ',cL h g (L.map F) ρ=.nx ρ'/\P L ρ':=by
 obtain⟨ρ',e,p'⟩:=Ab F P hs L [] ρ (fun _ z=>z) (by rw[eC,hZ];exact bE _) p;exact⟨ρ',e,by rw[kQ]at p';exact p'⟩
structure Km (kvs:List (List Int×D))(n:Nat)(M:List Int->Prop):Prop where
 gn:GN kvs
 le:kvs.length<=n
 iff:∀k,k∈kvs.map (·.1)↔M k
theorem Km.nil:Km [] 0 fun _=>False:=⟨.nil,bE _,fun k=>by simp⟩
theorem Km.put{kvs:List (List Int×D)}{n:Nat}{M M':List Int->Prop}(h:Km kvs n M)(x y:Int)(d:D)(hM:∀k,M' k↔k=[x,y]∨M k):Km (qR kvs [x,y] d) (n + 1) M' :=
 ⟨h.gn.put x y d,dq (Ms _ _ _) (Nat.add_le_add_right h.le 1),fun k=>by rw[xW,hM,h.iff]⟩
theorem Km.mono{kvs:List (List Int×D)}{n n':Nat}{M M':List Int->Prop}(h:Km kvs n M)(hn:n<=n')(hM:∀k,M' k↔M k):Km kvs n' M':=⟨h.gn,dq h.le hn,fun k=>by rw[hM,h.iff]⟩
theorem Vt{aP:KL}(hl:aP.length < 4900)(hp:∀ks∈aP,Pair ks):mX [.lst (aP.map tupK)]=.ok (.lst ((bH aP).map tupK)):=by simp only[mX,uw];rw[if_pos ⟨fun ks hk=>by obtain⟨x,y,rfl⟩:=hp ks hk;simp,hl⟩]
theorem aaJ{ρ:ak}{i:Nat}{acc:KL}{x:List Int}{f:ak->Rs D}(hi:ρ[i]?=some (.ow (acc.map tupK)))(hf:f ρ=.ok (tupK x))(hl:acc.length < 1000000):uX i f ρ=.nx (ρ.set i (.ow (acc.map tupK++[x].map tupK))):=by unfold uX;rw[hi];show oR (f ρ) ρ _=_;rw[hf];show(if (acc.map tupK).length < 1000000 then Ou.nx _ else .no)=_;rw[if_pos (by rw[cw];exact hl)];rfl
theorem adB{h:Tg}{g:ak->Ou}{f:ak->Rs (List D)}{ρ:ak}{ds:List D}{r:Ou}(h1:f ρ=.ok ds)(h2:cL h g ds ρ=r):Gs h g f ρ=r:=by unfold Gs;rw[h1];exact h2
end Vl
namespace Vl
open PySem PySem.Spec PySem.Calls PySem.W L2
noncomputable def scB(N P:List Str)(sc:Scope):Bool:=decide (sc.kind=.function) && !sc.isCoroutine && !sc.isGenerator && decide N.Nodup && decide (N.take P.length=P) && P.all (fun x=>sc.names.lookup x == some .local || sc.names.lookup x == some .cell) && sc.names.all (fun y=>y.2 != .free)
theorem HN{N P:List Str}{sc:Scope}(h:scB N P sc=true):bJ N P sc:=by unfold scB at h;simp only[lS,decide_eq_true_eq,oB,bne_iff_ne,l4,beq_iff_eq,ne_eq,Bool.not_eq_true']at h;obtain⟨⟨⟨⟨⟨⟨h1,h2⟩,h3⟩,h4⟩,h5⟩,h6⟩,h7⟩:=h;exact⟨h1,h2,h3,h4,h5,h6,h7⟩
section
variable{P:aI}{w:az}{K:di}{mg:Str->Option aa}{base:ay}{x:Str}{st:bo}{N ps:List Str}{k n:Nat}{g:ak->Ou}
noncomputable abbrev iz(K:di)(mg:Str->Option aa)(x:Str)(st:bo):Prop:=∃f fd,Fun K x x st f fd/\mg x=some (.ref f)
noncomputable def Dn(K:di)(x:Str)(st:bo):Prop:=∃(f:ae) (oc:aa) (od:Option ae) (sl:Array (Option aa)) (kV dc pm:aa) (an:Option ae) (cd ct:aa),
 dP K cq x=some (some (.ref f))/\K.lookup f=some ⟨oc,od,.func (fnOf x x (fO st) (cu st) (aF st) .none kV dc pm an cd ct),sl⟩/\codeIn K cd x=true/\keepIn K (.ref f)=true
theorem Dn.ent{h:ay}(a:Dn K x st)(X:K.In h)(G:h.Ns cq mg):iz K mg x st:=by obtain⟨f,oc,od,sl,kV,dc,pm,an,cd,ct,a,l,d,k⟩:=a;exact⟨f,_,QH (st:=st) l d k,mg_of X G a⟩
noncomputable abbrev Hb(P:aI)(w:az)(K:di)(mg:Str->Option aa)(base:ay)(N:List Str)(x:Str)(st:bo)(k:Nat)(g:ak->Ou):Prop :=
 ∀(f:ae) (cdv:aa) (A:aT) (outer:List Env) (s:af) (H:Hp) (E:XK) (B:Bs),iB k (A.deeper (lT x (aF st) s.heap.objs.size f cdv)) ->
  nZ (nH (uf P w K) P w K mg base N x (aF st) f cdv A outer s H E) (fun c n _ H'=>E (uU c n) none H') ->
  tE (nH (uf P w K) P w K mg base N x (aF st) f cdv A outer s H E) B (fun c n _ H'=>E (uU c n) none H') (cu st) g
noncomputable abbrev Bi(x:Str)(st:bo)(ps:List Str):Prop:=∀(kV doc pm:aa) (an:Option ae) (cdv ct:aa) (us:List aa),us.length=ps.length->bindArgs (fnOf x x (fO st) (cu st) (aF st) .none kV doc pm an cdv ct) ⟨us,[]⟩=pure (ps.zip us)
theorem mz(F:iz K mg x st)(S:bJ N ps (aF st))(hb:Hb P w K mg base N x st k g)(hbi:Bi x st ps:=by intro _ _ _ _ _ _ us hl;rcases us with _|⟨_,_|⟨_,_|⟨_,_|⟨_,_|⟨_,us⟩⟩⟩⟩⟩ <;> first|rfl|(simp only[ck,eC]at hl;lia)) :
  ql P w K mg base x (k + 1) ps.length (fun ds=>dX (g (aY N ds))):=let ⟨f,_,F,hm⟩:=F;acE F hm S hbi (hb f)
end
theorem Dn.mk{K:di}{x:Str}{st:bo}{f:ae}{oc:aa}{od:Option ae}{sl:Array (Option aa)}{kV dc pm:aa}{an:Option ae}{cd ct:aa}(a:dP K cq x=some (some (.ref f)))(b:K.lookup f=some ⟨oc,od,.func (fnOf x x (fO st) (cu st) (aF st) .none kV dc pm an cd ct),sl⟩)(c:codeIn K cd x=true)(d:keepIn K (.ref f)=true):Dn K x st:=⟨f,oc,od,sl,kV,dc,pm,an,cd,ct,a,b,c,d⟩
end Vl
namespace Vl
open PySem PySem.Spec L2 So Tb
section
variable{X:Cx}{B:Bs}{W:Wi}{K:ai}
noncomputable def asS:D->Rs (List D)
 | .lst ds=>.ok ds
 | .tup ds=>.ok ds
 |_=>.no
theorem adC{tg iter:ah}{f:ak->Rs D}(hi:SE X B W iter f):SI X B W tg iter (fL f asS):=fun pins s σ H R I h=>by
 obtain⟨ρ,G,sr,p⟩:=h;have key:fL f asS ρ=fL f asL ρ∨fL f asS ρ=fL f asT ρ:=by
  unfold fL;cases f ρ with
  |ok d=>cases d <;> first|exact .inl rfl|exact .inr rfl
  |_=>exact .inl rfl
 rcases key with e|e
 ·rw[e]at p;exact Bw hi pins s σ H R I ⟨ρ,G,sr,p⟩
 ·rw[e]at p;exact RX hi pins s σ H R I ⟨ρ,G,sr,p⟩
end
end Vl
namespace Vl
open PySem PySem.Spec PySem.Calls PySem.W L2
section
variable{prog:aI}{w:az}{A:aT}{E:aa->af->Prop}{h:ay}{g:Array kS}{d:Drawn}{t:Nat}{os:OsState}
variable{nm q:Str}{C N:ae}{bs bm bmB:List aa}{hdct:Bool}{sn:List Str}{sub:List aa}{ab:Bool}{col:Option Bool}{dd:Option ae}{k0 k1 k2 k3 k5:Option aa}{Bb Bn newId nid initId inN:String}{bmN:List aa}
noncomputable def aij(C M:ae):List aa:=[.ref C,.ref M,.type "ValueError",.type "Exception",.type "BaseException",.type "object"]
structure Xik (K:di)(C M:ae)(nm:Str):Prop where
 cls:∃cd,clsIn K C=some cd/\cd.mro=aij C M/\cd.hasDict=true
 ob:mroIn K C (.type "object")=some true
 be:mroIn K C (.type "BaseException")=some true
 sa:findIn K (.ref C) "__setattr__"=some (some (.builtin "object.__setattr__"))
 no:findIn K (.ref C) nm=some none
 ga:findIn K (.ref C) "__getattribute__"=some (some (.builtin "BaseException.__getattribute__"))
 gh:findIn K (.ref C) "__getattr__"=some none
end
section
variable{X:Cx}{pins:List (ae×Obj)}{σ:St}{H:Hp}{s:af}
end
section
variable{X:Cx}{pins:List (ae×Obj)}{σ:St}{H:Hp}{s:af}
end
section
variable{P:aI}{w:az}{K:ai}{mg:Str->Option aa}{base:ay}
end
section
variable{X:Cx}{B:Bs}{W:Wi}{pins:List (ae×Obj)}{σ:St}{H:Hp}{s:af}{C f:ae}{fd:dn}{a:Str}{newId:String}
end
section
variable{M:Model}{A:aT}{E:aa->af->Prop}{env:Env}
variable{nm q:Str}{C N:ae}{bs bm:List aa}{hdct:Bool}{sn:List Str}{sub:List aa}{ab:Bool}{col:Option Bool}{dd:Option ae}{k0 k1 k2 k3 k5:Option aa}{newId:String}
end
section
variable{X:Cx}{B:Bs}{W:Wi}{C f:ae}{fd:dn}{a:Str}
end
section
variable{X:Cx}{B:Bs}{W:Wi}
end
section
variable{P:aI}{w:az}{K:di}{mg:Str->Option aa}{base:ay}{x:Str}{st:bo}{N ps:List Str}{k n:Nat}{g:ak->Ou}
end
end Vl
namespace Vl
open PySem PySem.Spec L2
section
variable{X:Cx}{B:Bs}{W:Wi}
end
end Vl
namespace Vl
open PySem PySem.Spec PySem.Calls PySem.W L2
structure ajh (K:di)(x:Str)(st:bo)(f:ae)(fd:dn)(ps:List Str)(b:Bool)(kn:Str):Prop extends ahY K x st f fd ps where
 bd:Binds K fd ps [.bool b]
 bk:∀(s:af) (us:List aa) (z:aa),K.In s.heap->us.length + 1=ps.length->i_ s fd ⟨us,[(kn,z)]⟩ (ps.zip (us++[z]))
section
variable{X:Cx}{B:Bs}{W:Wi}
end
end Vl
namespace L2
open PySem PySem.Spec PyProof.Rows AutoSeq1
section
variable{X:Cx}
end
end L2
namespace Vl
open PySem PySem.Spec L2
section
variable{X:Cx}{B:Bs}{W:Wi}{K:ai}{G:Hp}
end
end Vl
namespace Vl
open PySem PySem.Spec PySem.Calls PySem.W L2
section
variable{X:Cx}{B:Bs}{W:Wi}
end
section
variable{X:Cx}{B:Bs}{W:Wi}
end
section
variable{P:aI}{w:az}{K:ai}{mg:Str->Option aa}{base:ay}
end
section
variable{X:Cx}{B:Bs}{W:Wi}
end
section
variable{X:Cx}{B:Bs}{W:Wi}
end
section
variable{P:aI}{w:az}{K:ai}{mg:Str->Option aa}{base:ay}
end
section
variable{X:Cx}{B:Bs}{W:Wi}
end
section
variable{X:Cx}{K:ai}{B:Bs}{W:Wi}{σ:St}{G H:Hp}{ρ:ak}{a b:ah}{pos:Pos}{fa fb:ak->Rs D}
end
section
variable{X:Cx}{B:Bs}{W:Wi}
end
noncomputable abbrev JG:=List (List Int×D)
noncomputable def tD(K:ai)(B:Bs)(g:ak->Rs JG):TS:=fun De σ H=>∃ρ G,SR K B σ H ρ G/\(match g ρ with
 | .ok kvs=>∀a U bw H' G',Ext B.1 B.2 G' H'->Same G G'->G' a=none->B.2 a=none->H' a=some (.ext (iy U a bw))->(∀b ks,U b ks->UG K G' b ks)->cg K G' kvs bw->De.rt (.ref a) H'
 |_=>False)
noncomputable def SD(X:Cx)(B:Bs)(ss:List bo)(g:ak->Rs JG):Prop:=yH X ss (tD X.K B g)
section
variable{X:Cx}{B:Bs}{W:Wi}
noncomputable def Vu(i:Nat):ak->Rs JG:=fun ρ=>match ρ[i]? with|some (.od kvs)=>.ok kvs|_=>.no
theorem adD(i:Nat){x:Str}{p pos:Pos}(hN:X.N[i]?=some x:=by rfl)(hv:DW X.env.scope x:=by first|exact Or.inl rfl|exact Or.inr (Or.inl rfl)|exact Or.inr (Or.inr rfl))(hd:pK x:=by decide)(hcd:HF x:=by decide) :
  SD X B [.Return (some (.Name x p)) pos] (Vu i):=by
 refine yH.imp (Kl (Av (gP hN hv hd hcd))) fun De σ H ⟨ρ,G,s,q⟩=>?_;unfold Vu at q;cases e:ρ[i]? with
 |none=>rw[e]at q;exact q.elim
 |some z =>
  rw[e]at q;cases z with
  |od kvs =>
   obtain⟨a,U,bw,e1,h2,h3,h4,h5,h6⟩:=s.od e;exact⟨_,e1,q a U bw H G s.en (.refl _) h3 h4 h2 h5 h6⟩
  |_=>exact q.elim
noncomputable def xY(g:ak->Ou)(k:ak->Rs JG):ak->Rs JG:=fun ρ=>match g ρ with|.nx ρ'=>k ρ'|_=>.no
theorem Mw{st:bo}{rest:List bo}{g:ak->Ou}{k:ak->Rs JG}(h1:SS X B W st g)(h2:SD X B rest k):SD X B (st::rest) (xY g k):=by
 refine yH.imp (Ec h1 h2) fun De σ H ⟨ρ,G,s,p⟩=>⟨ρ,G,s,?_⟩
 unfold xY at p;cases e:g ρ with
 |nx ρ' =>
  rw[e]at p;dsimp only at p;refine fun σ' H' G' s' q=>⟨ρ',G',s',?_⟩
  cases e2:k ρ' with
  |ok kvs=>rw[e2]at p;exact fun a U bw H2 G2 x1 x2=>p a U bw H2 G2 x1 (q.trans x2)
  |ex c n=>rw[e2]at p;exact p.elim
  |no=>rw[e2]at p;exact p.elim
 |_=>rw[e]at p;exact p.elim
end
noncomputable def spD(K:ai)(n:Nat)(g:List D->Rs JG):Sp:=fun vs H Q E=>vs.length=n/\∃G ds,Ex0 K G H/\bA K G ds vs/\(match g ds with
 | .ok kvs=>∀a U bw H' G',Ext G H G' H'->G' a=none->H a=none->H' a=some (.ext (iy U a bw))->(∀b ks,U b ks->UG K G' b ks)->cg K G' kvs bw->Q (.ref a) H'
 |_=>False)
noncomputable def OkD(P:aI)(w:az)(K:ai)(mg:Str->Option aa)(base:ay)(x:Str)(k n:Nat)(v:List D->Rs JG):Prop :=
 ∃f fd ps,nO P w K mg base (uf P w K) k f fd ps (spD K n v)/\mg x=some (.ref f)/\ij K (.ref f)=true/\Binds K fd ps []
theorem adE{P:aI}{w:az}{K:ai}{mg:Str->Option aa}{base:ay}{x:Str}{st:bo}{f:ae}{fd:dn}{N ps:List Str}{k:Nat}{g:ak->Rs JG}(F:Fun K x x st f fd)(hm:mg x=some (.ref f))(S:bJ N ps (aF st))
  (hbi:∀(kV doc pm:aa) (an:Option ae) (cdv ct:aa) (us:List aa),us.length=ps.length->bindArgs (iL x x (fO st) (cu st) (aF st) .none kV doc pm an cdv ct) ⟨us,[]⟩=pure (ps.zip us))
  (hb:∀(cdv:aa) (A:aT) (outer:List Env) (s:af) (H:Hp) (E:XK) (B:Bs),iB k (A.deeper (lT x (aF st) s.heap.objs.size f cdv)) ->
   nZ (nH (uf P w K) P w K mg base N x (aF st) f cdv A outer s H E) (fun c n _ H'=>E (uU c n) none H') ->
   SD (nH (uf P w K) P w K mg base N x (aF st) f cdv A outer s H E) B (cu st) g) :
  OkD P w K mg base x (k + 1) ps.length (fun ds=>g (aY N ds)):=by
 refine⟨f,fd,ps,?_,hm,F.kp,F.binds hbi⟩;obtain⟨oc,od,kV,doc,pm,an,cdv,ct,osl,rfl,lk,hcd⟩:=F.ex;refine Kr lk hcd S (fun vs H Q E h=>h.1) fun A outer s H vs Q E hr _ h=>?_;obtain⟨_,G,ds,e,r,h⟩:=h;dsimp only at h;refine⟨_,hb cdv A outer s H E ⟨G,H,0⟩ hr (oh jd rfl),aY N ds,G,wA e r,?_⟩;cases e1:g (aY N ds) with
 |ok kvs=>rw[e1]at h;exact fun a U bw H' G' x q g1 b1 h1 h2 h3=>h a U bw H' G' x g1 b1 h1 h2 h3
 |ex c n=>rw[e1]at h;exact h.elim
 |no=>rw[e1]at h;exact h.elim
section
variable{X:Cx}{B:Bs}{W:Wi}
noncomputable def Df(i n:Nat)(g:List D->Rs JG)(fs:ak->Rs (List D)):ak->Ou:=fun ρ=>oR (fs ρ) ρ fun ds=>if ds.length=n then (match g ds with|.ok kvs=>.nx (ρ.set i (.od kvs))|_=>.no) else .no
theorem Vv(i:Nat){x y:Str}{p pos pos' cp:Pos}{e:ah}{es:List ah}{fs:ak->Rs (List D)}{k n kr:Nat}{g:List D->Rs JG}(O:OkD X.prog X.w X.K X.mg X.base x k n g)(hr:iB kr X.A)(hN:X.N.Nodup)(ha:SA X B W (e::es) fs)(hi:X.N[i]?=some y:=by rfl)(hx:Kg X.env.scope y:=by first|exact Or.inl rfl|exact Or.inr rfl)
  (hs:eD (.Call (.Name x p) (e::es) [] cp) (some (.Name y pos')) pos.line X.env=pure false:=by rfl) (hf:X.fn y=true∨X.env.scope.names.lookup y=some .local:=by first|exact .inl rfl|exact .inr rfl|assumption) (hg:Gl X x:=by rfl) (hdb:pK x:=by decide)
  (he:ba (e::es) X.env=(false,bb e X.env)::ba es X.env:=by rfl) (hpl:(df cp (ba es X.env)).any (·.1)=false:=by rfl) (Xf:k<=kr:=by decide) :
  SS X B W (.Assign [.Name y pos'] (.Call (.Name x p) (e::es) [] cp) pos) (Df i n g fs):=by
 obtain⟨f,fd,ps,F,hm,hk,hb⟩:=O
 replace hr:=hr.mono Xf
 refine PS.imp (vP hN hi hx (xT F hr hg hm hk hb ha hdb he hpl) hs hf) fun De σ H ⟨ρ,G,s,p⟩=>⟨ρ,G,s,?_⟩
 unfold Df at p;cases e:fs ρ with
 |ok ds =>
  rw[e]at p;dsimp only[oR]at p;by_cases hl:ds.length=n
  ·rw[if_pos hl]at p;intro vs H1 G1 x r;refine⟨by rw[<- r.length];exact hl,G1,ds,(s.ext x).ex0,r,?_⟩;cases e1:g ds with
   |ok kvs =>
    rw[e1]at p;dsimp only at p ⊢;intro a U bw H' G' y g1 h1 h2 h3 h4;have s1:=s.ext x
    let H2:Hp:=Mj H' a
    have y2:Ext G1 H1 G' H2:=⟨y.gg,fun b o w=>by
      show Mj H' a b=some o;rw[jD (aM w h1)];exact y.hh b o w,fun b o w=>by
      show Mj H' a b=some o;rw[jD (aM w g1)];exact y.gh b o w,fun b xs w=>y.tp b xs (xR w).2,y.nw⟩
    have s2:=(s1.ext y2).Ig (i:=i) (z:=.od kvs) (p:=a) (o:=.ext (iy U a bw)) rfl ⟨U,bw,rfl,h3,h4⟩ sI;have e2:upd H2 a (.ext (iy U a bw))=H':=by
     funext b;by_cases w:b=a
     ·subst w;rw[aQ];exact h2.symm
     ·rw[aL w];exact jD w
    rw[e2]at s2;exact p _ H' G' s2 (x.gg.trans y.gg)
   |ex c m=>rw[e1]at p;exact p.elim
   |no=>rw[e1]at p;exact p.elim
  ·rw[if_neg hl]at p;exact p.elim
 |ex c m=>rw[e]at p;exact fun H1 G1 x=>p σ H1 G1 (s.ext x) x.gg
 |no=>rw[e]at p;exact p
end
section
variable{X:Cx}{K:ai}{B:Bs}{W:Wi}
end
section
variable{X:Cx}{B:Bs}{W:Wi}
end
section
variable{X:Cx}{B:Bs}
end
section
variable{X:Cx}{K:ai}{B:Bs}{W:Wi}{a b:ah}{pos:Pos}{fa fb:ak->Rs D}
end
end Vl
namespace Vl
open PySem PySem.Spec L2
section
variable{X:Cx}{B:Bs}{W:Wi}{K:ai}
variable{o e:ah}{apos cpos:Pos}{fo fe:ak->Rs D}
end
end Vl
namespace L2
open PySem PySem.Spec PyProof.Rows
section
variable{X:Cx}{tg:ah}
end
end L2
namespace Vl
open PySem PySem.Spec PySem.Calls PySem.W L2
section
variable{X:Cx}{B:Bs}{W:Wi}{K:ai}{σ:St}{G H:Hp}{ρ:ak}{De:Ends}
end
section
variable{P:aI}{w:az}{K:di}{mg:Str->Option aa}{base:ay}{x:Str}{st:bo}{N ps:List Str}{m:Nat}
theorem GR{g:(List D->Rs D)->ak->Ou}{v:Nat->List D->Rs D}(k0:Nat)(F:iz K mg x st)(S:bJ N ps (aF st))(hb:∀k vr,k0<=k->ql P w K mg base x k ps.length vr->Hb P w K mg base N x st k (g vr))
  (hbi:Bi x st ps:=by intro _ _ _ _ _ _ us hl;rcases us with _|⟨_,_|⟨_,_|⟨_,_|⟨_,_|⟨_,us⟩⟩⟩⟩⟩ <;> first|rfl|(simp only[ck,eC]at hl;lia)) (h0:v 0=fun _=>.no:=by rfl) (hs:∀n,v (n + 1)=fun ds=>dX (g (v n) (aY N ds)):=by intro _;rfl) :
  ∀n,ql P w K mg base x (k0 + 1 + n) ps.length (v n)
 | 0=>by rw[h0];exact mz (k:=k0) (g:=fun _=>.no) F S (fun _ _ _ _ _ _ _ _ _ _=>NZ) hbi
 |n + 1=>by rw[hs];exact mz (k:=k0 + 1 + n) F S (hb _ _ (by lia) (GR k0 F S hb hbi h0 hs n)) hbi
end
section
variable{X:Cx}{B:Bs}{W:Wi}{K:ai}
end
end Vl
namespace Vl
open PySem PySem.Spec PySem.Calls PySem.W L2 So Tb
section
variable{X:Cx}{B:Bs}{W:Wi}{K:ai}
end
end Vl
namespace Vl
open PySem PySem.Spec PySem.Calls PySem.W L2
section
variable{P:aI}{w:az}{K:di}{mg:Str->Option aa}{base:ay}{x:Str}{st:bo}{N ps:List Str}{k:Nat}
noncomputable abbrev HbD(P:aI)(w:az)(K:di)(mg:Str->Option aa)(base:ay)(N:List Str)(x:Str)(st:bo)(k:Nat)(g:ak->Rs JG):Prop :=
 ∀(f:ae) (cdv:aa) (A:aT) (outer:List Env) (s:af) (H:Hp) (E:XK) (B:Bs),iB k (A.deeper (lT x (aF st) s.heap.objs.size f cdv)) ->
  nZ (nH (uf P w K) P w K mg base N x (aF st) f cdv A outer s H E) (fun c n _ H'=>E (uU c n) none H') ->
  SD (nH (uf P w K) P w K mg base N x (aF st) f cdv A outer s H E) B (cu st) g
theorem afS{g:ak->Rs JG}(F:iz K mg x st)(S:bJ N ps (aF st))(hb:HbD P w K mg base N x st k g)(hbi:Bi x st ps:=by intro _ _ _ _ _ _ us hl;rcases us with _|⟨_,_|⟨_,_|⟨_,_|⟨_,_|⟨_,us⟩⟩⟩⟩⟩ <;> first|rfl|(simp only[ck,eC]at hl;lia)) :
  OkD P w K mg base x (k + 1) ps.length (fun ds=>g (aY N ds)):=let ⟨f,_,F,hm⟩:=F;adE F hm S hbi (hb f)
end
section
variable{X:Cx}{B:Bs}{W:Wi}
end
section
variable{X:Cx}{B:Bs}
end
section
variable{P:aI}{w:az}{K:di}{mg:Str->Option aa}{base:ay}
end
end Vl
namespace L2
open PySem PySem.Spec PyProof.Rows Vl
structure aji (P:aI)(w:az)(K:ai)(mg:Str->Option aa)(base:ay)(k:Nat)(f:ae)(fd:dn)(ps:List Str)(sp:List V->Hp->VK->Prop):Prop where
 len:∀vs H Q,sp vs H Q->vs.length=ps.length
 run:∀(A:aT) (ea:ae) (outer:List Env) (s:af) (H:Hp) (args:Args) (us:List aa) (vs:List V) (Q:VK),iB k A->Qz P w K mg base A outer s H->i_ s fd args (ps.zip us)->Vals vs us->sp vs H Q ->
  ja (aw P w) (A.mark (some (.ref ea))) (.call (.ref f) args) (CR (fun _ _ _ _ _ _=>False) outer P w H s Q fun _ _ _=>False) s
end L2
namespace Vl
open PySem PySem.Spec PySem.Calls PySem.W L2
section
variable{P:aI}{w:az}{K:di}{mg:Str->Option aa}{base:ay}{x:Str}{st:bo}{N ps:List Str}{k:Nat}{g:ak->Ou}
end
section
variable{X:Cx}{B:Bs}{ea:ae}
end
section
variable{X:Cx}{B:Bs}{W:Wi}{G H:Hp}
theorem pinned{P:aI}{w:az}{H':Hp}{h:ay}{d:ae}{U:ae->List Int->Prop}{bw:List (List Int×V)}(z:dD P w H' h d (.ext (iy U d bw))):∃o,dD P w H' h d (.ext fun h=>h.get? d=some o/\iy U d bw h):=by obtain⟨hd,⟨o,ho⟩,hs⟩:=z;exact⟨o,⟨ho,hd⟩,⟨o,ho⟩,fun h1 h2 z k=>⟨k _ z.1,hs _ _ z.2 k⟩⟩
end
end Vl
namespace Vl
open PySem PySem.Spec PySem.Calls PySem.W L2 Dk
section
variable{prog:aI}{w:az}{A:aT}{E:aa->af->Prop}{s:af}
end
section
variable{X:Cx}{B:Bs}{W:Wi}
variable{a b:ah}{pos:Pos}{fa fb:ak->Rs D}
end
end Vl
namespace Vl
open PySem PySem.Spec PySem.W L2
section
variable{X:Cx}{B:Bs}{W:Wi}{σ:L2.St}{H:Hp}{K:ai}
end
end Vl
namespace Vl
open PySem PySem.Spec PySem.Calls PySem.W L2
section
variable{prog:aI}{w:az}{A:aT}{R:Result->af->Prop}{I:ae}{fp wr:List ae}{n:Nat}{P:Nat->aa->Prop}{St:Nat->ay->Prop}{dv:aa}
end
section
variable{X:Cx}{B:Bs}{W:Wi}{pins:List (ae×Obj)}{σ:St}
end
noncomputable abbrev Mp:=List (List Int×List D)
inductive LR (K:di) (B:Bs) (G H:Hp):Mp->List (List Int×V)->Prop
 |nil:LR K B G H [] []
 |cons {k:List Int}{ds:List D}{l:ae}{vs:List V}{m:Mp}{bw:List (List Int×V)}:H l=some (.lst vs)->G l=none->B.2 l=none->bA K G ds vs->(∀p∈bw,p.2≠.ref l)->LR K B G H m bw->LR K B G H ((k,ds)::m) ((k,.ref l)::bw)
section
variable{K:di}{B:Bs}{G H G' H':Hp}{m:Mp}{bw:List (List Int×V)}{σ:St}{ρ:ak}
end
section
variable{X:Cx}{B:Bs}{W:Wi}
end
section
variable{X:Cx}{B:Bs}{W:Wi}
noncomputable def Qh(c:ak->Rs Bool)(gb:ak->Ou):Nat->ak->Ou
 | 0,_=>.no
 |n + 1,ρ=>match c ρ with
  | .ok true=>(match gb ρ with
   | .nx ρ2=>Qh c gb n ρ2
   | .ct ρ2=>Qh c gb n ρ2
   | .bk ρ2=>.nx ρ2
   |o=>o)
  | .ok false=>.nx ρ
  | .ex e k=>.ex e k ρ
  | .no=>.no
noncomputable def JH(n:Nat)(c:ak->Rs Bool)(gb:ak->Ou):ak->Ou:=Qh c gb n
theorem GX(n:Nat){c:ah}{body:List bo}{pos:Pos}{fc:ak->Rs Bool}{gb:ak->Ou}(hp:kf (aw X.prog X.w) X.A X.env X.xe)(hc:ST X B W c fc)(hb:tE X B W body gb):SS X B W (.While c body [] pos) (JH n fc gb):=by
 refine PS.imp (Qm hp hc hb) fun De σ H hq=>?_;obtain⟨ρ,G,s,p⟩:=hq;refine⟨fun m σ H=>∃ρ G,SR X.K B σ H ρ G/\bQ X.K B W G (Qh fc gb m ρ) De,⟨n,ρ,G,s,p⟩,?_⟩;rintro m σ1 H1 ⟨ρ1,G1,s1,p1⟩;cases m with
 |zero=>exact p1.elim
 |succ m =>
  refine⟨ρ1,G1,s1,?_⟩;unfold Qh at p1;cases e:fc ρ1 with
  |no=>rw[e]at p1;exact p1
  |ex c k=>rw[e]at p1;exact fun H2 G2 x=>p1 σ1 H2 G2 (s1.ext x) x.gg
  |ok b =>
   rw[e]at p1;intro H2 G2 x;cases b with
   |false=>rw[if_neg (by simp)];exact p1 σ1 H2 G2 (s1.ext x) x.gg
   |true =>
    rw[if_pos rfl];dsimp only at p1;refine⟨fun σ' H'=>∃ρ' G',SR X.K B σ' H' ρ' G'/\bQ X.K B W G' (Qh fc gb m ρ') De,fun σ' H' h=>⟨m,xj _,h⟩,ρ1,G2,s1.ext x,?_⟩;cases e2:gb ρ1 with
    |nx ρ2=>rw[e2]at p1;exact fun σ' H' G' s' q=>⟨ρ2,G',s',bQ.same p1 (x.gg.trans q)⟩
    |ct ρ2=>rw[e2]at p1;exact fun σ' H' G' s' q=>⟨ρ2,G',s',bQ.same p1 (x.gg.trans q)⟩
    |bk ρ2=>rw[e2]at p1;exact fun σ' H' G' s' q=>p1 σ' H' G' s' (x.gg.trans q)
    |rt d=>rw[e2]at p1;exact bQ.same p1 x.gg
    |ex c n ρ2=>rw[e2]at p1;exact bQ.same p1 x.gg
    |no=>rw[e2]at p1;exact p1
    |rx d ρ2=>rw[e2]at p1;exact bQ.same p1 x.gg
    |rl ds=>rw[e2]at p1;exact bQ.same p1 x.gg
instance (i j:Int):Decidable ((fun(_:Int) (j:Int)=>0<=j) i j):=inferInstanceAs (Decidable (0<=j))
noncomputable def Vw:=gI (fun _ j=>0<=j) fun i j=>D.int (i / 2 ^ j.toNat)
noncomputable def Zy:=gI0 fun i j=>D.int (qo i j)
variable{a b:ah}{pos:Pos}{fa fb:ak->Rs D}
theorem adF(ha:SE X B W a fa)(hb:SE X B W b fb):SE X B W (.BinOp a .RShift b pos) (aV Vw fa fb):=uJ abF (Em fun _ _ _=>aU.mpr rfl) ha hb
theorem adG(ha:SE X B W a fa)(hb:SE X B W b fb):SE X B W (.BinOp a .BitAnd b pos) (aV Zy fa fb):=uJ abG (vW fun _ _ _=>aU.mpr rfl) ha hb
noncomputable def FnV(K:di)(mg:Str->Option aa)(x:Str):Prop:=∃f o fd,mg x=some (.ref f)/\dP K cq x=some (some (.ref f))/\K.lookup f=some o/\o.data=.func fd
theorem Dn.fnv{K:di}{mg:Str->Option aa}{x:Str}{st:bo}{h:ay}(a:Dn K x st)(Y:K.In h)(G:h.Ns cq mg):FnV K mg x:=by obtain⟨f,oc,od,sl,kV,dc,pm,an,cd,ct,h1,h2,_⟩:=id a;obtain⟨f',fd,F,hm⟩:=a.ent Y G;have e:mg x=some (.ref f):=mg_of Y G h1;exact⟨f,_,_,e,h1,h2,rfl⟩
theorem afT{x:Str}{pos:Pos}(h:FnV X.K X.mg x)(hg:Gl X x:=by rfl)(hd:pK x:=by decide):SE X B W (.Name x pos) (fC (.fn x)):=by obtain⟨f,o,fd,hm,hn,lk,ho⟩:=h;exact QM (Xk (v:=.ref f) hg hm rfl hd) fun G=>vV.mpr ⟨f,o,fd,rfl,hn,lk,ho⟩
noncomputable abbrev Ntb:=List (Str×(List D->Rs D))
noncomputable def GZ(i n:Nat)(tb:Ntb)(fs:ak->Rs (List D)):ak->Rs D:=fun ρ=>match ρ[i]? with
 |some (.fz (.fn y))=>(match tb.lookup y with
  |some g=>(fs ρ).bind fun ds=>if ds.length=n then (match g ds with|.ok d=>.ok d|_=>.no) else .no
  |none=>.no)
 |_=>.no
theorem Zz(i:Nat){x:Str}{p pos:Pos}{e:ah}{es:List ah}{fs:ak->Rs (List D)}{k n kr:Nat}{tb:Ntb}(O:∀y g,tb.lookup y=some g->ql X.prog X.w X.K X.mg X.base y k n g/\FnV X.K X.mg y)(hr:iB kr X.A)(ha:SA X B W (e::es) fs)
  (hN:X.N[i]?=some x:=by rfl) (hv:DW X.env.scope x:=by first|exact Or.inl rfl|exact Or.inr (Or.inl rfl)|exact Or.inr (Or.inr rfl)) (hd:pK x:=by decide)
  (hcd:HF x:=by decide) (he:ba (e::es) X.env=(false,bb e X.env)::ba es X.env:=by rfl) (hpl:(df pos (ba es X.env)).any (·.1)=false:=by rfl) (Xf:k<=kr:=by decide) :
  SE X B W (.Call (.Name x p) (e::es) [] pos) (GZ i n tb fs):=by
 intro pins s σ H Q I hq;obtain⟨ρ,G,sr,q⟩:=hq;unfold GZ at q;split at q
 ·rename_i y e1;split at q
  ·rename_i g e2;obtain⟨⟨f,fd,ps,F,hm,hk,hb⟩,f',o',fd',hm',hn',lk',ho'⟩:=O y g e2;rw[hm]at hm';cases hm';obtain⟨v,e3,r⟩:=sr.fz i _ e1;obtain⟨a,o,fd2,rfl,hn,lk,ho⟩:=vV.mp r;rw[hn']at hn;cases hn;refine oy (gO (gP (pos:=p) hN hv hd hcd pins s σ H (fun v H1=>v=.ref f/\H1=H) I ⟨_,e3,rfl,rfl⟩) fun u s0 dF=>?_);obtain⟨v0,H0,I0,r0,ev,eh⟩:=dF;subst ev;subst eh;cases r0;have hA:=ha pos pins s0 σ H0 (fun vs H1=>Yj X.K n g vs H1 Q fun _ _ _=>False) I0 ⟨ρ,G,sr,?_⟩
   ·refine ve (h₀:=X.base) I0.ok.mod.Kf hk (gO hA fun us s1 dF=>⟨?_,?_⟩) he hpl
    ·obtain⟨vs,H1,I1,r1,q1⟩:=dF;exact I1.DY
    obtain⟨vs,H1,I1,r1,q1⟩:=dF;have hl:(us++[]).length=ps.length:=by rw[eI,<- r1.length];exact F.len _ _ _ _ q1
    have hbb:=hb s1 us I1.DY hl;rw[eI]at hbb;refine qB (lj (F.run X.A X.stack s1 H1 ⟨us,[]⟩ us vs Q _ (hr.mono Xf) I1.env0 hbb r1 q1) fun r s' hq=>?_);cases r with
    |error e=>obtain⟨ea,c,n,H',_,_,_,_,_,_,w⟩:=hq;exact w.elim
    |ok fl =>
     cases fl with
     |ret u=>exact I1.after hq
     |next=>exact eR hq
     |brk=>exact eR hq
     |cont=>exact eR hq
   ·cases e4:fs ρ with
    |no=>rw[e4]at q;exact q
    |ex c m=>rw[e4]at q;exact q
    |ok ds =>
     rw[e4]at q;intro vs H1 G1 x1 r1;have q':Post X.K W σ G H0 (if ds.length=n then (match g ds with|.ok d=>.ok d|_=>.no) else .no) Q:=q;by_cases hl:ds.length=n
     ·rw[if_pos hl]at q';refine⟨by rw[<- r1.length];exact hl,G1,ds,(sr.ext x1).ex0,r1,?_⟩;cases e5:g ds with
      |ok d=>rw[e5]at q';exact fun v H' G' y r=>q' v H' G' (x1.trans y) r
      |ex c m=>rw[e5]at q';exact q'.elim
      |no=>rw[e5]at q';exact q'.elim
     ·rw[if_neg hl]at q';exact q'.elim
  ·exact q.elim
 ·exact q.elim
end
noncomputable abbrev Kv:=List (List Int×D)
noncomputable def Hf:Sl->Option Kv
 | .od kvs=>some kvs
 | .oe kvs=>some kvs
 |_=>none
noncomputable def qG:Sl->Kv->Sl
 | .od _,kvs=>.od kvs
 | .oe _,kvs=>.oe kvs
 |z,_=>z
theorem vB{z:Sl}{ds:Kv}(h:Hf z=some ds):z.own=true:=by cases z <;> first|rfl|cases h
theorem Pu{z:Sl}{ds es:Kv}(h:Hf z=some ds):(qG z es).own=true:=by cases z <;> first|rfl|cases h
theorem Py{z:Sl}{ds es:Kv}(h:Hf z=some ds)(e:(qG z es).lnt=true):z.lnt=true:=by cases z <;> first|rfl|cases e|cases h
section
variable{X:Cx}{K:di}{B:Bs}{W:Wi}{σ:St}{G H G' H':Hp}{ρ:ak}
theorem Vx{z:Sl}{ds es:Kv}{U:ae->List Int->Prop}{bw:List (List Int×V)}{a:ae}(h:Hf z=some ds)(hu:∀b ks,U b ks->UG K G b ks)(r:cg K G es bw):nQ K G a (qG z es) (.ext (iy U a bw)):=by
 cases z <;> first|exact⟨U,bw,rfl,hu,r⟩|cases h
theorem SR.Hf(s:SR K B σ H ρ G){i:Nat}{z:Sl}{kvs:Kv}(q:ρ[i]?=some z)(hl:Vl.Hf z=some kvs) :
  ∃a U bw,σ[i]?=some (some (.ref a))/\H a=some (.ext (iy U a bw))/\G a=none/\B.2 a=none/\(∀b ks,U b ks->UG K G b ks)/\cg K G kvs bw:=by
 obtain⟨a,o,h1,h2,h3,h4,h5⟩:=s.own i z q (vB hl);cases z with
 |od es=>cases hl;obtain⟨U,bw,rfl,h6,r⟩:=h5;exact⟨a,U,bw,h1,h2,h3,h4,h6,r⟩
 |oe es=>cases hl;obtain⟨U,bw,rfl,h6,r⟩:=h5;exact⟨a,U,bw,h1,h2,h3,h4,h6,r⟩
 |_=>cases hl
theorem SR.afV(s:SR K B σ H ρ G){i:Nat}{z:Sl}{ds es:Kv}{a:ae}{U:ae->List Int->Prop}{bw:List (List Int×V)}(q:ρ[i]?=some z)(hl:Vl.Hf z=some ds)(ha:σ[i]?=some (some (.ref a)))
  (e:Ext G (Mj H a) G' H') (g:G' a=none) (h:H' a=some (.ext (iy U a bw))) (hu:∀b ks,U b ks->UG K G' b ks) (r:cg K G' es bw):SR K B σ H' (ρ.set i (qG z es)) G':=by
 have li:i < ρ.length:=(dm.mp q).1;obtain⟨a0,o0,h1,h2,h3,h4,h5⟩:=s.own i z q (vB hl);have ea:a0=a:=by rw[h1]at ha;injection ha with z;injection z with z;injection z
 subst ea;have kO:∀{j:Nat}{x:Sl},(ρ.set i (qG z es))[j]?=some x->(i=j/\x=qG z es)∨(i≠j/\ρ[j]?=some x):=fun {j x} q=>by
  by_cases e:i=j
  ·subst e;rw[dC li]at q;cases q;exact .inl ⟨rfl,rfl⟩
  ·rw[de e]at q;exact .inr ⟨e,q⟩
 refine⟨⟨s.en.gg.trans e.gg,fun b o w=>?_,e.gh,e.tp,fun b o w n=>?_⟩,by simp[s.len],fun j d w=>?_,fun j x w wx=>?_,fun j k x x' c z1 w1 z2 w2 z3 z4=>?_,fun j fs c z1 wl z2=>?_,fun y m=>?_⟩
 ·have ne:b≠a0:=aM w h4;exact e.hh b o (by rw[jD ne];exact s.en.hh b o w)
 ·have ne:b≠a0:=aM w h4;exact e.nw b o (by rw[jD ne];exact s.en.hh b o w) (s.en.nw b o w n)
 ·rcases kO w with ⟨_,e1⟩|⟨_,w⟩
  ·have:=Pu (es:=es) hl;rw[<- e1]at this;cases this
  ·obtain⟨v,q1,q2⟩:=s.fz j d w;exact⟨v,q1,q2.mono e.gg⟩
 ·rcases kO w with ⟨e1,e2⟩|⟨e1,w⟩
  ·subst e1;subst e2;exact⟨a0,_,ha,h,g,h4,Vx hl hu r⟩
  ·obtain⟨b,o,q1,q2,q3,q4,q5⟩:=s.own j x w wx;have ne:b≠a0:=fun e2=>by subst e2;exact e1 (s.ap i j z x b q (vB hl) w wx ha q1)
   exact⟨b,o,q1,e.hh b o (by rw[jD ne];exact q2),e.nw b o (by rw[jD ne];exact q2) q3,q4,q5.mono e.gg⟩
 ·have old:∀{l:Nat}{y:Sl},(ρ.set i (qG z es))[l]?=some y->y.own=true->∃y',ρ[l]?=some y'/\y'.own=true:=fun {l y} w wy=>by
   rcases kO w with ⟨e1,e2⟩|⟨e1,w⟩
   ·subst e1;exact⟨z,q,vB hl⟩
   ·exact⟨y,w,wy⟩
  obtain⟨y1,p1,p2⟩:=old z1 w1;obtain⟨y2,p3,p4⟩:=old z2 w2;exact s.ap j k y1 y2 c p1 p2 p3 p4 z3 z4
 ·rcases kO z1 with ⟨e1,e2⟩|⟨e1,w⟩
  ·subst e1;rw[e2]at wl;exact s.tie i z c q (Py hl wl) z2
  ·exact s.tie j fs c w wl z2
 ·have t:=s.co y m;exact e.hh _ _ (by rw[jD (fun z=>by subst z;rw[h2]at t;exact h5.tab _ (dE t))];exact t)
noncomputable def unE(j:Nat)(ρ:ak):ak:=match ρ[j]? with
 |some (.oe kvs)=>ρ.set j (.od kvs)
 |_=>ρ
theorem SR.unE(s:SR K B σ H ρ G)(j:Nat):SR K B σ H (unE j ρ) G:=by
 unfold Vl.unE;split
 ·rename_i kvs q;have li:j < ρ.length:=(dm.mp q).1;have kO:∀{k:Nat}{x:Sl},(ρ.set j (.od kvs))[k]?=some x->(j=k/\x=.od kvs)∨(j≠k/\ρ[k]?=some x):=fun {k x} q=>by
   by_cases e:j=k
   ·subst e;rw[dC li]at q;cases q;exact .inl ⟨rfl,rfl⟩
   ·rw[de e]at q;exact .inr ⟨e,q⟩
  have old:∀{l:Nat}{y:Sl},(ρ.set j (.od kvs))[l]?=some y->y.own=true->∃y',ρ[l]?=some y'/\y'.own=true:=fun {l y} w wy=>by
   rcases kO w with ⟨e1,e2⟩|⟨e1,w⟩
   ·subst e1;exact⟨_,q,rfl⟩
   ·exact⟨y,w,wy⟩
  refine⟨s.en,by simp[s.len],fun i d w=>?_,fun i x w wx=>?_,fun i k x x' c z1 w1 z2 w2 z3 z4=>?_,fun i x c z1 wl z2=>?_,s.co⟩
  ·rcases kO w with ⟨_,e1⟩|⟨_,w⟩
   ·cases e1
   ·exact s.fz i d w
  ·rcases kO w with ⟨e1,e2⟩|⟨e1,w⟩
   ·subst e1;subst e2;obtain⟨a,o,h1,h2,h3,h4,h5⟩:=s.own j _ q rfl;exact⟨a,o,h1,h2,h3,h4,h5⟩
   ·exact s.own i x w wx
  ·obtain⟨y1,p1,p2⟩:=old z1 w1;obtain⟨y2,p3,p4⟩:=old z2 w2;exact s.ap i k y1 y2 c p1 p2 p3 p4 z3 z4
  ·rcases kO z1 with ⟨e1,e2⟩|⟨e1,w⟩
   ·rw[e2]at wl;cases wl
   ·exact s.tie i x c w wl z2
 ·exact s
noncomputable def adH{α:Type}(j:Nat)(f:ak->Rs α):ak->Rs α:=fun ρ=>f (unE j ρ)
theorem adI(j:Nat){e:ah}{f:ak->Rs Bool}(h:ST X B W e f):ST X B W e (adH j f):=PT.imp h fun σ H Q ⟨ρ,G,s,p⟩=>⟨unE j ρ,G,s.unE j,p⟩
noncomputable def Ac(j:Nat)(f:ak->Rs D):ak->Ou:=fun ρ=>match ρ[j]? with
 |some (.oe kvs)=>oR (f ρ) ρ fun k=>(match qp k with
  |some ks=>if kvs.length<=1000000/\(fV kvs ks).isSome then .nx (ρ.set j (.oe (iZ kvs ks))) else .no
  |none=>.no)
 |_=>.no
theorem Mx(j:Nat){x:Str}{e:ah}{pos p1 p2 cp:Pos}{f:ak->Rs D}(hu:X.A.units + 8 < bS)(he:SE X B W e f)(hN:X.N[j]?=some x:=by rfl)(hv:DW X.env.scope x:=by first|exact Or.inl rfl|exact Or.inr (Or.inl rfl)|exact Or.inr (Or.inr rfl))(hd:pK x:=by decide)
  (hcd:HF x:=by decide) (hst:ba [e] X.env=[(false,bb e X.env)]:=by rfl)
  (hbase:k9 (.Name x p1) "pop" X.env (bb (.Name x p1) X.env)=bb (.Name x p1) X.env:=by rfl)
  (hfew:((df cp (ba [e] X.env)).all (fun x=>!x.1) && (k_ cp (lh [] X.env)).all (fun x=>x.1.isSome)
   && decide (([e]:List ah).length + ([]:List fF).length + (if ([]:List fF).isEmpty then 0 else 1) < 30))=true:=by rfl)
  (hline:(p2.endLine == cp.line)=true:=by rfl) (hplain:(df cp (ba [] X.env)).any (·.1)=false:=by rfl)
  (hs:eD (.Call (.Attribute (.Name x p1) "pop" p2) [e] [] cp) none pos.line X.env=pure false:=by rfl) :
  SS X B W (.Expr (.Call (.Attribute (.Name x p1) "pop" p2) [e] [] cp) pos) (Ac j f):=by
 refine PS.imp (pN (Mf (iO (Nat.add_le_add_left (by decide) _) hu) (gP hN hv hd hcd) (eG he jA hst) hbase hst hfew hline hplain) hs) fun De σ H ⟨ρ,G,s,p⟩=>?_;unfold Ac at p;cases e2:ρ[j]? with
 |none=>rw[e2]at p;exact p.elim
 |some z =>
  rw[e2]at p;cases z with
  |oe kvs =>
   obtain⟨d0,U0,yS,h1,h2,h3,h4,h5,h6⟩:=s.Hf e2 rfl;refine⟨d0,U0,yS,h1,h2,ρ,G,s,fQ s p fun k v H' G' _ y r p'=>?_⟩;cases e1:qp k with
   |none=>rw[e1]at p';exact p'.elim
   |some ks =>
    rw[e1]at p';dsimp only at p';by_cases hc:kvs.length<=1000000/\(fV kvs ks).isSome
    ·rw[if_pos hc]at p';obtain⟨b',rfl,hb⟩:=CN r e1;have q5:∀c js,U0 c js->UG X.K G' c js:=fun c js z=>Same.dU y.gg (h5 c js z);have q7:=h6.mono y.gg;rcases q7.get (ks:=ks) with ⟨w1,w2⟩|⟨dd,vv,w1,w2,w3⟩
     ·rw[w1]at hc;exact absurd hc.2 (by decide)
     ·refine⟨b',d0,ks,U0,yS,vv,rfl,rfl,Same.dU y.gh hb,y.hh _ _ h2,fun c js z=>Same.dU y.gh (q5 c js z),by rw[<- q7.len];exact hc.1,w2,?_⟩;exact p' σ _ G' ((s.ext y).rH e2 rfl h1 rfl ⟨U0,_,rfl,q5,q7.out⟩ (fun _=>rfl)) (.refl _)
    ·rw[if_neg hc]at p';exact p'.elim
  |_=>exact p.elim
noncomputable def RE(K:di)(a:ae)(G H:Hp)(Q:VK)(r:Rs (D×Kv)):Prop:=match r with
 | .ok (d,es)=>∀v H' G' U bw,Ext G (Mj H a) G' H'->G' a=none->H' a=some (.ext (iy U a bw))->(∀b ks,U b ks->UG K G' b ks)->cg K G' es bw->Rep K G' d v->Q v H'
 |_=>False
noncomputable def spE(K:di)(n:Nat)(g:Kv->List D->Rs (D×Kv)):Sp:=fun vs H Q E=>vs.length=n + 1/\∃a us G U bw es ds,vs=.ref a::us/\Ex0 K G H/\G a=none/\H a=some (.ext (iy U a bw))/\(∀b ks,U b ks->UG K G b ks)/\cg K G es bw/\bA K G ds us/\RE K a G H Q (g es ds)
noncomputable def oN(N:List Str)(es:Kv)(ds:List D):ak:=(.oe es::ds.map .fz)++gc (N.length - (ds.length + 1)) .no
noncomputable def adJ:Ou->Rs (D×Kv)
 | .rx d (.oe es::_)=>.ok (d,es)
 | .nx (.oe es::_)=>.ok (.non,es)
 |_=>.no
theorem Pz{N:List Str}{es:Kv}{ds:List D}{us:List V}{a:ae}{U:ae->List Int->Prop}{bw:List (List Int×V)}(e:Ex0 K G H)(g:G a=none)(h:H a=some (.ext (iy U a bw)))(hu:∀b ks,U b ks->UG K G b ks)(r0:cg K G es bw)(r:bA K G ds us) :
  SR K ⟨G,Mj H a,a⟩ (L2.start N (.ref a::us)) H (oN N es ds) G:=by
 have z0:(oN N es ds)[0]?=some (.oe es):=rfl;have ZC:∀(i:Nat) (z:Sl),(oN N es ds)[i]?=some z->z.own=true->i=0:=fun i z q w=>by
  cases i with
  |zero=>rfl
  |succ i =>
   have q':(ds.map Sl.fz++gc (N.length - (ds.length + 1)) .no)[i]?=some z:=q;by_cases hi:i < (ds.map Sl.fz).length
   ·rw[fg hi,cK]at q';cases e1:ds[i]? with
    |none=>rw[e1]at q';cases q'
    |some d=>rw[e1]at q';cases q';cases w
   ·rw[gL (by lia),kq]at q';split at q' <;> cases q';cases w
 refine⟨⟨.refl _,fun b o w=>(xR w).2,e.gh,e.tp,fun b o w n=>n⟩,?_,fun i d q=>?_,fun i z q w=>?_,fun i j z z' c q1 w1 q2 w2 _ _=>(ZC i z q1 w1).trans (ZC j z' q2 w2).symm,fun i fs c q1 wl q2=>?_,e.co⟩
 ·unfold oN L2.start;simp[r.length]
 ·cases i with
  |zero=>cases (z0.symm.trans q)
  |succ i =>
   have q':(ds.map Sl.fz++gc (N.length - (ds.length + 1)) .no)[i]?=some (.fz d):=q;by_cases hi:i < (ds.map Sl.fz).length
   ·rw[fg hi,cK]at q';cases e1:ds[i]? with
    |none=>rw[e1]at q';cases q'
    |some d' =>
     rw[e1]at q';cases q';obtain⟨v,h1,h2⟩:=r.get e1;refine⟨v,?_,h2⟩;show((us.map some)++gc (N.length - (us.length + 1)) none)[i]?=some (some v);rw[fg (by rw[cw,<- r.length];simpa using hi),cK,h1];rfl
   ·rw[gL (by lia),kq]at q';split at q' <;> cases q'
 ·cases ZC i z q w;cases (z0.symm.trans q);exact⟨a,_,rfl,h,g,sI,U,bw,rfl,hu,r0⟩
 ·cases ZC i _ q1 (Sl.vf wl);have:some (some (V.ref a))=some (some (V.ref c)):=q2;injection this with this;injection this with this;injection this with this;exact this.symm
theorem PB{o:Ou}{Q:VK}{a:ae}(h:RE K a G H Q (adJ o)):bQ K ⟨G,Mj H a,a⟩ W G' o { nx:=fun _ H'=>Q .non H',rt:=Q }:=by
 cases o with
 |nx ρ' =>
  cases ρ' with
  |nil=>exact h.elim
  |cons z ρ' =>
   cases z with
   |oe es =>
    intro σ' H2 G2 s q;obtain⟨b,U,bw,h1,h2,h3,h4,h5,h6⟩:=s.Hf (i:=0) (z:=.oe es) (kvs:=es) rfl rfl;have eb:b=a:=s.tie 0 _ b rfl rfl h1;subst eb;exact h .non H2 G2 U bw s.en h3 h2 h5 h6 (jh.mpr rfl)
   |_=>exact h.elim
 |rx d ρ' =>
  cases ρ' with
  |nil=>exact h.elim
  |cons z ρ' =>
   cases z with
   |oe es =>
    intro v σ' H2 G2 s q r;obtain⟨b,U,bw,h1,h2,h3,h4,h5,h6⟩:=s.Hf (i:=0) (z:=.oe es) (kvs:=es) rfl rfl;have eb:b=a:=s.tie 0 _ b rfl rfl h1;subst eb;exact h v H2 G2 U bw s.en h3 h2 h5 h6 r
   |_=>exact h.elim
 |_=>exact h.elim
end
noncomputable def Oke(P:aI)(w:az)(K:di)(mg:Str->Option aa)(base:ay)(x:Str)(k n:Nat)(v:Kv->List D->Rs (D×Kv)):Prop :=
 ∃f fd ps,nO P w K mg base (uf P w K) k f fd ps (spE K n v)/\mg x=some (.ref f)/\keepIn K (.ref f)=true/\Binds K fd ps []
section
variable{P:aI}{w:az}{K:di}{mg:Str->Option aa}{base:ay}{x:Str}{st:bo}{N ps:List Str}{k n:Nat}{g:ak->Ou}
theorem afW(F:iz K mg x st)(S:bJ N ps (aF st))(hb:Hb P w K mg base N x st k g)(hbi:Bi x st ps:=by intro _ _ _ _ _ _ us hl;rcases us with _|⟨_,_|⟨_,_|⟨_,_|⟨_,_|⟨_,us⟩⟩⟩⟩⟩ <;> first|rfl|(simp only[ck,eC]at hl;lia))(hn:ps.length=n + 1:=by rfl) :
  Oke P w K mg base x (k + 1) n (fun es ds=>adJ (g (oN N es ds))):=by
 obtain⟨f,fd,F,hm⟩:=F;refine⟨f,fd,ps,?_,hm,F.kp,F.binds hbi⟩;obtain⟨oc,od,kV,doc,pm,an,cdv,ct,osl,rfl,lk,hcd⟩:=F.ex;refine Kr lk hcd S (fun vs H Q E h=>by rw[hn];exact h.1) fun A outer s H vs Q E hr _ h=>?_;obtain⟨_,a,us,G,U,bw,es,ds,rfl,e,g1,h1,hu,r0,r,h⟩:=h;dsimp only at h;exact⟨_,hb f cdv A outer s H E ⟨G,Mj H a,a⟩ hr (oh jd rfl),oN N es ds,G,Pz e g1 h1 hu r0 r,PB h⟩
end
theorem ZD{Pr:Str->(List D->Rs D)->Prop}:∀y g,lL y ([]:Ntb)=some g->Pr y g:=fun _ _ h=>nomatch h
theorem Vy{Pr:Str->(List D->Rs D)->Prop}{x:Str}{v:List D->Rs D}{tb:Ntb}(h:Pr x v)(t:∀y g,lL y tb=some g->Pr y g):∀y g,lL y ((x,v)::tb)=some g->Pr y g:=fun y g e=>by
 rw[kv]at e;split at e
 ·rename_i c;cases e;rw[eq_of_beq c];exact h
 ·exact t y g e
noncomputable def xE(i n:Nat)(g:Kv->List D->Rs (D×Kv))(fs:ak->Rs (List D×ak)):ak->Rs (D×ak):=fun ρ=>match ρ[i]? with
 |some z0=>(match Hf z0 with
  |some _=>bx (fs ρ) fun ds ρ1=>if ds.length=n then (match ρ1[i]? with
   |some z=>(match Hf z with
    |some es=>(match g es ds with
     | .ok (d,es')=>.ok (d,ρ1.set i (qG z es'))
     |_=>.no)
    |none=>.no)
   |none=>.no) else .no
  |none=>.no)
 |none=>.no
section
variable{X:Cx}{B:Bs}{W:Wi}
theorem Vz(i:Nat){x y:Str}{p py pos:Pos}{es:List ah}{fs:ak->Rs (List D×ak)}{k n kr:Nat}{g:Kv->List D->Rs (D×Kv)}(O:Oke X.prog X.w X.K X.mg X.base x k n g)(hr:iB kr X.A)(ha:SAX X B es fs)(hN:X.N[i]?=some y:=by rfl)(hv:DW X.env.scope y:=by first|exact Or.inl rfl|exact Or.inr (Or.inl rfl)|exact Or.inr (Or.inr rfl))(hd:pK y:=by decide)
  (hcd:HF y:=by decide) (hg:Gl X x:=by rfl) (hdb:pK x:=by decide)
  (he:ba (.Name y py::es) X.env=(false,bb (.Name y py) X.env)::ba es X.env:=by rfl) (hpl:(df pos (ba es X.env)).any (·.1)=false:=by rfl) (Xf:k<=kr:=by decide):SX X B (.Call (.Name x p) (.Name y py::es) [] pos) (xE i n g fs):=by
 obtain⟨f,fd,ps,F,hm,hk,hb⟩:=O;refine PE.imp (xT F (hr.mono Xf) hg hm hk hb (eG (gP (pos:=py) hN hv hd hcd) ha he) hdb he hpl) fun σ H Q ⟨ρ,G,s,p⟩=>?_;unfold xE at p;cases q:ρ[i]? with
 |none=>rw[q]at p;exact p.elim
 |some z0 =>
  rw[q]at p;dsimp only at p;cases q1:Hf z0 with
  |none=>rw[q1]at p;exact p.elim
  |some es0 =>
   rw[q1]at p;dsimp only at p;obtain⟨a,U0,yS,h1,h2,h3,h4,h5,h6⟩:=s.Hf q q1;refine⟨_,h1,ρ,G,s,adl (k:=fun ds ρ1=>if ds.length=n then (match ρ1[i]? with
    |some z=>(match Hf z with
     |some es=>(match g es ds with
      | .ok (d,es')=>.ok (d,ρ1.set i (qG z es'))
      |_=>.no)
     |none=>.no)
    |none=>.no) else .no) p fun ds ρ1 us H1 G1 s1 e1 r1 p1=>?_⟩
   by_cases hl:ds.length=n
   ·rw[if_pos hl]at p1;cases q2:ρ1[i]? with
    |none=>rw[q2]at p1;exact p1.elim
    |some z =>
     rw[q2]at p1;dsimp only at p1;cases q3:Hf z with
     |none=>rw[q3]at p1;exact p1.elim
     |some es1 =>
      rw[q3]at p1;dsimp only at p1;obtain⟨b,U,bw,k1,k2,k3,k4,k5,k6⟩:=s1.Hf q2 q3;have eb:b=a:=by rw[h1]at k1;injection k1 with z;injection z with z;injection z with z;exact z.symm
      subst eb;refine⟨by simp[<- r1.length,hl],b,us,G1,U,bw,es1,ds,rfl,s1.ex0,k3,k2,k5,k6,r1,?_⟩;cases q4:g es1 ds with
      |no=>rw[q4]at p1;exact p1.elim
      |ex c m=>rw[q4]at p1;exact p1.elim
      |ok dz =>
       obtain⟨d,es2⟩:=dz;rw[q4]at p1;exact fun v H' G' U' akG y g1 h' hu' r2 r3=>p1 v H' G' (s1.afV q2 q3 k1 y g1 h' hu' r2) y.gg r3
   ·rw[if_neg hl]at p1;exact p1.elim
end
end Vl
namespace So
open PySem PySem.Spec PyProof.Rows
section
variable{prog:aI}{w:az}{A:aT}{E:aa->af->Prop}{s:af}
theorem Hg{l:ae}{vs:List aa}{Q:List aa->af->Prop}(hl:IsTup s.heap l vs.toArray)
  (h:Q vs { s with heap:=(s.heap.push (dS "list" #[] 0)).update s.heap.objs.size (eA (·++vs.toArray)) }) (hsz:vs.length<=sizeLine) :
  ar (aw prog w) A (collect (.ref l)) Q E s:=by
 obtain⟨o,ho,hc,n,hd⟩:=id hl;unfold collect;refine ag (o3 (i5 entry_proto_collect' ?_));show ar _ _ (do again (.builtin "list.__iadd__" ⟨[<- newList [],.ref l],[]⟩)) _ _ s;refine ag (xv (aS ⟨Code.quiet_builtin _ (by decide+kernel),i5 entry_list_iadd' ?_⟩));show ar _ _ (nI (.ref s.heap.objs.size) (.ref l) (.ref s.heap.objs.size)) _ _ { s with heap:=s.heap.push (dS "list" #[] 0) };unfold nI;have ho':(s.heap.push (dS "list" #[] 0)).get? l=some o:=cm _ ho;refine ag (nh (T:="tuple") ⟨o,ho',hc⟩ ?_);have ht:(aa.type "tuple" == aa.type "tuple")=true:=by rfl
 rw[if_pos (by rw[ht];simp)];refine ag (xp ho' hd ?_);refine ag (xp (xs:=#[]) (n:=0) (cE _ rfl) rfl ?_);rw[if_neg (by simp)];refine ag (sP (xs:=#[]) (n:=0) (cE _ rfl) rfl ?_ (d_ _) (by show(#[]++vs.toArray).size<=sizeLine + 1;simp only[kL,cy,eC];omega));refine aS ?_;show ar (aw prog w) A (do
   let o <- load s.heap.objs.size
   match o.data with
   | .seq xs _=>pure xs.toList
   |_=>unsupported "internal:collect") Q E { s with heap:=(s.heap.push (dS "list" #[] 0)).update s.heap.objs.size (eA (·++vs.toArray)) }
 refine ag (qh (sQ (cE _ rfl) _) ?_);show ar _ _ (pure ((#[]:Array aa)++vs.toArray).toList) Q E _;rw[show((#[]:Array aa)++vs.toArray).toList=vs by simp];exact aS h
end
end So
namespace Vl
open PySem PySem.Spec L2 So Tb
section
variable{X:Cx}{B:Bs}{W:Wi}{K:ai}
noncomputable def Mz(K:ai):List V->Hp->VK->Prop:=fun xs H Q=>∃(p:ae) (ys:List V) (aP:LL) (U:ae->List Int->Prop),xs=[.ref p]/\iV K H p ys/\aP.length=ys.length/\ys.length < 4900/\(∀ks∈aP,ks≠[]) /\
 (∀(i:Nat) v,ys[i]?=some v->∃b,v=.ref b/\iV K H b ((aP.getD i []).map V.int)/\U b (aP.getD i [])) /\
 ∀l zs,H l=none->zs.length=(bH aP).length->(∀(i:Nat) v,zs[i]?=some v->∃b,v=.ref b/\U b ((bH aP).getD i []))->Q (.ref l) (upd H l (.lst zs))
theorem Hh:eF X (.builtin "sorted") (Mz X.K):=by
 intro pins s σ H xs us Q I r h;obtain⟨p,ys,aP,U,rfl,hs,hlen,hz,hne,hk,q⟩:=h;obtain⟨u,rfl,rx⟩:=r.one;cases rx;obtain⟨its,rv,pl,_⟩:=I.tuple hs;have hl:=rv.length;have each:∀(i:Nat) v,its[i]?=some v->∃b,v=.ref b/\c_ (cv X.prog X.w) s.heap (aP.getD i []) b/\U b (aP.getD i []):=fun i v hv=>by obtain⟨x,h1,h2⟩:=Vals.get' rv hv;obtain⟨b,rfl,h3,h4⟩:=hk i x h1;exact⟨b,h2,xu I h3,h4⟩
 refine So.pW (vs:=its) (aP:=aP) (fun Q' E' hq=>?_) ⟨by lia,fun i v hv=>let ⟨b,h1,h2,_⟩:=each i v hv;⟨b,h1,h2⟩⟩ hne (by lia) fun h' tk l n p' k hl' hsp hg=>?_
 ·refine So.Hg pl ?_ (by rw[ef];lia);refine hq _ s.toks (fun b o e=>?_) ?_
  ·rw[kM _ _ _ _ (cn (bu e))];exact cm _ e
  ·rw[pM,xy];exact nN _
 ·have ho:=mV (U:=U) (vs:=its) (aP:=aP) (yR:=aP) ⟨by lia,fun i v hv=>let ⟨b,h1,_,h3⟩:=each i v hv;⟨b,h1,h3⟩⟩ hsp (.refl _);obtain⟨zs,r1,zl,zv⟩:=Ji ho;have YW:H l=none:=I.hok.fresh hl';refine⟨.ref l,_,I.laid (t':=tk) k hl' (show dD X.prog X.w _ h' _ (.lst zs) from⟨?_,_,n,r1,hg⟩),rfl,q l zs YW zl zv⟩;have:(bH aP).length=aP.length:=(cV aP).length_eq;rw[zl,this,ef];lia
noncomputable def mY:List D->Rs D
 | [.tup ds]=>(match gZ ds with
  |some aP=>if (∀ks∈aP,ks≠[])/\aP.length < 4900 then .ok (.lst ((bH aP).map tupK)) else .no
  |none=>.no)
 |_=>.no
theorem PJ:nD K (Mz K) mY:=by
 intro B W σ ρ G H ds vs Q s r p;unfold mY at p;split at p
 ·rename_i ds;obtain⟨v,vs',rfl,r1,r2⟩:=aG.mp r;obtain⟨a,us,rfl,q,rr⟩:=bD.mp r1;rw[aZ.mp r2];split at p
  ·rename_i aP ek;split at p
   ·rename_i hc;rw[oK ek]at rr;obtain⟨hl,hk⟩:=ux rr;refine⟨a,us,aP,UG K G,rfl,Same.dU s.en.gh q,hl,by lia,hc.1,fun i v hv=>?_,fun l zs hl' hz hv=>?_⟩
    ·obtain⟨b,q1,q2⟩:=hk i v hv;exact⟨b,q1,Same.dU s.en.gh q2,q2⟩
    ·have x:=ji (xs:=zs) s.en.gh s.en.tp hl';exact p _ _ _ x (bh.mpr ⟨l,zs,rfl,.of aQ,(mq hz hv).mono x.gg⟩)
   ·exact p.elim
  ·exact p.elim
 ·exact p.elim
theorem Ae{e:ah}{p pos:Pos}{fa:ak->Rs D}(hm:X.mg "sorted"=none) (ha:SE X B W e fa) (hg:Gl X "sorted":=by rfl) (he:ba [e] X.env=[(false,bb e X.env)]:=by rfl):SE X B W (.Call (.Name "sorted" p) [e] [] pos) (fA (aj fa aO) mY) :=
 jP Hh PJ hg hm sR (aD ha aR he) (by decide) (by decide) he rfl
end
end Vl
namespace Vl
open PySem PySem.Spec PySem.Calls PySem.W L2
noncomputable def spR(K:di)(n:Nat)(g:List D->Rs (List D)):Sp:=fun vs H Q E=>vs.length=n/\∃G ds,Ex0 K G H/\bA K G ds vs/\(match g ds with
 | .ok es=>∀a ws H' G',Ext G H G' H'->G' a=none->H a=none->H' a=some (.lst ws)->bA K G' es ws->Q (.ref a) H'
 | .ex c m=>∀H' G',Ext G H G' H'->E (uU c m) none H'
 | .no=>False)
noncomputable def afX:Ou->Rs (List D)
 | .rl es=>.ok es
 | .ex c n _=>.ex c n
 |_=>.no
noncomputable def Okr(P:aI)(w:az)(K:di)(mg:Str->Option aa)(base:ay)(x:Str)(k n:Nat)(v:List D->Rs (List D)):Prop :=
 ∃f fd ps,nO P w K mg base (uf P w K) k f fd ps (spR K n v)/\mg x=some (.ref f)/\keepIn K (.ref f)=true/\Binds K fd ps []
noncomputable def yU(v:List D->Rs (List D))(ds:List D):Rs D:=match v ds with|.ok es=>.ok (.lst es)|.ex c n=>.ex c n|.no=>.no
section
variable{P:aI}{w:az}{K:di}{mg:Str->Option aa}{base:ay}{x:Str}{st:bo}{N ps:List Str}{k n:Nat}{g:ak->Ou}{v:List D->Rs (List D)}
theorem afY(F:iz K mg x st)(S:bJ N ps (aF st))(hb:Hb P w K mg base N x st k g)(hbi:Bi x st ps:=by intro _ _ _ _ _ _ us hl;rcases us with _|⟨_,_|⟨_,_|⟨_,_|⟨_,_|⟨_,us⟩⟩⟩⟩⟩ <;> first|rfl|(simp only[ck,eC]at hl;lia)) :
  Okr P w K mg base x (k + 1) ps.length (fun ds=>afX (g (aY N ds))):=by
 obtain⟨f,fd,F,hm⟩:=F;refine⟨f,fd,ps,?_,hm,F.kp,F.binds hbi⟩;obtain⟨oc,od,kV,doc,pm,an,cdv,ct,osl,rfl,lk,hcd⟩:=F.ex;refine Kr lk hcd S (fun vs H Q E h=>h.1) fun A outer s H vs Q E hr _ h=>?_;obtain⟨_,G,ds,e,r,h⟩:=h;dsimp only at h;refine⟨_,hb f cdv A outer s H E ⟨G,H,0⟩ hr (oh jd rfl),aY N ds,G,wA e r,?_⟩;cases e1:g (aY N ds) with
 |rl es=>rw[e1]at h;exact fun a ws H' G' x q g1 b1 h1 r1=>h a ws H' G' x g1 b1 h1 r1
 |ex c m ρ'=>rw[e1]at h;exact fun σ' H' G' s' q=>h H' G' s'.en
 |_=>rw[e1]at h;exact h.elim
theorem Okr.f(O:Okr P w K mg base x k n v):Okf P w K mg base x k n v:=by
 obtain⟨f,fd,ps,F,r⟩:=O;refine⟨f,fd,ps,F.imp fun vs H Q E hq=>?_,r⟩;obtain⟨hl,G,ds,e0,r,h⟩:=hq;refine⟨hl,G,ds,e0,r,?_⟩;cases e:v ds with
 |ok es=>rw[e]at h;exact h
 |ex c m=>rw[e]at h;exact h.elim
 |no=>rw[e]at h;exact h
theorem Okr.data(O:Okr P w K mg base x k n v):ql P w K mg base x k n (yU v):=by
 obtain⟨f,fd,ps,F,r⟩:=O;refine⟨f,fd,ps,F.imp fun vs H Q E hq=>?_,r⟩;obtain⟨hl,G,ds,e0,r,h⟩:=hq;refine⟨hl,G,ds,e0,r,?_⟩;unfold yU at h;cases e:v ds with
 |ok es =>
  rw[e]at h;dsimp only;intro a ws H' G' x g1 h0 h1 r1;have gg:Same G' (upd G' a (.lst ws)):=fun b o z=>by rw[aL (aM z g1)];exact z
  refine h (.ref a) H' (upd G' a (.lst ws)) ⟨x.gg.trans gg,x.hh,fun b o z=>?_,fun b xs z=>?_,fun b o z w=>?_⟩ (bh.mpr ⟨a,ws,rfl,.of aQ,r1.mono gg⟩)
  ·by_cases q:b=a
   ·subst q;rw[aQ]at z;cases z;exact h1
   ·rw[aL q]at z;exact x.gh _ _ z
  ·by_cases q:b=a
   ·subst q;rw[h1]at z;cases z
   ·rw[aL q];exact x.tp _ _ z
  ·rw[aL (aM z h0)];exact x.nw _ _ z w
 |ex c m=>rw[e]at h;exact h
 |no=>rw[e]at h;exact h
end
noncomputable def xZ(f:ak->Rs D):ak->Ou:=fun ρ=>match f ρ with
 | .ok (.lst es)=>.rl es
 | .ok _=>.no
 | .ex c n=>.ex c n ρ
 | .no=>.no
section
variable{X:Cx}{B:Bs}{W:Wi}
theorem VB{e:ah}{pos:Pos}{f:ak->Rs D}(h:PE X e (tN X.K B W f)):SS X B W (.Return (some e) pos) (xZ f):=by
 refine PS.imp (Av h) fun De σ H hq=>?_;obtain⟨ρ,G,s,p⟩:=hq;refine⟨ρ,G,s,?_⟩;unfold xZ at p;cases e1:f ρ with
 |no=>rw[e1]at p;exact p
 |ex c n=>rw[e1]at p;exact fun H' G' x=>p σ H' G' (s.ext x) x.gg
 |ok d =>
  rw[e1]at p;intro a H' nl;obtain⟨h0,G0,ws,es,x,g0,h1,rfl,r⟩:=nl;exact p a ws H' G0 (s.en.trans x) x.gg g0 (s.en.hh.free h0) h1 r
theorem VD{tg iter:ah}{elt:ah}{sc:Scope}{pos rpos:Pos}{N:List Str}{nt:Nat}{caps:List Nat}{h:Tg}{fe:ak->Rs D}{fi:ak->Rs (List D)}
  (c:ud X sc N nt caps) (hc:X.calm=true) (hnames:sc.names.all (fun y=>y.2 != .local || sc.names.lookup y.1 == some .local)=true) (hi:SI X B W tg iter fi) (hno:lC h)
  (ht:∀s₀ H₀ C ex pins B',SG (eH X N s₀ H₀ sc (fY sc X.env) C ex pins) B' tg h)
  (he:∀s₀ H₀ C ex pins B',SE (eH X N s₀ H₀ sc (fY sc X.env) C ex pins) B' WF elt fe)
  (hs:∀x,gi iter X.env x=pure x:=by intro _;rfl) :
  SS X B W (.Return (some (.ListComp elt [⟨tg,iter,[],0⟩] sc pos)) rpos) (xZ (fu h (fun _=>.ok true) fe nt caps fi)) :=
 VB (RN c hc (fun y hy hl=>by
  have:=oB.mp hnames y hy;simp only[l4,bne_iff_ne,beq_iff_eq,ne_eq]at this;exact this.elim (fun z=>absurd hl z) id) hi hno ht (.inl ⟨rfl,rfl⟩) he hs)
end
end Vl
namespace Af
open PySem PySem.Spec PySem.Calls PySem.W L2 Vl
def top(i:Nat):bo:=PySem.Challenge.pw_edgemoss_k68_parts_told.main.body.getD i (.Pass ⟨0,0,0,0⟩)
noncomputable abbrev oU:bo:=top 19
noncomputable abbrev oV:bo:=top 18
noncomputable abbrev mZ:bo:=top 20
noncomputable abbrev lJ:bo:=top 21
noncomputable abbrev jX:bo:=top 11
noncomputable abbrev yc:bo:=top 1
noncomputable abbrev yg:bo:=top 2
noncomputable abbrev iJ:bo:=top 3
noncomputable abbrev lK:bo:=top 5
noncomputable abbrev yh:bo:=top 4
noncomputable abbrev vC:bo:=top 13
noncomputable abbrev oW:bo:=top 16
noncomputable abbrev oY:bo:=top 17
noncomputable abbrev kY:bo:=top 22
noncomputable abbrev uE:bo:=top 14
noncomputable abbrev mC:bo:=top 23
noncomputable def Ag(c:Str):Bool:=c == "Endless"
noncomputable def Hi(c:Str):Bool:=c == "NoCell"
structure Txt (K:di)(mg:Str->Option aa)(dZ:ae)(gw:ae):Prop where
 afZ:mg "all"=none
 JK:mg "bool"=none
 dW:mg "divmod"=none
 aaL:mg "int"=none
 bW:mg "isinstance"=none
 yj:mg "len"=none
 JL:mg "list"=none
 aaM:mg "max"=none
 VF:mg "min"=none
 jk:mg "range"=none
 aga:mg "set"=none
 jY:mg "sorted"=none
 aaN:mg "str"=none
 pZ:mg "tuple"=none
 agb:mg "zip"=none
 PK:mg "Endless"=some (.ref dZ)
 mD:dP K cq "Endless"=some (some (.ref dZ))
 uF:excIn K dZ [.type "ValueError",.type "Exception",.type "BaseException",.type "object"] "ValueError.__new__"=true
 aen:∀c C,Ag c=true->dP K cq c=some (some (.ref C))->kitOne K (.ref C) (.ref dZ)=some true
 VG:mg "NoCell"=some (.ref gw)
 oZ:dP K cq "NoCell"=some (some (.ref gw))
 yp:excIn K gw [.type "ValueError",.type "Exception",.type "BaseException",.type "object"] "ValueError.__new__"=true
 agc:∀c C,Hi c=true->dP K cq c=some (some (.ref C))->kitOne K (.ref C) (.ref gw)=some true
 cC:FnV K mg "neighbours"
theorem cR:bJ ["number","way","row","column","by"] ["number"] (aF oU):=HN (by decide+kernel)
theorem Dg:bJ ["row","column"] ["row","column"] (aF oV):=HN (by decide+kernel)
theorem aJ:bJ ["number","way","base","cells","many","k","at","top","tall","wide","row","column","bits","gone"] ["number"] (aF mZ):=HN (by decide+kernel)
theorem bL:bJ ["cells","sides","left","cell","found","part","at","row","column","near"] ["cells","sides"] (aF lJ):=HN (by decide+kernel)
theorem uY:bJ ["shape"] ["shape"] (aF jX):=HN (by decide+kernel)
theorem PL:bJ ["cells"] ["cells"] (aF yc):=HN (by decide+kernel)
theorem uG:bJ ["cells","told","cell"] ["cells"] (aF yg):=HN (by decide+kernel)
theorem lM:bJ ["cell","near","row"] ["cell"] (aF iJ):=HN (by decide+kernel)
theorem dw:bJ ["left","first","near","chain","place","here","other"] ["left","first","near"] (aF lK):=HN (by decide+kernel)
theorem qd:bJ ["cells","near","left","told","cell"] ["cells","near"] (aF yh):=HN (by decide+kernel)
theorem VH:bJ ["shape"] ["shape"] (aF vC):=HN (by decide+kernel)
theorem Dh:bJ ["script","k"] ["script","k"] (aF oW):=HN (by decide+kernel)
theorem dO:bJ ["cell","salt","one","number","j"] ["cell","salt"] (aF oY):=HN (by decide+kernel)
theorem Di:bJ ["found","due"] ["found","due"] (aF kY):=HN (by decide+kernel)
theorem yq:bJ ["shape","cell","part"] ["shape","cell"] (aF uE):=HN (by decide+kernel)
theorem jZ:bJ ["script","cell","cells","number","far","shape","due","told","part","spot"] ["script"] (aF mC):=HN (by decide+kernel)
section
variable{P:aI}{w:az}{K:di}{mg:Str->Option aa}{base:ay}{dZ:ae}{gw:ae}
noncomputable def ig:ak->Ou :=
  bG (lD (fA (aj (ao 0) (aj (fC (.int 5)) aO)) DN) (jG 2 (bR (aK 0) (bR (aK 1) kJ))))
  (bG (ou (fT (aV gGt (ao 1) (fC (.int 1)))) (gR (fA (aj (fA (aj (fC (.int 0)) (aj (fC (.int 0)) aO)) gq) (aj (ao 0) aO)) gq)) qu)
  (bG (lD (fA (aj (ao 0) (aj (aV iY (fA (aj (aV bF (aV dI (fC (.int 2)) (aV eZ (fC (.int 10)) (fC (.int 12)))) (fC (.int 1))) (aj (fC (.int 2)) aO)) qJ) (ao 1)) aO)) DN) (jG 2 (bR (aK 0) (bR (aK 2) kJ))))
  (bG (lD (fA (aj (ao 0) (aj (aV iY (fA (aj (aV bF (aV dI (fC (.int 2)) (aV eZ (fC (.int 10)) (fC (.int 12)))) (fC (.int 1))) (aj (fC (.int 2)) aO)) qJ) (ao 1)) aO)) DN) (jG 2 (bR (aK 0) (bR (aK 3) kJ))))
  (bG (ju 4 (aV iY (fA (aj (fC (.int 1)) (aj (aV dI (fC (.int 2)) (aV eZ (fC (.int 10)) (fC (.int 12)))) aO)) qJ) (ao 1)))
  (gR (fA (aj (fA (aj (aV iW (aV dI (ao 2) (ao 4)) (aV eZ (fC (.int 10)) (fC (.int 12)))) (aj (aV iW (aV dI (ao 3) (ao 4)) (aV eZ (fC (.int 10)) (fC (.int 12)))) aO)) gq) (aj (ao 0) aO)) gq))))))
noncomputable def iu:List D->Rs D:=fun ds=>dX (ig (aY ["number","way","row","column","by"] ds))
variable(T:Txt K mg dZ gw)
include T
theorem Dj(F:iz K mg "_law_base" oU) :ql P w K mg base "_law_base" 1 1 iu :=
 mz (k:=0) (g:=ig) F cR fun f cdv A outer s H E B hr hx =>
  aH (iD (cN T.dW (sv 0) au) (gQ rfl (bC (rg 0 cR.nd) (bC (rg 1 cR.nd) dJ))))
  (aH (fD (aat (sv 1) au) (aW (cH (fX (aD (fX (aD au (aD au aR))) (aD (sv 0) aR))))) cG)
  (aH (iD (cN T.dW (sv 0) (eV (uc (aD (bZ (iC au (fj au au)) au) (aD au aR))) (sv 1))) (gQ rfl (bC (rg 0 cR.nd) (bC (rg 2 cR.nd) dJ))))
  (aH (iD (cN T.dW (sv 0) (eV (uc (aD (bZ (iC au (fj au au)) au) (aD au aR))) (sv 1))) (gQ rfl (bC (rg 0 cR.nd) (bC (rg 3 cR.nd) dJ))))
  (aH (fZ 4 cR.nd (eV (uc (aD au (aD (iC au (fj au au)) aR))) (sv 1)))
  (aW (cH (fX (aD (fX (aD (jO (iC (sv 2) (sv 4)) (fj au au)) (aD (jO (iC (sv 3) (sv 4)) (fj au au)) aR))) (aD (sv 0) aR)))))))))
noncomputable def kZ:ak->Ou :=
  gR (fA (aj (fA (aj (wF (aV eZ (fC (.int 10)) (fC (.int 12)))) (aj (fA (aj (aV eZ (fC (.int 10)) (fC (.int 12))) (aj (ao 0) aO)) sH) aO)) Gp) (aj (fA (aj (wF (aV eZ (fC (.int 10)) (fC (.int 12)))) (aj (fA (aj (aV eZ (fC (.int 10)) (fC (.int 12))) (aj (ao 1) aO)) sH) aO)) Gp) aO)) gq)
noncomputable def dG:List D->Rs D:=fun ds=>dX (kZ (aY ["row","column"] ds))
theorem Dl(F:iz K mg "_law_kept" oV) :ql P w K mg base "_law_kept" 1 2 dG :=
 mz (k:=0) (g:=kZ) F Dg fun f cdv A outer s H E B hr hx =>
  aW (cH (fX (aD (Ma rfl T.aaM (Bv (fj au au)) (CQ rfl T.VF (fj au au) (sv 0))) (aD (Ma rfl T.aaM (Bv (fj au au)) (CQ rfl T.VF (fj au au) (sv 1))) aR))))
noncomputable def gA:ak->Ou :=
  bG (lD (fA (aj (ao 0) (aj (fC (.int 25)) aO)) DN) (jG 2 (bR (aK 0) (bR (aK 6) kJ))))
  (oM 3 (fC (.bl true)) (fA (aj (aV bF (aV iY (ao 2) (fC (.int 0))) (aV Eu (ao 6) (fC (.int 5)))) (aj (aV bF (aV iY (ao 2) (fC (.int 1))) (aV jN (ao 6) (fC (.int 5)))) aO)) (bU 2 dG)))
noncomputable def gB:ak->Ou :=
  ou (Ra (fT (aV Za (ao 10) (fA (aj (fC (.int 0)) (aj (ao 8) aO)) gq))) (fT (aV Za (ao 11) (fA (aj (fC (.int 0)) (aj (ao 9) aO)) gq)))) (oM 3 (fC (.bl true)) (fA (aj (aV bF (aV bF (aV iY (ao 2) (fC (.int 0))) (ao 7)) (ao 10)) (aj (aV bF (aV iW (aV bF (aV iY (ao 2) (fC (.int 1))) (aV dI (fC (.int 3)) (ao 5))) (ao 7)) (ao 11)) aO)) (bU 2 dG))) qu
noncomputable def jl:ak->Ou :=
  jr (aK 11) gB (aV bF (fC (.int 1)) (ao 9))
noncomputable def gC:ak->Ou :=
  bG (lD (fA (aj (ao 0) (aj (fC (.int 4)) aO)) DN) (jG 2 (bR (aK 0) (bR (aK 7) kJ))))
  (bG (lD (fA (aj (ao 0) (aj (fC (.int 5)) aO)) DN) (jG 2 (bR (aK 0) (bR (aK 8) kJ))))
  (bG (lD (fA (aj (ao 0) (aj (fC (.int 5)) aO)) DN) (jG 2 (bR (aK 0) (bR (aK 9) kJ))))
  (jr (aK 10) jl (aV bF (fC (.int 1)) (ao 8)))))
noncomputable def jm:ak->Ou :=
  ou (fT (aV uL (aV Zy (aV Vw (ao 12) (ao 11)) (fC (.int 1))) (fC (.int 1)))) (oM 3 (fC (.bl true)) (fA (aj (aV bF (aV iY (ao 2) (fC (.int 0))) (ao 10)) (aj (aV bF (aV iY (ao 2) (fC (.int 1))) (ao 11)) aO)) (bU 2 dG))) qu
noncomputable def gD:ak->Ou :=
  bG (lD (fA (aj (ao 0) (aj (fC (.int 64)) aO)) DN) (jG 2 (bR (aK 0) (bR (aK 12) kJ))))
  (jr (aK 11) jm (fC (.int 6)))
noncomputable def gF:ak->Ou :=
  bG (lD (fA (aj (ao 0) (aj (xQ 3) aO)) DN) (jG 2 (bR (aK 0) (bR (aK 6) kJ))))
  (xO 3 (aV iY (qU 3) (ao 6)))
noncomputable def jH:ak->Ou :=
  bG (lD (fA (aj (ao 0) (aj (fC (.int 5)) aO)) DN) (jG 2 (bR (aK 0) (bR (aK 1) kJ))))
  (bG (lD (fA (aj (ao 0) aO) (bU 1 iu)) (jG 2 (bR (aK 2) (bR (aK 0) kJ))))
  (bG (Uu 3)
  (bG (lD (fA (aj (ao 0) (aj (fC (.int 6)) aO)) DN) (jG 2 (bR (aK 0) (bR (aK 4) kJ))))
  (bG (ou (fT (aV uL (ao 1) (fC (.int 0)))) (jC (jr (aK 5) gA (aV bF (ao 4) (fC (.int 1))))) qu)
  (bG (ou (fT (aV uL (ao 1) (fC (.int 1)))) (jC (jr (aK 5) gC (aV bF (fC (.int 1)) (aV jN (ao 4) (fC (.int 3)))))) qu)
  (bG (ou (fT (aV gGt (ao 1) (fC (.int 1)))) (jC (jr (aK 10) gD (aV bF (ao 4) (fC (.int 1))))) qu)
  (bG (lD (fA (aj (ao 0) (aj (fC (.int 3)) aO)) DN) (jG 2 (bR (aK 0) (bR (aK 13) kJ))))
  (bG (jC (jr (aK 5) gF (fA (aj (ao 13) (aj (xQ 3) aO)) sH)))
  (gR (fA (aj (fA (aj (qU 3) aO) jQ) (aj (ao 0) aO)) gq))))))))))
noncomputable def iK:List D->Rs D:=fun ds=>dX (jH (aY ["number","way","base","cells","many","k","at","top","tall","wide","row","column","bits","gone"] ds))
theorem yV(F:iz K mg "_law_board" mZ) (pA:ql P w K mg base "_law_base" 1 1 iu) (jx:ql P w K mg base "_law_kept" 1 2 dG):ql P w K mg base "_law_board" 2 1 iK :=
 mz (k:=1) (g:=jH) F aJ fun f cdv A outer s H E B hr hx =>
  aH (iD (cN T.dW (sv 0) au) (gQ rfl (bC (rg 0 aJ.nd) (bC (rg 1 aJ.nd) dJ))))
  (aH (iD (cJ pA hr hx (aD (sv 0) aR)) (gQ rfl (bC (rg 2 aJ.nd) (bC (rg 0 aJ.nd) dJ))))
  (aH (Jo 3 aJ.nd)
  (aH (iD (cN T.dW (sv 0) au) (gQ rfl (bC (rg 0 aJ.nd) (bC (rg 4 aJ.nd) dJ))))
  (aH (fD (EY (cP hr) (sv 1) au) (aW (je (kW et rfl T.jk (bZ (sv 4) au) (rg 5 aJ.nd) (aH (iD (cN T.dW (sv 0) au) (gQ rfl (bC (rg 0 aJ.nd) (bC (rg 6 aJ.nd) dJ))))
  (aW (sG 3 (cP hr) nC (cJ jx hr dM (aD (bZ (eV (sv 2) au) (Ri (sv 6) au)) (aD (bZ (eV (sv 2) au) (nU (sv 6) au)) aR))))))))) cG)
  (aH (fD (EY (cP hr) (sv 1) au) (aW (je (kW et rfl T.jk (bZ au (nU (sv 4) au)) (rg 5 aJ.nd) (aH (iD (cN T.dW (sv 0) au) (gQ rfl (bC (rg 0 aJ.nd) (bC (rg 7 aJ.nd) dJ))))
  (aH (iD (cN T.dW (sv 0) au) (gQ rfl (bC (rg 0 aJ.nd) (bC (rg 8 aJ.nd) dJ))))
  (aH (iD (cN T.dW (sv 0) au) (gQ rfl (bC (rg 0 aJ.nd) (bC (rg 9 aJ.nd) dJ))))
  (aW (kW et rfl T.jk (bZ au (sv 8)) (rg 10 aJ.nd) (aW (kW et rfl T.jk (bZ au (sv 9)) (rg 11 aJ.nd) (aW (fD (Ie (aap (Uk (cP hr) (sv 10) (fX (aD au (aD (sv 8) aR)))) (Rg (Uk (cP hr) (sv 11) (fX (aD au (aD (sv 9) aR))))))) (aW (sG 3 (cP hr) nC (cJ jx hr dM (aD (bZ (bZ (eV (sv 2) au) (sv 7)) (sv 10)) (aD (bZ (jO (bZ (eV (sv 2) au) (iC au (sv 5))) (sv 7)) (sv 11)) aR))))) cG)))))))))))) cG)
  (aH (fD (aat (sv 1) au) (aW (je (kW et rfl T.jk (bZ (sv 4) au) (rg 10 aJ.nd) (aH (iD (cN T.dW (sv 0) au) (gQ rfl (bC (rg 0 aJ.nd) (bC (rg 12 aJ.nd) dJ))))
  (aW (kW et rfl T.jk au (rg 11 aJ.nd) (aW (fD (EY (cP hr) (adG (adF (sv 12) (sv 11)) au) au) (aW (sG 3 (cP hr) nC (cJ jx hr dM (aD (bZ (eV (sv 2) au) (sv 10)) (aD (bZ (eV (sv 2) au) (sv 11)) aR))))) cG)))))))) cG)
  (aH (iD (cN T.dW (sv 0) au) (gQ rfl (bC (rg 0 aJ.nd) (bC (rg 13 aJ.nd) dJ))))
  (aH (je (kW et rfl T.jk (CQ rfl T.VF (sv 13) (Mi 3 T.yj)) (rg 5 aJ.nd) (aH (iD (cN T.dW (sv 0) (Mi 3 T.yj)) (gQ rfl (bC (rg 0 aJ.nd) (bC (rg 6 aJ.nd) dJ))))
  (aW (CZ 3 (cP hr) (eV (Gr 3 rfl T.jY) (sv 6)))))))
  (aW (cH (fX (aD (rZ T.pZ (Gr 3 rfl T.jY)) (aD (sv 0) aR)))))))))))))
noncomputable def kh:ak->Ou :=
  oM 2 (fC (.bl true)) (ao 3)
noncomputable def iM:ak->Ou :=
  bG (ju 9 (uQ 5 (fA (aj (aV bF (aV iY (aV iY (ao 5) (ao 6)) (fC (.int 0))) (ao 7)) (aj (aV bF (aV iY (aV iY (ao 5) (ao 6)) (fC (.int 1))) (ao 8)) aO)) gq)))
  (ou (qj (fT (jF 2 (ao 9))) (rF (qj (fT (ao 1)) (fT (aV Xd (aV dI (ao 7) (ao 8)) (fC (.int 0))))))) (bG (xO 2 (ao 9))
  (uX 5 (ao 9))) qu)
noncomputable def iQ:ak->Ou :=
  wk (aK 8) iM (fA (aj (wF (fC (.int 1))) (aj (fC (.int 0)) (aj (fC (.int 1)) aO))) gq)
noncomputable def iR:ak->Ou :=
  bG (wk (aK 7) iQ (fA (aj (wF (fC (.int 1))) (aj (fC (.int 0)) (aj (fC (.int 1)) aO))) gq))
  (ju 6 (aV bF (ao 6) (fC (.int 1))))
noncomputable def dB:ak->Ou :=
  ou (fT (jF 2 (ao 3))) (bG (Cy 5 (aj (ao 3) aO))
  (bG (xO 2 (ao 3))
  (bG (ju 6 (fC (.int 0)))
  (bG (JH 1000 (jV 5 (fT (aV Xe (ao 6) (fA (aj (ao 5) aO) nJ)))) iR)
  (uX 4 (uQ 5 (fA (aj (fA (aj (ao 5) aO) mX) aO) jQ))))))) qu
noncomputable def jo:ak->Ou :=
  bG (Uu 2)
  (bG (jC (wk (aK 3) kh (ao 0)))
  (bG (Cy 4 aO)
  (bG (jC (nW (aK 3) dB (fA (aj (ao 0) aO) mY)))
  (Gj 4 (gR (ao 4))))))
noncomputable def gG:List D->Rs D:=fun ds=>dX (jo (aY ["cells","sides","left","cell","found","part","at","row","column","near"] ds))
theorem yr(F:iz K mg "_law_fallen" lJ) :ql P w K mg base "_law_fallen" 1 2 gG :=
 mz (k:=0) (g:=jo) F bL fun f cdv A outer s H E B hr hx =>
  aH (Jo 2 bL.nd)
  (aH (je (vg et rfl (sv 0) (rg 3 bL.nd) (aW (sG 2 (cP hr) nC (sv 3)))))
  (aH (xJ 4 bL.nd aR)
  (aH (je (pQ et rfl (Ae T.jY (sv 0)) (rg 3 bL.nd) (aW (fD (CP 2 (cP hr) (sv 3)) (aH (xJ 5 bL.nd (aD (sv 3) aR))
  (aH (CZ 2 (cP hr) (sv 3))
  (aH (fZ 6 bL.nd au)
  (aH (GX 1000 et (Dd 5 (Ld (sv 6) (wj T.yj (sv 5)))) (aH (vg et rfl (fX (aD (Bv au) (aD au (aD au aR)))) (rg 7 bL.nd) (aW (vg et rfl (fX (aD (Bv au) (aD au (aD au aR)))) (rg 8 bL.nd) (aH (fZ 9 bL.nd (Dc 5 (fX (aD (bZ (eV (eV (sv 5) (sv 6)) au) (sv 7)) (aD (bZ (eV (eV (sv 5) (sv 6)) au) (sv 8)) aR)))))
  (aW (fD (Ie (vZ (CP 2 (cP hr) (sv 9)) (rG (tZ (Ie (vZ (jB (sv 1)) (rG (aas (cP hr) (iC (sv 7) (sv 8)) au)))))))) (aH (CZ 2 (cP hr) (sv 9))
  (aW (Cz 5 (sv 9)))) cG))))))
  (aW (fZ 6 bL.nd (bZ (sv 6) au)))))
  (aW (Cz 4 (Dc 5 (rZ T.pZ (Gm T.jY (sv 5)))))))))) cG))))
  (CG 4 (aW (cH (sv 4)))))))
noncomputable def pB:ak->Ou :=
  ou (fT (aV iY (ao 0) (fC (.int 1)))) (RW "Endless" (aj (fC (.str "this is told of finite shapes alone")) aO)) qu
noncomputable def iT:List D->Rs D:=fun ds=>dX (pB (aY ["shape"] ds))
theorem uZ(F:iz K mg "check_finite" jX) :ql P w K mg base "check_finite" 1 1 iT :=
 mz (k:=0) (g:=pB) F uY fun f cdv A outer s H E B hr hx =>
  aW (fD (jB (eV (sv 0) au)) (aW (Ey jd rfl rfl rfl T.PK T.mD T.uF tP (by decide) tP (aD QT aR) (by decide))) cG)
noncomputable def sO:ak->Ou :=
  gR (fA (aj (xH (fK (ao 0))) aO) jQ)
noncomputable def pC:List D->Rs D:=fun ds=>dX (sO (aY ["cells"] ds))
theorem PN(F:iz K mg "rising" yc) :ql P w K mg base "rising" 1 1 pC :=
 mz (k:=0) (g:=sO) F PL fun f cdv A outer s H E B hr hx =>
  aW (cH (rZ T.pZ (Jf rfl T.jY (acX rfl (cP hr) T.aga (sv 0)))))
noncomputable def qZ:ak->Ou :=
  oM 1 (fC (.bl true)) (ao 2)
noncomputable def yt:ak->Rs JG :=
  xY (Uu 1)
  (xY (jC (wk (aK 2) qZ (ao 0)))
  (Vu 1))
noncomputable def pD:List D->Rs JG:=fun ds=>yt (aY ["cells","told","cell"] ds)
theorem PX(F:iz K mg "marked" yg) :OkD P w K mg base "marked" 1 1 pD :=
 afS (k:=0) (g:=yt) F uG fun f cdv A outer s H E B hr hx =>
  Mw (W:=WF) (Jo 1 uG.nd)
  (Mw (W:=WF) (je (vg et rfl (sv 0) (rg 2 uG.nd) (aW (sG 1 (cP hr) nC (sv 2)))))
  (adD 1))
noncomputable def pF:ak->Rs D :=
  fA (aj (ao 1) (aj (ao 0) aO)) gq
noncomputable def iU:ak->Ou :=
  Gu 1 (fu (aK 0) (fun _=>.ok true) pF 1 [2] (Uv (aj (aV iW (aV iY (ao 0) (fC (.int 1))) (fC (.int 1))) (aj (aV bF (aV iY (ao 0) (fC (.int 1))) (fC (.int 2))) aO)) Gq))
noncomputable def pG:ak->Rs D :=
  ao 0
noncomputable def kj:ak->Rs Bool :=
  fT (aV Xd (ao 0) (ao 1))
noncomputable def jJ:ak->Ou :=
  bG (Cy 1 aO)
  (bG (jC (Bq (aK 2) iU (aj (aV iW (aV iY (ao 0) (fC (.int 0))) (fC (.int 1))) (aj (aV bF (aV iY (ao 0) (fC (.int 0))) (fC (.int 2))) aO))))
  (Gj 1 (gR (fu (aK 0) kj pG 1 [0] (fL (ao 1) asL)))))
noncomputable def cC:List D->Rs D:=fun ds=>dX (jJ (aY ["cell","near","row"] ds))
theorem yW(F:iz K mg "neighbours" iJ) :ql P w K mg base "neighbours" 1 1 cC :=
 mz (k:=0) (g:=jJ) F lM fun f cdv A outer s H E B hr hx =>
  aH (xJ 1 lM.nd aR)
  (aH (je (Rr et rfl T.jk (jO (eV (sv 0) au) au) (bZ (eV (sv 0) au) au) (rg 2 lM.nd) (aW (Zr 1 (Le (rK (aF iJ) ["cell","near","row"] (N:=["column","row"]) (nt:=1) (caps:=[2]) (by decide+kernel)) rfl (by decide+kernel) (OJ T.jk (jO (eV (sv 0) au) au) (bZ (eV (sv 0) au) au)) jK (fun s₀ H₀ C ex pins B1=>rg 0 (show n5 (["column","row"]:List Str) by decide)) (fun s₀ H₀ C ex pins B1=>fX (aD (sv 1) (aD (sv 0) aR))))))))
  (CG 1 (aW (cH (zJ (rK (aF iJ) ["cell","near","row"] (N:=["other","cell"]) (nt:=1) (caps:=[0]) (by decide+kernel)) rfl (by decide+kernel) (Bw (sv 1)) jK (fun s₀ H₀ C ex pins B1=>rg 0 (show n5 (["other","cell"]:List Str) by decide)) (fun s₀ H₀ C ex pins B1=>aas (cP hr) (sv 0) (sv 1)) (fun s₀ H₀ C ex pins B1=>sv 0))))))
noncomputable def bY:Ntb:=[("neighbours",cC)]
theorem ni(nq:ql P w K mg base "neighbours" 1 1 cC):∀y g,lL y bY=some g->ql P w K mg base y 1 1 g/\FnV K mg y :=
 Vy ⟨nq,T.cC⟩ (ZD)
noncomputable def gJ:ak->Ou :=
  ou (adH 0 (fT (jF 0 (ao 6)))) (bG (Ac 0 (ao 6))
  (uX 3 (ao 6))) qu
noncomputable def gK:ak->Ou :=
  bG (ju 5 (uQ 3 (aV iY (ao 3) (ao 4))))
  (bG (nW (aK 6) gJ (GZ 2 1 bY (aj (ao 5) aO)))
  (ju 4 (aV bF (ao 4) (fC (.int 1)))))
noncomputable def jq:ak->Ou :=
  bG (Cy 3 (aj (ao 1) aO))
  (bG (Ac 0 (ao 1))
  (bG (ju 4 (fC (.int 0)))
  (bG (jC (JH 1000 (jV 3 (fT (aV Xe (ao 4) (fA (aj (ao 3) aO) nJ)))) gK))
  (Gj 3 (afP (xP (ao 3)))))))
noncomputable def cF:Kv->List D->Rs (D×Kv):=fun es ds=>adJ (jq (oN ["left","first","near","chain","place","here","other"] es ds))
theorem yu(F:iz K mg "taken_chain" lK) (eE:∀y g,lL y bY=some g->ql P w K mg base y 1 1 g/\FnV K mg y):Oke P w K mg base "taken_chain" 2 2 cF :=
 afW (k:=1) (g:=jq) F dw fun f cdv A outer s H E B hr hx =>
  aH (xJ 3 dw.nd (aD (sv 1) aR))
  (aH (Mx 0 (cP hr) (sv 1))
  (aH (fZ 4 dw.nd au)
  (aH (je (GX 1000 et (Dd 3 (Ld (sv 4) (wj T.yj (sv 3)))) (aH (fZ 5 dw.nd (Dc 3 (eV (sv 3) (sv 4))))
  (aH (pQ et rfl (Zz 2 eE hr (aD (sv 5) aR)) (rg 6 dw.nd) (aW (fD (adI 0 (CP 0 (cP hr) (sv 6))) (aH (Mx 0 (cP hr) (sv 6))
  (aW (Cz 3 (sv 6)))) cG)))
  (aW (fZ 4 dw.nd (bZ (sv 4) au)))))))
  (CG 3 (aW (adn (aif (W:=WF) (sv 3))))))))
noncomputable def jg:ak->Ou :=
  ou (fT (jF 2 (ao 4))) (Ml 3 (xE 2 2 cF (xPA (aj (ao 4) (aj (ao 1) aO))))) qu
noncomputable def sS:ak->Ou :=
  bG (Df 2 1 pD (aj (ao 0) aO))
  (bG (Cy 3 aO)
  (bG (jC (nW (aK 4) jg (fA (aj (ao 0) aO) mY)))
  (Gj 3 (gR (ao 3)))))
noncomputable def mF:List D->Rs D:=fun ds=>dX (sS (aY ["cells","near","left","told","cell"] ds))
theorem Qa(F:iz K mg "chains" yh) (yw:OkD P w K mg base "marked" 1 1 pD) (lN:Oke P w K mg base "taken_chain" 2 2 cF):ql P w K mg base "chains" 3 2 mF :=
 mz (k:=2) (g:=sS) F qd fun f cdv A outer s H E B hr hx =>
  aH (Vv 2 yw hr qd.nd (aD (sv 0) aR))
  (aH (xJ 3 qd.nd aR)
  (aH (je (pQ et rfl (Ae T.jY (sv 0)) (rg 4 qd.nd) (aW (fD (CP 2 (cP hr) (sv 4)) (aW (Zv 3 (Vz 2 lN hr (afO (W:=WF) (aD (sv 4) (aD (sv 1) aR)))))) cG))))
  (CG 3 (aW (cH (sv 3))))))
noncomputable def Ah:ak->Rs D :=
  fA (aj (ao 0) aO) (bU 1 pC)
noncomputable def vD:ak->Ou :=
  bG (Il (fA (aj (ao 0) aO) (bU 1 iT)))
  (xZ (fu (aK 0) (fun _=>.ok true) Ah 1 [] (fL (fA (aj (aV iY (ao 0) (fC (.int 0))) (aj (fC (.fn "neighbours")) aO)) (bU 2 mF)) asL)))
noncomputable def gM:List D->Rs (List D):=fun ds=>afX (vD (aY ["shape"] ds))
theorem VJ(F:iz K mg "parts" vC) (kE:ql P w K mg base "check_finite" 1 1 iT) (yx:ql P w K mg base "chains" 3 2 mF) (yC:ql P w K mg base "rising" 1 1 pC):Okr P w K mg base "parts" 4 1 gM :=
 afY (k:=3) (g:=vD) F VH fun f cdv A outer s H E B hr hx =>
  aH (acC (cJ kE hr hx (aD (sv 0) aR)))
  (aW (VD (rK (aF vC) ["shape"] (N:=["chain"]) (nt:=1) (caps:=[]) (by decide+kernel)) rfl (by decide+kernel) (Bw (cJ yx hr hx (aD (eV (sv 0) au) (aD (afT T.cC) aR)))) jK (fun s₀ H₀ C ex pins B1=>rg 0 (show n5 (["chain"]:List Str) by decide)) (fun s₀ H₀ C ex pins B1=>cJ yC hr dM (aD (sv 0) aR))))
noncomputable def iw:ak->Ou :=
  bG (ou (fT (aV Xe (ao 1) (fA (aj (ao 0) aO) nJ))) (gR (aV iY (ao 0) (ao 1))) qu)
  (gR (fC (.int 0)))
noncomputable def fM:List D->Rs D:=fun ds=>dX (iw (aY ["script","k"] ds))
theorem Dm(F:iz K mg "_law_cell" oW) :ql P w K mg base "_law_cell" 1 2 fM :=
 mz (k:=0) (g:=iw) F Dh fun f cdv A outer s H E B hr hx =>
  aH (fD (Ld (sv 1) (wj T.yj (sv 0))) (aW (cH (eV (sv 0) (sv 1)))) cG)
  (aW (cH au))
noncomputable def dR:ak->Ou :=
  bG (ju 2 (aV jN (aV dI (aV bF (aV bF (aV bF (ao 2) (aV dI (aV dI (fC (.int 15)) (ao 4)) (ao 4))) (aV dI (fC (.int 31)) (ao 1))) (fC (.int 11))) (fC (.int 48271))) (fC (.int 2147483647))))
  (bG (ju 2 (aV jN (aV dI (ao 2) (ao 2)) (fC (.int 2147483629))))
  (ju 3 (aV bF (aV dI (ao 3) (fC (.int 998244353))) (aV Eu (aV jN (aV dI (ao 2) (fC (.int 69621))) (fC (.int 2147483587))) (fC (.int 7))))))
noncomputable def lg:ak->Ou :=
  bG (ou (fT (aV gGe (ao 0) (aV eZ (fC (.int 10)) (fC (.int 18))))) (gR (aV iW (ao 0) (aV eZ (fC (.int 10)) (fC (.int 18))))) qu)
  (bG (ju 2 (aV jN (ao 0) (fC (.int 2147483629))))
  (bG (ju 3 (fC (.int 0)))
  (bG (jC (jr (aK 4) dR (fC (.int 24))))
  (gR (ao 3)))))
noncomputable def dH:List D->Rs D:=fun ds=>dX (lg (aY ["cell","salt","one","number","j"] ds))
theorem Dp(F:iz K mg "_law_deal" oY) :ql P w K mg base "_law_deal" 1 2 dH :=
 mz (k:=0) (g:=lg) F dO fun f cdv A outer s H E B hr hx =>
  aH (fD (afl (sv 0) (fj au au)) (aW (cH (jO (sv 0) (fj au au)))) cG)
  (aH (fZ 2 dO.nd (nU (sv 0) au))
  (aH (fZ 3 dO.nd au)
  (aH (je (kW et rfl T.jk au (rg 4 dO.nd) (aH (fZ 2 dO.nd (nU (iC (bZ (bZ (bZ (sv 2) (iC (iC au (sv 4)) (sv 4))) (iC au (sv 1))) au) au) au))
  (aH (fZ 2 dO.nd (nU (iC (sv 2) (sv 2)) au))
  (aW (fZ 3 dO.nd (bZ (iC (sv 3) au) (Ri (nU (iC (sv 2) au) au) au))))))))
  (aW (cH (sv 3))))))
noncomputable def sU(vr:List D->Rs D):ak->Rs D :=
  fA (aj (ao 0) (aj (ao 1) aO)) (bU 2 vr)
noncomputable def cj(vr:List D->Rs D):ak->Ou :=
  bG (ou (fT (aV Jg (ao 1) (fC .non))) (gR (aV Jg (ao 0) (fC .non))) qu)
  (bG (ou (fT (fB (ao 1) (Ik .bool))) (gR (nR (fB (ao 0) (Ik .bool)) (aV uL (ao 0) (ao 1)))) qu)
  (bG (ou (fT (fB (ao 1) (Ik .int))) (gR (nR (fB (ao 0) (Ik .int)) (nR (Es (fB (ao 0) (Ik .bool))) (aV uL (ao 0) (ao 1))))) qu)
  (bG (ou (fT (fB (ao 1) (Ik .str))) (gR (nR (fB (ao 0) (Ik .str)) (aV uL (ao 0) (ao 1)))) qu)
  (bG (ou (Ra (qj (fT (fB (ao 1) (Ik .tuple))) (rF (fT (fB (ao 0) (Ik .tuple))))) (qj (fT (fB (ao 1) (Ik .list))) (rF (fT (fB (ao 0) (Ik .list)))))) (gR (fC (.bl false))) qu)
  (gR (nR (aV uL (fA (aj (ao 0) aO) nJ) (fA (aj (ao 1) aO) nJ)) (fA (aj (fu (jG 2 (bR (aK 0) (bR (aK 1) kJ))) (fun _=>.ok true) (sU vr) 2 [] (Uv (aj (ao 0) (aj (ao 1) aO)) Pj)) aO) Oi)))))))
noncomputable def bB:Nat->List D->Rs D
 | 0=>fun _=>.no
 |n + 1=>fun ds=>dX (cj (bB n) (aY ["found","due"] ds))
theorem Dq(F:iz K mg "_law_same" kY) :∀n,ql P w K mg base "_law_same" (0 + 1 + n) 2 (bB n) :=
 GR (g:=cj) 0 F Di fun k vr hk adK f cdv A outer s H E B hr hx =>
  aH (fD (acZ (sv 1) QS) (aW (cH (acY (sv 0) QS))) cG)
  (aH (fD (jB (oA (t:=.bool) T.bW T.JK (sv 1) PyProof.Rows.Boot.«bool»)) (aW (cH (wg (oA (t:=.bool) T.bW T.JK (sv 0) PyProof.Rows.Boot.«bool») (Bm (Lb (cP hr) (sv 0) (sv 1)))))) cG)
  (aH (fD (jB (oA (t:=.int) T.bW T.aaL (sv 1) PyProof.Rows.Boot.«int»)) (aW (cH (wg (oA (t:=.int) T.bW T.aaL (sv 0) PyProof.Rows.Boot.«int») (wg (abX (oA (t:=.bool) T.bW T.JK (sv 0) PyProof.Rows.Boot.«bool»)) (Bm (Lb (cP hr) (sv 0) (sv 1))))))) cG)
  (aH (fD (jB (oA (t:=.str) T.bW T.aaN (sv 1) PyProof.Rows.Boot.«str»)) (aW (cH (wg (oA (t:=.str) T.bW T.aaN (sv 0) PyProof.Rows.Boot.«str») (Bm (Lb (cP hr) (sv 0) (sv 1)))))) cG)
  (aH (fD (Ie (aap (Ie (vZ (jB (oA (t:=.tuple) T.bW T.pZ (sv 1) PyProof.Rows.Boot.«tuple»)) (rG (tZ (jB (oA (t:=.tuple) T.bW T.pZ (sv 0) PyProof.Rows.Boot.«tuple»)))))) (Rg (Ie (vZ (jB (oA (t:=.list) T.bW T.JL (sv 1) PyProof.Rows.Boot.«list»)) (rG (tZ (jB (oA (t:=.list) T.bW T.JL (sv 0) PyProof.Rows.Boot.«list»))))))))) (aW (cH nC)) cG)
  (aW (cH (wg (Lb (cP hr) (wj T.yj (sv 0)) (wj T.yj (sv 1))) (Bm (acD rfl T.afZ (Le (rK (aF kY) ["found","due"] (N:=["one","other"]) (nt:=2) (caps:=[]) (by decide+kernel)) rfl (by decide+kernel) (Zk T.agb (sv 0) (sv 1)) (Sd (zH jK (zH jK RZ))) (fun s₀ H₀ C ex pins B1=>gQ rfl (bC (rg 0 (show n5 (["one","other"]:List Str) by decide)) (bC (rg 1 (show n5 (["one","other"]:List Str) by decide)) dJ))) (fun s₀ H₀ C ex pins B1=>cJ adK hr dM (aD (sv 0) (aD (sv 1) aR)) (Xf:=bE _))))))))))))
noncomputable def cT:ak->Ou :=
  ou (fT (aV Za (ao 1) (ao 2))) (gR (ao 2)) qu
noncomputable def qe:ak->Ou :=
  bG (jC (nW (aK 2) cT (fA (aj (ao 0) aO) (bU 1 (yU gM)))))
  (RW "NoCell" (aj (fC (.str "parts are told of cells of the shape alone")) aO))
noncomputable def mG:List D->Rs D:=fun ds=>dX (qe (aY ["shape","cell","part"] ds))
theorem JM(F:iz K mg "part_of" uE) (nu:Okr P w K mg base "parts" 4 1 gM):ql P w K mg base "part_of" 5 2 mG :=
 mz (k:=4) (g:=qe) F yq fun f cdv A outer s H E B hr hx =>
  aH (je (pQ et rfl (cJ nu.data hr dM (aD (sv 0) aR)) (rg 2 yq.nd) (aW (fD (Uk (cP hr) (sv 1) (sv 2)) (aW (cH (sv 2))) cG))))
  (aW (Ey jd rfl rfl rfl T.VG T.oZ T.yp tP (by decide) tP (aD QT aR) (by decide)))
noncomputable def Dr:ak->Rs D :=
  ao 0
noncomputable def vG:ak->Rs Bool :=
  fT (aV Xe (aV iY (ao 0) (fC (.int 0))) (aV iW (fC (.int 9)) (aV eZ (fC (.int 10)) (fC (.int 12)))))
noncomputable def vH:ak->Ou :=
  ou (rF (fT (fA (aj (fA (aj (ao 5) (aj (ao 9) aO)) (bU 2 mG)) (aj (ao 8) aO)) (bU 2 (bB 5))))) (gR (fC (.bl false))) qu
noncomputable def vI:ak->Ou :=
  Gs (aK 9) vH (fL (ao 8) asS)
noncomputable def vJ:ak->Ou :=
  bG (lD (fA (aj (fA (aj (ao 1) (aj (fC (.int 1)) aO)) (bU 2 dH)) aO) (bU 1 iK)) (jG 2 (bR (aK 2) (bR (aK 3) kJ))))
  (bG (ou (qj (fT (aV uL (aV jN (ao 3) (fC (.int 4))) (fC (.int 1)))) (fT (aV uL (fu (aK 0) vG Dr 1 [] (fL (ao 2) asT)) (fA aO qJ)))) (bG (ju 4 (fA (aj (fA (aj (aV iW (fC (.int 3)) (aV eZ (fC (.int 10)) (fC (.int 12)))) (aj (aV iW (aV eZ (fC (.int 10)) (fC (.int 12))) (fC (.int 5))) aO)) gq) (aj (fA (aj (aV iW (fC (.int 5)) (aV eZ (fC (.int 10)) (fC (.int 12)))) (aj (aV iW (aV bF (aV jN (ao 3) (aV eZ (fC (.int 10)) (fC (.int 6)))) (fC (.int 50))) (aV eZ (fC (.int 10)) (fC (.int 12)))) aO)) gq) aO)) qJ))
  (ju 2 (fA (aj (fA (aj (aV bF (fA (aj (ao 2) aO) qO) (ao 4)) aO) mX) aO) jQ))) qu)
  (bG (ju 5 (fA (aj (ao 2) (aj (fC (.bl false)) aO)) gq))
  (bG (ju 6 (fA (aj (ao 2) (aj (fC (.bl false)) aO)) (bU 2 gG)))
  (bG (Gv 7 1 gM (aj (ao 5) aO))
  (bG (ou (rF (jV 7 (fT (fA (aj (ao 7) (aj (ao 6) aO)) (bU 2 (bB 5)))))) (gR (fC (.bl false))) qu)
  (bG (uX 7 (fA aO gq))
  (bG (nW (aK 8) vI (ao 6))
  (ou (rF (fT (fA (aj (fA (aj (ao 5) aO) (bU 1 (yU gM))) (aj (ao 6) aO)) (bU 2 (bB 5))))) (gR (fC (.bl false))) qu))))))))
noncomputable def MF:ak->Ou :=
  bG (jC (nW (aK 1) vJ (aV bF (fA (aj (fA (aj (ao 0) (aj (fC (.int 0)) aO)) (bU 2 fM)) aO) qJ) (fSl (ao 0) (fP (fC (.int 1))) (fP (fC (.int 7)))))))
  (gR (fC (.bl true)))
noncomputable def MJ:List D->Rs D:=fun ds=>dX (MF (aY ["script","cell","cells","number","far","shape","due","told","part","spot"] ds))
theorem agd{f:ae}(nA:ql P w K mg base "_law_board" 2 1 iK) (pH:ql P w K mg base "_law_deal" 1 2 dH) (lO:ql P w K mg base "_law_fallen" 1 2 gG) (nu:Okr P w K mg base "parts" 4 1 gM) (jy:ql P w K mg base "_law_same" 6 2 (bB 5)) (uH:ql P w K mg base "part_of" 5 2 mG) (pI:ql P w K mg base "_law_cell" 1 2 fM) {cdv:aa}{A:aT}{outer:List Env}{s:af}{H:Hp}{E:XK}{B:Bs}(hr:iB 6 (A.deeper (lT "law" (aF mC) s.heap.objs.size f cdv)))
  (hx:nZ (nH (uf P w K) P w K mg base ["script","cell","cells","number","far","shape","due","told","part","spot"] "law" (aF mC) f cdv A outer s H E) (fun c n _ H'=>E (uU c n) none H')) :
  tE (nH (uf P w K) P w K mg base ["script","cell","cells","number","far","shape","due","told","part","spot"] "law" (aF mC) f cdv A outer s H E) B (fun c n _ H'=>E (uU c n) none H') (cu mC) MF :=
  aH (je (pQ et rfl (bZ (uc (aD (cJ pI hr dM (aD (sv 0) (aD au aR))) aR)) (Ro (sv 0) (KD au) (KD au))) (rg 1 jZ.nd) (aH (iD (cJ nA hr dM (aD (cJ pH hr dM (aD (sv 1) (aD au aR))) aR)) (gQ rfl (bC (rg 2 jZ.nd) (bC (rg 3 jZ.nd) dJ))))
  (aH (fD (Ie (vZ (EY (cP hr) (nU (sv 3) au) au) (rG (EY (cP hr) (zJ (rK (aF mC) ["script","cell","cells","number","far","shape","due","told","part","spot"] (N:=["spot"]) (nt:=1) (caps:=[]) (by decide+kernel)) rfl (by decide+kernel) (RX (sv 2)) jK (fun s₀ H₀ C ex pins B1=>rg 0 (show n5 (["spot"]:List Str) by decide)) (fun s₀ H₀ C ex pins B1=>Ld (eV (sv 0) au) (jO au (fj au au))) (fun s₀ H₀ C ex pins B1=>sv 0)) (uc aR))))) (aH (fZ 4 jZ.nd (uc (aD (fX (aD (jO au (fj au au)) (aD (jO (fj au au) au) aR))) (aD (fX (aD (jO au (fj au au)) (aD (jO (bZ (nU (sv 3) (fj au au)) au) (fj au au)) aR))) aR))))
  (aW (fZ 2 jZ.nd (rZ T.pZ (Gm T.jY (bZ (YZ T.JL (sv 2)) (sv 4))))))) cG)
  (aH (fZ 5 jZ.nd (fX (aD (sv 2) (aD nC aR))))
  (aH (fZ 6 jZ.nd (cJ lO hr dM (aD (sv 2) (aD nC aR))))
  (aH (Zt 7 nu.f hr jZ.nd (aD (sv 5) aR))
  (aH (fD (tZ (Dd 7 (jB (cJ jy hr dM (aD (sv 7) (aD (sv 6) aR)))))) (aW (cH nC)) cG)
  (aH (Cz 7 (fX aR))
  (aH (pQ et rfl (sv 6) (rg 8 jZ.nd) (aW (Zn et rfl (adC (sv 8)) (rg 9 jZ.nd) (aW (fD (tZ (jB (cJ jy hr dM (aD (cJ uH hr dM (aD (sv 5) (aD (sv 9) aR))) (aD (sv 8) aR))))) (aW (cH nC)) cG)))))
  (aW (fD (tZ (jB (cJ jy hr dM (aD (cJ nu.data hr dM (aD (sv 5) aR)) (aD (sv 6) aR))))) (aW (cH nC)) cG))))))))))))
  (aW (cH nC))
end
section
variable{l:mM}{w:az}{K:di}{h:ay}{mg:Str->Option aa}{fa:ae}{dZ:ae}{gw:ae}
 {VL:ae}{adL VN:Option ae}{adM:Array (Option aa)}{adN VP VR Wa JN Wb:aa}
theorem all_mk(X:K.In h) (G:h.Ns cq mg) (hfa:mg "law"=some (.ref fa))
  (mD:dP K cq "Endless"=some (some (.ref dZ)))
  (uF:excIn K dZ [.type "ValueError",.type "Exception",.type "BaseException",.type "object"] "ValueError.__new__"=true)
  (oZ:dP K cq "NoCell"=some (some (.ref gw)))
  (yp:excIn K gw [.type "ValueError",.type "Exception",.type "BaseException",.type "object"] "ValueError.__new__"=true)
  (Hj:Dn K "_law_base" oU)
  (Hl:Dn K "_law_kept" oV)
  (Ds:Dn K "_law_board" mZ)
  (yX:Dn K "_law_fallen" lJ)
  (yD:Dn K "check_finite" jX)
  (Wc:Dn K "rising" yc)
  (Wd:Dn K "marked" yg)
  (sV:Dn K "neighbours" iJ)
  (yZ:Dn K "taken_chain" lK)
  (Wf:Dn K "chains" yh)
  (ZF:Dn K "parts" vC)
  (Ho:Dn K "_law_cell" oW)
  (Hq:Dn K "_law_deal" oY)
  (Hr:Dn K "_law_same" kY)
  (Qc:Dn K "part_of" uE)
  (agf:dP K cq "law"=some (some (.ref VL)))
  (agg:K.lookup VL=some ⟨adN,adL,.func (fnOf "law" "law" (fO mC) (cu mC) (aF mC) .none VP VR Wa VN JN Wb),adM⟩)
  (agh:codeIn K JN "law"=true)
  (agi:keepIn K (.ref VL)=true)
  (agj:dP K cq "all"=some none)
  (adO:dP K cq "bool"=some none)
  (Wg:dP K cq "divmod"=some none)
  (agk:dP K cq "int"=some none)
  (Dt:dP K cq "isinstance"=some none)
  (agl:dP K cq "len"=some none)
  (adP:dP K cq "list"=some none)
  (agm:dP K cq "max"=some none)
  (agn:dP K cq "min"=some none)
  (ZG:dP K cq "range"=some none)
  (ago:dP K cq "set"=some none)
  (Wh:dP K cq "sorted"=some none)
  (agp:dP K cq "str"=some none)
  (ZJ:dP K cq "tuple"=some none)
  (agq:dP K cq "zip"=some none) :
  ∃fd:dn,(∀(s:af) (v:aa),i_ s fd ⟨[v],[]⟩ [("script",v)])/\∀base:ay,K.In base->base.Ns cq mg->nO l.prog w K mg base (uf l.prog w K) 7 fa fd ["script"] (Yj K 1 MJ):=by
 have e:=hfa.symm.trans (mg_of X G agf);cases e;have T:Txt K mg dZ gw:=⟨f7 X G agj,
  f7 X G adO,
  f7 X G Wg,
  f7 X G agk,
  f7 X G Dt,
  f7 X G agl,
  f7 X G adP,
  f7 X G agm,
  f7 X G agn,
  f7 X G ZG,
  f7 X G ago,
  f7 X G Wh,
  f7 X G agp,
  f7 X G ZJ,
  f7 X G agq,
  mg_of X G mD,
  mD,
  uF,
  (fun c C hc hC=>(by simp only[Ag,l4,beq_iff_eq,or_assoc]at hc;exact(fun z=>by subst z;rw[mD]at hC;cases hC;exact Fd _) hc)),
  mg_of X G oZ,
  oZ,
  yp,
  (fun c C hc hC=>(by simp only[Hi,l4,beq_iff_eq,or_assoc]at hc;exact(fun z=>by subst z;rw[oZ]at hC;cases hC;exact Fd _) hc)),
  sV.fnv X G⟩
 have agr:=QH (st:=mC) agg agh agi;refine⟨fnOf "law" "law" (fO mC) (cu mC) (aF mC) .none VP VR Wa VN JN Wb,fun s v=>.of_eq rfl,fun base _ _=>?_⟩;have pA:=Dj (P:=l.prog) (w:=w) (base:=base) T (Hj.ent X G);have jx:=Dl (P:=l.prog) (w:=w) (base:=base) T (Hl.ent X G);have nA:=yV (P:=l.prog) (w:=w) (base:=base) T (Ds.ent X G) pA jx;have lO:=yr (P:=l.prog) (w:=w) (base:=base) T (yX.ent X G);have kE:=uZ (P:=l.prog) (w:=w) (base:=base) T (yD.ent X G);have yC:=PN (P:=l.prog) (w:=w) (base:=base) T (Wc.ent X G);have yw:=PX (P:=l.prog) (w:=w) (base:=base) T (Wd.ent X G);have nq:=yW (P:=l.prog) (w:=w) (base:=base) T (sV.ent X G);have eE:=ni (P:=l.prog) (w:=w) (base:=base) T nq;have lN:=yu (P:=l.prog) (w:=w) (base:=base) T (yZ.ent X G) eE;have yx:=Qa (P:=l.prog) (w:=w) (base:=base) T (Wf.ent X G) yw lN;have nu:=VJ (P:=l.prog) (w:=w) (base:=base) T (ZF.ent X G) kE yx yC;have pI:=Dm (P:=l.prog) (w:=w) (base:=base) T (Ho.ent X G);have pH:=Dp (P:=l.prog) (w:=w) (base:=base) T (Hq.ent X G);have jy:=Dq (P:=l.prog) (w:=w) (base:=base) T (Hr.ent X G)  5;have uH:=JM (P:=l.prog) (w:=w) (base:=base) T (Qc.ent X G) nu;exact afe agr jZ fun cdv A outer s H E B hr=>agd T nA pH lO nu jy uH pI hr (oh jd rfl)
end
theorem JQ{c s o n J A1 A2 A3 A4 q A5 r A6 A7 u A8:Int}(e0:dI (.int 15) (.int J)=.ok (.int A1))(e1:dI (.int A1) (.int J)=.ok (.int A2))(e2:dI (.int 31) (.int s)=.ok (.int A3))(e3:dI (.int (o + A2 + A3 + 11)) (.int 48271)=.ok (.int A4))(e4:jN (.int A4) (.int 2147483647)=.ok (.int q))
  (e5:dI (.int q) (.int q)=.ok (.int A5)) (e6:jN (.int A5) (.int 2147483629)=.ok (.int r)) (e7:dI (.int n) (.int 998244353)=.ok (.int A6)) (e8:dI (.int r) (.int 69621)=.ok (.int A7)) (e9:jN (.int A7) (.int 2147483587)=.ok (.int u)) (e10:Eu (.int u) (.int 7)=.ok (.int A8)) :
  dR [.fz (.int c),.fz (.int s),.fz (.int o),.fz (.int n),.fz (.int J)]=.nx [.fz (.int c),.fz (.int s),.fz (.int r),.fz (.int (A6 + A8)),.fz (.int J)]:=by
 unfold dR;simp (config:={ decide:=false }) only[bG,Vd,Ve,Vf,Pn,adp,GC,Vg,adq,Vh,Vi,Vj,Vk,Vm,Jv,ju,gR,Il,ou,lD,acF,jC,qu,Cy,uX,Gj,RW,aV,ao,fC,fA,fB,aj,aO,fT,rF,qj,Ra,nR,abW,Es,wF,fL,fSl,fP,acd,toB,toI,Ju,cI,lV,Fi,acI,Io,acJ,qX,xU,Jw,Jx,Jy,Jz,JB,JC,Vo,JD,adu,adw,adx,ady,adz,Vp,qw,Ss,Mr,Vn,GD,GF,aK,jG,bR,kJ,aY,bX,iN,ck,eC,gc,pj,kQ,tx,tz,p7,sN,x6,x8,x_,ya,hZ,tJ,if_true,if_false,ite_true,ite_false,decide_true,decide_false,eK,l_,bP,reduceIte,reduceCtorEq,e0,e1,e2,e3,e4,e5,e6,e7,e8,e9,e10]
theorem Hs{c s o n:Int}{j:Nat}(hs:0<=s/\s<=9)(hj:j < 24)(h1:0<=o)(h2:o < 2147483647) :
  ∃o' n':Int,dR [.fz (.int c),.fz (.int s),.fz (.int o),.fz (.int n),.fz (.int j)]=.nx [.fz (.int c),.fz (.int s),.fz (.int o'),.fz (.int n'),.fz (.int j)]/\0<=o'/\o' < 2147483647:=by
 have e0:dI (.int 15) (.int j)=.ok (.int (15 * j)):=lH (by omega);have e1:dI (.int (15 * (j:Int))) (.int j)=.ok (.int (15 * j * j)):=lH (by omega);have e2:dI (.int 31) (.int s)=.ok (.int (31 * s)):=lH (by omega);have e3:dI (.int (o + 15 * j * j + 31 * s + 11)) (.int 48271)=.ok (.int ((o + 15 * j * j + 31 * s + 11) * 48271)):=lH (by decide);have e4:=uM (m:=(o + 15 * j * j + 31 * s + 11) * 48271) (n:=2147483647) (by decide);have b1:0<=(o + 15 * (j:Int) * j + 31 * s + 11) * 48271 % 2147483647:=gp _ (by decide);have b2:(o + 15 * (j:Int) * j + 31 * s + 11) * 48271 % 2147483647 < 2147483647:=i0 _ (by decide);generalize (o + 15 * (j:Int) * j + 31 * s + 11) * 48271 % 2147483647=q at e4 b1 b2;have e5:dI (.int q) (.int q)=.ok (.int (q * q)):=lH (by omega);have e6:=uM (m:=q * q) (n:=2147483629) (by decide);have c1:0<=q * q % 2147483629:=gp _ (by decide);have c2:q * q % 2147483629 < 2147483629:=i0 _ (by decide);generalize q * q % 2147483629=r at e6 c1 c2;have e7:dI (.int n) (.int 998244353)=.ok (.int (n * 998244353)):=lH (by decide);have e8:dI (.int r) (.int 69621)=.ok (.int (r * 69621)):=lH (by decide);have e9:=uM (m:=r * 69621) (n:=2147483587) (by decide);generalize r * 69621 % 2147483587=u at e9;have e10:=aaw (m:=u) (n:=7) ⟨by decide,by decide⟩;exact⟨_,_,JQ e0 e1 e2 e3 e4 e5 e6 e7 e8 e9 e10,c1,by omega⟩
theorem Ht(c:Int){s o:Int}(hs:0<=s/\s<=9)(b1:0<=o)(b2:o < 2147483647):∃(o' n:Int) (a:Sl),jr (aK 4) dR (fC (.int 24)) [.fz (.int c),.fz (.int s),.fz (.int o),.fz (.int 0),.no]=.nx [.fz (.int c),.fz (.int s),.fz (.int o'),.fz (.int n),a]:=by
 obtain⟨ρ',e1,o',n,a,rfl,_⟩:=Fg (h:=aK 4) (g:=dR) (fun ρ=>∃(o n:Int) (a:Sl),ρ=[.fz (.int c),.fz (.int s),.fz (.int o),.fz (.int n),a]/\0<=o/\o < 2147483647)
  (ds:=(b_ 24).map fun(i:Nat)=>.int i) (ρ:=[.fz (.int c),.fz (.int s),.fz (.int o),.fz (.int 0),.no]) ⟨_,_,_,rfl,b1,b2⟩ (by
   rintro d hd ρ ⟨o,n,a,rfl,h1,h2⟩;obtain⟨j,hj,rfl⟩:=dt.mp hd;obtain⟨o',n',e,h3,h4⟩:=Hs (c:=c) (s:=s) (n:=n) (j:=j) hs (fw.mp hj) h1 h2;exact⟨_,_,rfl,e,_,_,_,rfl,h3,h4⟩)
 exact⟨o',n,a,oG (N:=24) bT (by decide) rfl e1⟩
theorem Wj(c s T:Int)(p1:eZ (.int 10) (.int 18)=.ok (.int T))(h:decide (T<=c)=true):dH [.int c,.int s]=.ok (.int (c - T)):=by unfold dH lg;simp (config:={ decide:=false }) only[bG,Vd,Ve,Vf,Pn,adp,GC,Vg,adq,Vh,Vi,Vj,Vk,Vm,Jv,ju,gR,Il,ou,lD,acF,jC,qu,Cy,uX,Gj,RW,aV,ao,fC,fA,fB,aj,aO,fT,rF,qj,Ra,nR,abW,Es,wF,fL,fSl,fP,acd,toB,toI,Ju,cI,lV,Fi,acI,Io,acJ,qX,xU,Jw,Jx,Jy,Jz,JB,JC,Vo,JD,adu,adw,adx,ady,adz,Vp,qw,Ss,Mr,Vn,GD,GF,aK,jG,bR,kJ,aY,bX,iN,ck,eC,gc,pj,kQ,tx,tz,p7,sN,x6,x8,x_,ya,hZ,tJ,if_true,if_false,ite_true,ite_false,decide_true,decide_false,eK,l_,bP,reduceIte,reduceCtorEq,p1,h]
theorem Wk(c s T o o' n:Int)(a:Sl)(p1:eZ (.int 10) (.int 18)=.ok (.int T))(p2:jN (.int c) (.int 2147483629)=.ok (.int o))
  (f1:jr (aK 4) dR (fC (.int 24)) [.fz (.int c),.fz (.int s),.fz (.int o),.fz (.int 0),.no]=.nx [.fz (.int c),.fz (.int s),.fz (.int o'),.fz (.int n),a]) (h:decide (T<=c)=false):dH [.int c,.int s]=.ok (.int n):=by
 unfold dH lg;simp (config:={ decide:=false }) only[bG,Vd,Ve,Vf,Pn,adp,GC,Vg,adq,Vh,Vi,Vj,Vk,Vm,Jv,ju,gR,Il,ou,lD,acF,jC,qu,Cy,uX,Gj,RW,aV,ao,fC,fA,fB,aj,aO,fT,rF,qj,Ra,nR,abW,Es,wF,fL,fSl,fP,acd,toB,toI,Ju,cI,lV,Fi,acI,Io,acJ,qX,xU,Jw,Jx,Jy,Jz,JB,JC,Vo,JD,adu,adw,adx,ady,adz,Vp,qw,Ss,Mr,Vn,GD,GF,aK,jG,bR,kJ,aY,bX,iN,ck,eC,gc,pj,kQ,tx,tz,p7,sN,x6,x8,x_,ya,hZ,tJ,if_true,if_false,ite_true,ite_false,decide_true,decide_false,eK,l_,bP,reduceIte,reduceCtorEq,p1,h,p2,f1]
theorem adQ(c s:Int)(hs:0<=s/\s<=9):∃n:Int,dH [.int c,.int s]=.ok (.int n):=by
 have p1:eZ (.int 10) (.int 18)=.ok (.int (10 ^ Int.toNat 18)):=Sq ⟨by decide,by decide,by decide⟩;generalize (10:Int) ^ Int.toNat 18=T at p1;have p2:jN (.int c) (.int 2147483629)=.ok (.int (c % 2147483629)):=uM (by decide);have b1:0<=c % 2147483629:=gp _ (by decide);have b2:c % 2147483629 < 2147483629:=i0 _ (by decide);obtain⟨o',n,a,f1⟩:=Ht c hs (o:=c % 2147483629) b1 (by omega);cases h:decide (T<=c) with
 |true=>exact⟨_,Wj c s T p1 h⟩
 |false=>exact⟨_,Wk c s T _ o' n a p1 p2 f1 h⟩
theorem MK:eZ (.int 10) (.int 12)=.ok (.int 1000000000000):=by rw[Sq ⟨by decide,by decide,by decide⟩];exact congrArg (fun z=>Rs.ok (D.int z)) (by decide)
theorem m12:dI (.int 2) (.int 1000000000000)=.ok (.int 2000000000000):=by rw[lH (by decide)];exact congrArg (fun z=>Rs.ok (D.int z)) (by decide)
theorem ags:bF (.int 2000000000000) (.int 1)=.ok (.int 2000000000001):=rfl
noncomputable def kp(a:Int):Int:=if (if a < 1000000000000 then a else 1000000000000) > -1000000000000 then (if a < 1000000000000 then a else 1000000000000) else-1000000000000
noncomputable def Bd(x:List Int):Prop:=-1000000000000<=c0 x/\c0 x<=1000000000000/\-1000000000000<=c1 x/\c1 x<=1000000000000
theorem MN(a:Int):-1000000000000<=kp a/\kp a<=1000000000000:=by unfold kp;split <;> split <;> lia
theorem adR(a b:Int):∃x y:Int,dG [.int a,.int b]=.ok (tupK [x,y])/\Bd [x,y]:=by
 refine⟨kp a,kp b,?_,(MN a).1,(MN a).2,(MN b).1,(MN b).2⟩;have mn:∀z:Int,sH [.int 1000000000000,.int z]=.ok (.int (if z < 1000000000000 then z else 1000000000000)):=fun _=>rfl;have mx:∀z:Int,Gp [.int (-1000000000000),.int (if z < 1000000000000 then z else 1000000000000)]=.ok (.int (kp z)):=fun _=>rfl;have run:kZ (aY ["row","column"] [.int a,.int b])=.rt (tupK [kp a,kp b]):=by unfold kZ;exact lU (eO (aC (eO (aC (Sg (bf bT bT MK)) (aC (eO (aC (bf bT bT MK) (aC (aq rfl) aX)) (mn _)) aX)) (mx _)) (aC (eO (aC (Sg (bf bT bT MK)) (aC (eO (aC (bf bT bT MK) (aC (aq rfl) aX)) (mn _)) aX)) (mx _)) aX)) (t2 _ _))
 unfold dG;rw[run];rfl
theorem adS(n:Int):∃x y n':Int,iu [.int n]=.ok (.tup [tupK [x,y],.int n']):=by
 have d1:=uW (m:=n) (n:=5) ⟨by decide,by decide⟩;have u0:0<=n % 5:=gp _ (by decide);generalize n / 5=n1 at d1;generalize n % 5=w at d1 u0;cases h:decide (w > 1) with
 |true =>
  refine⟨0,0,n1,?_⟩;have run:ig (aY ["number","way","row","column","by"] [.int n])=.rt (.tup [tupK [0,0],.int n1]):=by unfold ig;refine aN (ρ1:=[.fz (.int n1),.fz (.int w),.no,.no,.no]) (jT (eO (aC (aq rfl) (aC bT aX)) d1) rfl) ?_;exact Bx (gU (jE (bf (aq rfl) bT (by rw[Io,h]))) (lU (eO (aC (eO (aC bT (aC bT aX)) (t2 _ _)) (aC (aq rfl) aX)) (t2 _ _))))
  unfold iu;rw[run];rfl
 |false =>
  have hw:w<=1:=by simpa using of_decide_eq_false h
  have two:∃D1 B1:Int,(0 < D1/\D1 < 2 ^ 64)/\(-(2 ^ 64) < B1/\B1 < 2 ^ 64)/\iY (.lst [.int 2000000000001,.int 2]) (.int w)=.ok (.int D1)/\iY (.lst [.int 1,.int 2000000000000]) (.int w)=.ok (.int B1):=by
   rcases(show w=0∨w=1 by omega) with rfl|rfl
   ·exact⟨_,_,by decide,by decide,wG GD,wG GD⟩
   ·exact⟨_,_,by decide,by decide,wG GF,wG GF⟩
  obtain⟨D1,B1,hD,hB,i1,i2⟩:=two;have d2:=uW (m:=n1) (n:=D1) (cdb hD.1 (by omega));generalize n1 / D1=n2 at d2;generalize n1 % D1=r at d2;have d3:=uW (m:=n2) (n:=D1) (cdb hD.1 (by omega));generalize n2 / D1=n3 at d3;generalize n2 % D1=c at d3;have e1:dI (.int r) (.int B1)=.ok (.int (r * B1)):=lH hB;have e2:dI (.int c) (.int B1)=.ok (.int (c * B1)):=lH hB;refine⟨r * B1 - 1000000000000,c * B1 - 1000000000000,n3,?_⟩;have l2:∀a b:D,qJ [a,b]=.ok (.lst [a,b]):=fun a b=>Fe (by simp);have run:ig (aY ["number","way","row","column","by"] [.int n])=.rt (.tup [tupK [r * B1 - 1000000000000,c * B1 - 1000000000000],.int n3]):=by unfold ig;refine aN (ρ1:=[.fz (.int n1),.fz (.int w),.no,.no,.no]) (jT (eO (aC (aq rfl) (aC bT aX)) d1) rfl) ?_;refine aN (bV (jE (bf (aq rfl) bT (by rw[Io,h]))) iG) ?_;refine aN (ρ1:=[.fz (.int n2),.fz (.int w),.fz (.int r),.no,.no]) (jT (eO (aC (aq rfl) (aC (bf (eO (aC (bf (bf bT (bf bT bT MK) m12) bT ags) (aC bT aX)) (l2 _ _)) (aq rfl) i1) aX)) d2) rfl) ?_;refine aN (ρ1:=[.fz (.int n3),.fz (.int w),.fz (.int r),.fz (.int c),.no]) (jT (eO (aC (aq rfl) (aC (bf (eO (aC (bf (bf bT (bf bT bT MK) m12) bT ags) (aC bT aX)) (l2 _ _)) (aq rfl) i1) aX)) d3) rfl) ?_;refine aN (oE (bf (eO (aC bT (aC (bf bT (bf bT bT MK) m12) aX)) (l2 _ _)) (aq rfl) i2)) ?_;exact lU (eO (aC (eO (aC (bf (bf (aq rfl) (aq rfl) e1) (bf bT bT MK) lV) (aC (bf (bf (aq rfl) (aq rfl) e2) (bf bT bT MK) lV) aX)) (t2 _ _)) (aC (aq rfl) aX)) (t2 _ _))
  unfold iu;rw[run];rfl
theorem bM{h:Tg}{gb:ak->Ou}{d:D}{ds:List D}{ρ ρ1 ρ2:ak}{r:Ou}(h1:h d ρ=some ρ1)(h2:gb ρ1=.nx ρ2)(h3:cL h gb ds ρ2=r):cL h gb (d::ds) ρ=r:=by unfold cL;rw[h1];dsimp only;rw[h2];exact h3
structure GB (kvs:List (List Int×D))(n:Nat):Prop where
 gn:GN kvs
 le:kvs.length<=n
 bd:∀x∈kvs.map (·.1),Bd x
theorem GB.nil:GB [] 0:=⟨.nil,bE _,fun x h=>nomatch h⟩
theorem GB.put{kvs:List (List Int×D)}{n:Nat}(h:GB kvs n){x y:Int}(b:Bd [x,y]):GB (qR kvs [x,y] (.bl true)) (n + 1) :=
 ⟨h.gn.put x y _,dq (Ms kvs [x,y] (.bl true)) (vk h.le),fun z hz=>by
  rcases(xW kvs [x,y] z (.bl true)).mp hz with rfl|hz
  ·exact b
  ·exact h.bd z hz⟩
theorem GB.mono{kvs:List (List Int×D)}{n m:Nat}(h:GB kvs n)(l:n<=m):GB kvs m:=⟨h.gn,dq h.le l,h.bd⟩
theorem pJ{kvs:List (List Int×D)}{k x:List Int}:x∈(iZ kvs k).map (·.1)↔x∈kvs.map (·.1)/\x≠k:=by
 unfold iZ;constructor
 ·intro h;obtain⟨p,hp,rfl⟩:=dt.mp h;obtain⟨h1,h2⟩:=h_.mp hp;exact⟨nV h1,by simpa using h2⟩
 ·rintro⟨h1,h2⟩;obtain⟨p,hp,rfl⟩:=dt.mp h1;exact nV (h_.mpr ⟨hp,by simpa using h2⟩)
theorem GB.out{kvs:List (List Int×D)}{n:Nat}(h:GB kvs n)(k:List Int):GB (iZ kvs k) n :=
 ⟨(h.gn.out k).1,dq (h.gn.out k).2.1 h.le,fun x hx=>h.bd x (pJ.mp hx).1⟩
noncomputable abbrev R(n w:Int)(bx by_:Int)(kvs:List (List Int×D))(m:Int)(a5 a6 a7 a8 a9 a10 a11 a12 a13:Sl):ak:=[.fz (.int n),.fz (.int w),.fz (tupK [bx,by_]),.od kvs,.fz (.int m),a5,a6,a7,a8,a9,a10,a11,a12,a13]
theorem JR{n w bx by_ m:Int}{kvs:List (List Int×D)}{N:Nat}{a5 a6 a7 a8 a9 a10 a11 a12 a13:Sl}{f1 f2:ak->Rs D}{u v:Int}(hk:GB kvs N)(hN:N<=1000)(h1:f1 (R n w bx by_ kvs m a5 a6 a7 a8 a9 a10 a11 a12 a13)=.ok (.int u))(h2:f2 (R n w bx by_ kvs m a5 a6 a7 a8 a9 a10 a11 a12 a13)=.ok (.int v)) :
  ∃kvs',oM 3 (fC (.bl true)) (fA (aj f1 (aj f2 aO)) (bU 2 dG)) (R n w bx by_ kvs m a5 a6 a7 a8 a9 a10 a11 a12 a13)=.nx (R n w bx by_ kvs' m a5 a6 a7 a8 a9 a10 a11 a12 a13)/\GB kvs' (N + 1):=by
 obtain⟨x,y,e,b⟩:=adR u v;have l:=hk.le;exact⟨_,Vr (ks:=[x,y]) bT rfl (eO (aC h1 (aC h2 aX)) (gj rfl e)) (by lia),hk.put b⟩
theorem Wm{w bx by_ m:Int}{a7 a8 a9 a10 a11 a12 a13:Sl}:∀(l:List Nat) (n:Int) (kvs:List (List Int×D)) (N:Nat) (a5 a6:Sl),GB kvs N->N + l.length<=1000 ->
  ∃n' kvs' b5 b6,cL (aK 5) gA (l.map fun(i:Nat)=>.int i) (R n w bx by_ kvs m a5 a6 a7 a8 a9 a10 a11 a12 a13)=.nx (R n' w bx by_ kvs' m b5 b6 a7 a8 a9 a10 a11 a12 a13)/\GB kvs' (N + l.length)
 | [],n,kvs,N,a5,a6,g,_=>⟨n,kvs,a5,a6,rfl,g⟩
 |i::l,n,kvs,N,a5,a6,g,hl=>by
  rw[ck]at hl;have d1:=uW (m:=n) (n:=25) ⟨by decide,by decide⟩;generalize n / 25=n1 at d1;generalize n % 25=at_ at d1;have v5:Eu (.int at_) (.int 5)=.ok (.int (at_ / 5)):=aaw ⟨by decide,by decide⟩;have r5:jN (.int at_) (.int 5)=.ok (.int (at_ % 5)):=uM (by decide);obtain⟨k1,e1,g1⟩:=JR (n:=n1) (w:=w) (bx:=bx) (by_:=by_) (m:=m) (a5:=.fz (.int i)) (a6:=.fz (.int at_)) (a7:=a7) (a8:=a8) (a9:=a9) (a10:=a10) (a11:=a11) (a12:=a12) (a13:=a13) (f1:=aV bF (aV iY (ao 2) (fC (.int 0))) (aV Eu (ao 6) (fC (.int 5)))) (f2:=aV bF (aV iY (ao 2) (fC (.int 1))) (aV jN (ao 6) (fC (.int 5)))) g (by lia) (bf (bf (aq rfl) bT rfl) (bf (aq rfl) bT v5) cI) (bf (bf (aq rfl) bT rfl) (bf (aq rfl) bT r5) cI);have st:gA (R n w bx by_ kvs m (.fz (.int i)) a6 a7 a8 a9 a10 a11 a12 a13)=.nx (R n1 w bx by_ k1 m (.fz (.int i)) (.fz (.int at_)) a7 a8 a9 a10 a11 a12 a13):=by unfold gA;exact aN (ρ1:=R n1 w bx by_ kvs m (.fz (.int i)) (.fz (.int at_)) a7 a8 a9 a10 a11 a12 a13) (jT (eO (aC (aq rfl) (aC bT aX)) d1) rfl) e1
  obtain⟨n2,k2,b5,b6,e2,g2⟩:=Wm (w:=w) (bx:=bx) (by_:=by_) (m:=m) (a7:=a7) (a8:=a8) (a9:=a9) (a10:=a10) (a11:=a11) (a12:=a12) (a13:=a13) l n1 k1 (N + 1) (.fz (.int i)) (.fz (.int at_)) g1 (by lia);refine⟨n2,k2,b5,b6,?_,g2.mono (by rw[ck];lia)⟩;rw[bX];exact bM rfl st e2
theorem in2(r a b:Int):∃c:Bool,Za (.int r) (.tup [.int a,.int b])=.ok (.bl c):=⟨_,by
 show Jh false _ _=_;simp only[Jh];rw[if_pos ⟨by simp[fW],by simp[fW,eU]⟩]⟩
theorem adT{n w bx by_ m k top tall wide r c:Int}{kvs:List (List Int×D)}{N:Nat}{a6 a12 a13:Sl}(g:GB kvs N)(hN:N<=1000) :
  ∃kvs',gB (R n w bx by_ kvs m (.fz (.int k)) a6 (.fz (.int top)) (.fz (.int tall)) (.fz (.int wide)) (.fz (.int r)) (.fz (.int c)) a12 a13)=.nx (R n w bx by_ kvs' m (.fz (.int k)) a6 (.fz (.int top)) (.fz (.int tall)) (.fz (.int wide)) (.fz (.int r)) (.fz (.int c)) a12 a13)/\GB kvs' (N + 1):=by
 obtain⟨c1,e1⟩:=in2 r 0 tall;obtain⟨c2,e2⟩:=in2 c 0 wide;have m3:dI (.int 3) (.int k)=.ok (.int (3 * k)):=adt (by decide);obtain⟨k1,e3,g1⟩:=JR (n:=n) (w:=w) (bx:=bx) (by_:=by_) (m:=m) (a5:=.fz (.int k)) (a6:=a6) (a7:=.fz (.int top)) (a8:=.fz (.int tall)) (a9:=.fz (.int wide)) (a10:=.fz (.int r)) (a11:=.fz (.int c)) (a12:=a12) (a13:=a13) (f1:=aV bF (aV bF (aV iY (ao 2) (fC (.int 0))) (ao 7)) (ao 10)) (f2:=aV bF (aV iW (aV bF (aV iY (ao 2) (fC (.int 1))) (aV dI (fC (.int 3)) (ao 5))) (ao 7)) (ao 11)) g hN (bf (bf (bf (aq rfl) bT rfl) (aq rfl) cI) (aq rfl) cI) (bf (bf (bf (bf (aq rfl) bT rfl) (bf bT (aq rfl) m3) cI) (aq rfl) lV) (aq rfl) cI);have t1:fT (aV Za (ao 10) (fA (aj (fC (.int 0)) (aj (ao 8) aO)) gq)) (R n w bx by_ kvs m (.fz (.int k)) a6 (.fz (.int top)) (.fz (.int tall)) (.fz (.int wide)) (.fz (.int r)) (.fz (.int c)) a12 a13)=.ok c1:=jE (bf (aq rfl) (eO (aC bT (aC (aq rfl) aX)) (t2 _ _)) e1);have t2':fT (aV Za (ao 11) (fA (aj (fC (.int 0)) (aj (ao 9) aO)) gq)) (R n w bx by_ kvs m (.fz (.int k)) a6 (.fz (.int top)) (.fz (.int tall)) (.fz (.int wide)) (.fz (.int r)) (.fz (.int c)) a12 a13)=.ok c2:=jE (bf (aq rfl) (eO (aC bT (aC (aq rfl) aX)) (t2 _ _)) e2);unfold gB;cases c1 with
 |true=>exact⟨k1,gU (acH t1) e3,g1⟩
 |false =>
  cases c2 with
  |true=>exact⟨k1,gU (BJ t1 t2') e3,g1⟩
  |false=>exact⟨kvs,bV (BJ t1 t2') iG,g.mono (nN _)⟩
theorem Wn{n w bx by_ m k top tall wide r:Int}{a6 a12 a13:Sl}:∀(l:List Nat) (kvs:List (List Int×D)) (N:Nat) (a11:Sl),GB kvs N->N + l.length<=1000 ->
  ∃kvs' tL,cL (aK 11) gB (l.map fun(i:Nat)=>.int i) (R n w bx by_ kvs m (.fz (.int k)) a6 (.fz (.int top)) (.fz (.int tall)) (.fz (.int wide)) (.fz (.int r)) a11 a12 a13)=.nx (R n w bx by_ kvs' m (.fz (.int k)) a6 (.fz (.int top)) (.fz (.int tall)) (.fz (.int wide)) (.fz (.int r)) tL a12 a13)/\GB kvs' (N + l.length)
 | [],kvs,N,a11,g,_=>⟨kvs,a11,rfl,g⟩
 |i::l,kvs,N,a11,g,hl=>by rw[ck]at hl;obtain⟨k1,e1,g1⟩:=adT (n:=n) (w:=w) (bx:=bx) (by_:=by_) (m:=m) (k:=k) (top:=top) (tall:=tall) (wide:=wide) (r:=r) (c:=i) (a6:=a6) (a12:=a12) (a13:=a13) g (by lia);obtain⟨k2,tL,e2,g2⟩:=Wn (n:=n) (w:=w) (bx:=bx) (by_:=by_) (m:=m) (k:=k) (top:=top) (tall:=tall) (wide:=wide) (r:=r) (a6:=a6) (a12:=a12) (a13:=a13) l k1 (N + 1) (.fz (.int i)) g1 (by lia);refine⟨k2,tL,?_,g2.mono (by rw[ck];lia)⟩;rw[bX];exact bM rfl e1 e2
theorem ZK{n w bx by_ m k top tall r:Int}{W:Nat}(hW:(1:Int) + W < 2 ^ 62){a6 a11 a12 a13 tL:Sl}{kvs k1:List (List Int×D)}(e1:cL (aK 11) gB ((b_ (1 + W)).map fun(i:Nat)=>.int i) (R n w bx by_ kvs m (.fz (.int k)) a6 (.fz (.int top)) (.fz (.int tall)) (.fz (.int W)) (.fz (.int r)) a11 a12 a13)=.nx (R n w bx by_ k1 m (.fz (.int k)) a6 (.fz (.int top)) (.fz (.int tall)) (.fz (.int W)) (.fz (.int r)) tL a12 a13)) :
  jl (R n w bx by_ kvs m (.fz (.int k)) a6 (.fz (.int top)) (.fz (.int tall)) (.fz (.int W)) (.fz (.int r)) a11 a12 a13)=.nx (R n w bx by_ k1 m (.fz (.int k)) a6 (.fz (.int top)) (.fz (.int tall)) (.fz (.int W)) (.fz (.int r)) tL a12 a13):=by
 unfold jl;exact oG (N:=1 + W) (n:=1 + (W:Int)) (bf bT (aq rfl) cI) hW (by omega) e1
theorem ZL{n w bx by_ m k top tall:Int}{W:Nat}(hW:W<=4){a6 a12 a13:Sl}(l:List Nat):∀(kvs:List (List Int×D)) (N:Nat) (a10 a11:Sl),GB kvs N->N + l.length * 5<=1000 ->
  ∃kvs' b10 tL,cL (aK 10) jl (l.map fun(i:Nat)=>.int i) (R n w bx by_ kvs m (.fz (.int k)) a6 (.fz (.int top)) (.fz (.int tall)) (.fz (.int W)) a10 a11 a12 a13)=.nx (R n w bx by_ kvs' m (.fz (.int k)) a6 (.fz (.int top)) (.fz (.int tall)) (.fz (.int W)) b10 tL a12 a13)/\GB kvs' (N + l.length * 5):=by
 have hW2:(1:Int) + W < 2 ^ 62:=by omega
 induction l with
 |nil=>exact fun kvs N a10 a11 g _=>⟨kvs,a10,a11,rfl,g.mono (kG _ _)⟩
 |cons i l ih =>
  intro kvs N a10 a11 g hl;rw[ck,n6]at hl;obtain⟨k1,tL,e1,g1⟩:=Wn (n:=n) (w:=w) (bx:=bx) (by_:=by_) (m:=m) (k:=k) (top:=top) (tall:=tall) (wide:=W) (r:=i) (a6:=a6) (a12:=a12) (a13:=a13) (b_ (1 + W)) kvs N a11 g (by rw[fv];omega);rw[fv]at g1;obtain⟨k2,b10,c11,e2,g2⟩:=ih k1 (N + 5) (.fz (.int i)) tL (g1.mono (by omega)) (by omega);refine⟨k2,b10,c11,?_,g2.mono (by rw[ck,n6];omega)⟩;rw[bX];exact bM rfl (ZK hW2 e1) e2
theorem Wo{w bx by_ m:Int}{a6 a12 a13:Sl}:∀(l:List Nat) (n:Int) (kvs:List (List Int×D)) (N:Nat) (a5 a7 a8 a9 a10 a11:Sl),GB kvs N->N + l.length * 25<=1000 ->
  ∃n' kvs' b5 b7 b8 b9 b10 tL,cL (aK 5) gC (l.map fun(i:Nat)=>.int i) (R n w bx by_ kvs m a5 a6 a7 a8 a9 a10 a11 a12 a13)=.nx (R n' w bx by_ kvs' m b5 a6 b7 b8 b9 b10 tL a12 a13)/\GB kvs' (N + l.length * 25)
 | [],n,kvs,N,a5,a7,a8,a9,a10,a11,g,_=>⟨n,kvs,a5,a7,a8,a9,a10,a11,rfl,g.mono (by simp)⟩
 |i::l,n,kvs,N,a5,a7,a8,a9,a10,a11,g,hl=>by
  rw[ck,n6]at hl;have d1:=uW (m:=n) (n:=4) ⟨by decide,by decide⟩;generalize n / 4=n1 at d1;generalize n % 4=top at d1;have d2:=uW (m:=n1) (n:=5) ⟨by decide,by decide⟩;have u0:0<=n1 % 5:=gp _ (by decide);have u1:n1 % 5 < 5:=i0 _ (by decide);generalize n1 / 5=n2 at d2;generalize n1 % 5=tl at d2 u0 u1;obtain⟨Ta,rfl⟩:∃Ta:Nat,tl=Ta:=⟨tl.toNat,by lia⟩
  have d3:=uW (m:=n2) (n:=5) ⟨by decide,by decide⟩;have u2:0<=n2 % 5:=gp _ (by decide);have u3:n2 % 5 < 5:=i0 _ (by decide);generalize n2 / 5=n3 at d3;generalize n2 % 5=wd at d3 u2 u3;obtain⟨W,rfl⟩:∃W:Nat,wd=W:=⟨wd.toNat,by lia⟩
  obtain⟨k1,b10,tL,e1,g1⟩:=ZL (n:=n3) (w:=w) (bx:=bx) (by_:=by_) (m:=m) (k:=i) (top:=top) (tall:=Ta) (W:=W) (by lia) (a6:=a6) (a12:=a12) (a13:=a13) (b_ (1 + Ta)) kvs N a10 a11 g (by rw[fv];lia);rw[fv]at g1;have st:gC (R n w bx by_ kvs m (.fz (.int i)) a6 a7 a8 a9 a10 a11 a12 a13)=.nx (R n3 w bx by_ k1 m (.fz (.int i)) a6 (.fz (.int top)) (.fz (.int Ta)) (.fz (.int W)) b10 tL a12 a13):=by unfold gC;refine aN (ρ1:=R n1 w bx by_ kvs m (.fz (.int i)) a6 (.fz (.int top)) a8 a9 a10 a11 a12 a13) (jT (eO (aC (aq rfl) (aC bT aX)) d1) rfl) ?_;refine aN (ρ1:=R n2 w bx by_ kvs m (.fz (.int i)) a6 (.fz (.int top)) (.fz (.int Ta)) a9 a10 a11 a12 a13) (jT (eO (aC (aq rfl) (aC bT aX)) d2) rfl) ?_;refine aN (ρ1:=R n3 w bx by_ kvs m (.fz (.int i)) a6 (.fz (.int top)) (.fz (.int Ta)) (.fz (.int W)) a10 a11 a12 a13) (jT (eO (aC (aq rfl) (aC bT aX)) d3) rfl) ?_;exact oG (N:=1 + Ta) (n:=1 + (Ta:Int)) (bf bT (aq rfl) cI) (by omega) (by omega) e1
  obtain⟨n4,k2,c5,c7,c8,c9,c10,c11,e2,g2⟩:=Wo (w:=w) (bx:=bx) (by_:=by_) (m:=m) (a6:=a6) (a12:=a12) (a13:=a13) l n3 k1 (N + 25) (.fz (.int i)) (.fz (.int top)) (.fz (.int Ta)) (.fz (.int W)) b10 tL (g1.mono (by lia)) (by lia);refine⟨n4,k2,c5,c7,c8,c9,c10,c11,?_,g2.mono (by rw[ck,n6];lia)⟩;rw[bX];exact bM rfl st e2
theorem Wq{n w bx by_ m r bits:Int}{a5 a6 a7 a8 a9 a13:Sl}:∀(l:List Nat) (kvs:List (List Int×D)) (N:Nat) (a11:Sl),GB kvs N->N + l.length<=1000 ->
  ∃kvs' tL,cL (aK 11) jm (l.map fun(i:Nat)=>.int i) (R n w bx by_ kvs m a5 a6 a7 a8 a9 (.fz (.int r)) a11 (.fz (.int bits)) a13)=.nx (R n w bx by_ kvs' m a5 a6 a7 a8 a9 (.fz (.int r)) tL (.fz (.int bits)) a13)/\GB kvs' (N + l.length)
 | [],kvs,N,a11,g,_=>⟨kvs,a11,rfl,g⟩
 |i::l,kvs,N,a11,g,hl=>by
  rw[ck]at hl;obtain⟨k1,e1,g1⟩:=JR (n:=n) (w:=w) (bx:=bx) (by_:=by_) (m:=m) (a5:=a5) (a6:=a6) (a7:=a7) (a8:=a8) (a9:=a9) (a10:=.fz (.int r)) (a11:=.fz (.int i)) (a12:=.fz (.int bits)) (a13:=a13) (f1:=aV bF (aV iY (ao 2) (fC (.int 0))) (ao 10)) (f2:=aV bF (aV iY (ao 2) (fC (.int 1))) (ao 11)) g (by lia) (bf (bf (aq rfl) bT rfl) (aq rfl) cI) (bf (bf (aq rfl) bT rfl) (aq rfl) cI);have q1:Vw (.int bits) (.int i)=.ok (.int (bits / 2 ^ (i:Int).toNat)):=by simp[Vw,gI]
  generalize bits / 2 ^ (i:Int).toNat=z at q1;have q2:Zy (.int z) (.int 1)=.ok (.int (qo z 1)):=rfl;generalize qo z 1=y at q2;have q3:=qw (m:=y) (n:=1);have t1:fT (aV uL (aV Zy (aV Vw (ao 12) (ao 11)) (fC (.int 1))) (fC (.int 1))) (R n w bx by_ kvs m a5 a6 a7 a8 a9 (.fz (.int r)) (.fz (.int i)) (.fz (.int bits)) a13)=.ok (decide (y=1)):=jE (bf (bf (bf (aq rfl) (aq rfl) q1) bT q2) bT q3);have st:∃k1,jm (R n w bx by_ kvs m a5 a6 a7 a8 a9 (.fz (.int r)) (.fz (.int i)) (.fz (.int bits)) a13)=.nx (R n w bx by_ k1 m a5 a6 a7 a8 a9 (.fz (.int r)) (.fz (.int i)) (.fz (.int bits)) a13)/\GB k1 (N + 1):=by
   unfold jm;cases c:decide (y=1) with
   |true=>rw[c]at t1;exact⟨k1,gU t1 e1,g1⟩
   |false=>rw[c]at t1;exact⟨kvs,bV t1 iG,g.mono (nN _)⟩
  obtain⟨k1,st,g1⟩:=st;obtain⟨k2,tL,e2,g2⟩:=Wq (n:=n) (w:=w) (bx:=bx) (by_:=by_) (m:=m) (r:=r) (bits:=bits) (a5:=a5) (a6:=a6) (a7:=a7) (a8:=a8) (a9:=a9) (a13:=a13) l k1 (N + 1) (.fz (.int i)) g1 (by lia);refine⟨k2,tL,?_,g2.mono (by rw[ck];lia)⟩;rw[bX];exact bM rfl st e2
theorem Wr{w bx by_ m:Int}{a5 a6 a7 a8 a9 a13:Sl}:∀(l:List Nat) (n:Int) (kvs:List (List Int×D)) (N:Nat) (a10 a11 a12:Sl),GB kvs N->N + l.length * 6<=1000 ->
  ∃n' kvs' b10 tL b12,cL (aK 10) gD (l.map fun(i:Nat)=>.int i) (R n w bx by_ kvs m a5 a6 a7 a8 a9 a10 a11 a12 a13)=.nx (R n' w bx by_ kvs' m a5 a6 a7 a8 a9 b10 tL b12 a13)/\GB kvs' (N + l.length * 6)
 | [],n,kvs,N,a10,a11,a12,g,_=>⟨n,kvs,a10,a11,a12,rfl,g.mono (by simp)⟩
 |i::l,n,kvs,N,a10,a11,a12,g,hl=>by
  rw[ck,n6]at hl;have d1:=uW (m:=n) (n:=64) ⟨by decide,by decide⟩;generalize n / 64=n1 at d1;generalize n % 64=bits at d1;obtain⟨k1,tL,e1,g1⟩:=Wq (n:=n1) (w:=w) (bx:=bx) (by_:=by_) (m:=m) (r:=i) (bits:=bits) (a5:=a5) (a6:=a6) (a7:=a7) (a8:=a8) (a9:=a9) (a13:=a13) (b_ 6) kvs N a11 g (by rw[fv];lia);rw[fv]at g1;have st:gD (R n w bx by_ kvs m a5 a6 a7 a8 a9 (.fz (.int i)) a11 a12 a13)=.nx (R n1 w bx by_ k1 m a5 a6 a7 a8 a9 (.fz (.int i)) tL (.fz (.int bits)) a13):=by unfold gD;refine aN (ρ1:=R n1 w bx by_ kvs m a5 a6 a7 a8 a9 (.fz (.int i)) a11 (.fz (.int bits)) a13) (jT (eO (aC (aq rfl) (aC bT aX)) d1) rfl) ?_;exact oG (N:=6) (n:=6) bT (by decide) rfl e1
  obtain⟨n2,k2,c10,c11,c12,e2,g2⟩:=Wr (w:=w) (bx:=bx) (by_:=by_) (m:=m) (a5:=a5) (a6:=a6) (a7:=a7) (a8:=a8) (a9:=a9) (a13:=a13) l n1 k1 (N + 6) (.fz (.int i)) tL (.fz (.int bits)) g1 (by lia);refine⟨n2,k2,c10,c11,c12,?_,g2.mono (by rw[ck,n6];lia)⟩;rw[bX];exact bM rfl st e2
end Af
namespace Af
open PySem PySem.Spec PySem.Calls PySem.W L2 Vl So
theorem Hu{ρ:ak}{j:Nat}{kvs:List (List Int×D)}(hj:ρ[j]?=some (.od kvs))(g:GN kvs)(hl:kvs.length < 4900):qU j ρ=.ok (.lst ((So.bH (kvs.map (·.1))).map tupK)):=by unfold qU;rw[hj];show(if kvs.length < 4900/\∀p∈kvs,p.1≠[] then Rs.ok (D.lst ((So.bH (kvs.map (·.1))).map tupK)) else .no)=_;rw[if_pos ⟨hl,fun p hp=>(g.pr p.1 (nV hp)).ne⟩]
theorem MP{ρ:ak}{j:Nat}{kvs:List (List Int×D)}(hj:ρ[j]?=some (.od kvs))(hl:kvs.length<=1000000):xQ j ρ=.ok (.int kvs.length):=by unfold xQ;rw[hj];show(if kvs.length<=1000000 then Rs.ok (D.int kvs.length) else .no)=_;rw[if_pos hl]
theorem ZM{L:KL}{i:Int}(h0:0<=i)(h1:i < L.length):∃x∈L,iY (.lst (L.map tupK)) (.int i)=.ok (tupK x):=by
 have hj:i.toNat < L.length:=by omega
 refine⟨L[i.toNat],fI hj,wG ?_⟩;unfold vU Nz;rw[if_pos h0,if_pos (by rw[cw];exact h1)];simp[cS hj]
theorem JT{ρ:ak}{j:Nat}{kvs:List (List Int×D)}{ks:List Int}{f:ak->Rs D}(hj:ρ[j]?=some (.od kvs))(hf:f ρ=.ok (tupK ks))(hl:kvs.length<=1000000)(hk:ks∈kvs.map (·.1)):xO j f ρ=.nx (ρ.set j (.od (iZ kvs ks))):=by unfold xO;rw[hj];show oR (f ρ) ρ _=_;rw[hf];show(match qp (tupK ks) with|some ks=>if kvs.length<=1000000/\(fV kvs ks).isSome then Ou.nx _ else .no|none=>.no)=_;rw[pY];show(if kvs.length<=1000000/\(fV kvs ks).isSome then Ou.nx _ else .no)=_;rw[if_pos ⟨hl,by rw[jW];exact decide_eq_true hk⟩]
theorem Ws{w bx by_ m:Int}{a7 a8 a9 a10 a11 a12 a13:Sl}{N:Nat}(hN:N<=1000):∀(l:List Nat) (n:Int) (kvs:List (List Int×D)) (a5 a6:Sl),GB kvs N->l.length<=kvs.length ->
  ∃n' kvs' b5 b6,cL (aK 5) gF (l.map fun(i:Nat)=>.int i) (R n w bx by_ kvs m a5 a6 a7 a8 a9 a10 a11 a12 a13)=.nx (R n' w bx by_ kvs' m b5 b6 a7 a8 a9 a10 a11 a12 a13)/\GB kvs' N
 | [],n,kvs,a5,a6,g,_=>⟨n,kvs,a5,a6,rfl,g⟩
 |i::l,n,kvs,a5,a6,g,hl=>by
  simp only[ck]at hl;have le:=g.le;have hpos:(0:Int) < kvs.length:=by omega
  have d1:=uW (m:=n) (n:=kvs.length) (cdb hpos (by omega));have u0:0<=n % (kvs.length:Int):=gp _ (by omega);have u1:n % (kvs.length:Int) < kvs.length:=i0 _ hpos;generalize n / (kvs.length:Int)=n1 at d1;generalize n % (kvs.length:Int)=at_ at d1 u0 u1;obtain⟨x,hx,ex⟩:=ZM (L:=So.bH (kvs.map (·.1))) u0 (by rw[pX,cw];exact u1);obtain⟨_,l2,l3⟩:=g.gn.out x;have st:gF (R n w bx by_ kvs m (.fz (.int i)) a6 a7 a8 a9 a10 a11 a12 a13)=.nx (R n1 w bx by_ (iZ kvs x) m (.fz (.int i)) (.fz (.int at_)) a7 a8 a9 a10 a11 a12 a13):=by unfold gF;refine aN (ρ1:=R n1 w bx by_ kvs m (.fz (.int i)) (.fz (.int at_)) a7 a8 a9 a10 a11 a12 a13) (jT (eO (aC (aq rfl) (aC (MP rfl (by omega)) aX)) d1) rfl) ?_;exact JT rfl (bf (Hu rfl g.gn (by omega)) (aq rfl) ex) (by omega) (fU.mp hx)
  obtain⟨n2,k2,c5,c6,e2,g3⟩:=Ws (w:=w) (bx:=bx) (by_:=by_) (m:=m) (a7:=a7) (a8:=a8) (a9:=a9) (a10:=a10) (a11:=a11) (a12:=a12) (a13:=a13) hN l n1 (iZ kvs x) (.fz (.int i)) (.fz (.int at_)) (g.out x) (by omega);refine⟨n2,k2,c5,c6,?_,g3⟩;rw[bX];exact bM rfl st e2
structure yF (L:KL):Prop where
 st:jc L
 le:L.length<=100
 bd:∀x∈L,Bd x
noncomputable abbrev bI0:ak->Ou:=ou (fT (aV uL (ao 1) (fC (.int 0)))) (jC (jr (aK 5) gA (aV bF (ao 4) (fC (.int 1))))) qu
noncomputable abbrev bI1:ak->Ou:=ou (fT (aV uL (ao 1) (fC (.int 1)))) (jC (jr (aK 5) gC (aV bF (fC (.int 1)) (aV jN (ao 4) (fC (.int 3)))))) qu
noncomputable abbrev bI2:ak->Ou:=ou (fT (aV gGt (ao 1) (fC (.int 1)))) (jC (jr (aK 10) gD (aV bF (ao 4) (fC (.int 1))))) qu
noncomputable abbrev adU:ak->Ou:=bG (lD (fA (aj (ao 0) (aj (fC (.int 3)) aO)) DN) (jG 2 (bR (aK 0) (bR (aK 13) kJ))))
  (bG (jC (jr (aK 5) gF (fA (aj (ao 13) (aj (xQ 3) aO)) sH)))
  (gR (fA (aj (fA (aj (qU 3) aO) jQ) (aj (ao 0) aO)) gq)))
theorem uI{n w bx by_ m:Int}{kvs:List (List Int×D)}(g:GB kvs 90){a5 a6 a7 a8 a9 a10 a11 a12:Sl}:∃(A:KL) (n':Int),adU (R n w bx by_ kvs m a5 a6 a7 a8 a9 a10 a11 a12 .no)=.rt (.tup [.tup (A.map tupK),.int n'])/\yF A/\A.length<=90:=by
 have le:=g.le;have d7:=uW (m:=n) (n:=3) ⟨by decide,by decide⟩;have u4:0<=n % 3:=gp _ (by omega);generalize n / 3=n7 at d7;generalize n % 3=gn at d7 u4;have hN:∃N:Nat,sH [.int gn,.int kvs.length]=.ok (.int N)/\N<=kvs.length:=by
  have e:sH [.int gn,.int kvs.length]=.ok (.int (if (kvs.length:Int) < gn then (kvs.length:Int) else gn)):=rfl;by_cases c:(kvs.length:Int) < gn
  ·exact⟨kvs.length,by rw[e,if_pos c],bE _⟩
  ·exact⟨gn.toNat,by rw[e,if_neg c,Int.toNat_of_nonneg u4],by omega⟩
 obtain⟨N,eN,hN1⟩:=hN;obtain⟨n8,k8,f5,f6,e8,g8⟩:=Ws (w:=w) (bx:=bx) (by_:=by_) (m:=m) (a7:=a7) (a8:=a8) (a9:=a9) (a10:=a10) (a11:=a11) (a12:=a12) (a13:=.fz (.int gn)) (N:=90) (by omega) (b_ N) n7 kvs a5 a6 g (by rw[fv];exact hN1);have l8:=g8.le;refine⟨So.bH (k8.map (·.1)),n8,?_,⟨jc.sort (L:=k8.map (·.1)) (fun x hx=>g8.gn.pr x hx) g8.gn.nd,by rw[pX,cw];omega,fun x hx=>g8.bd x (fU.mp hx)⟩,by rw[pX,cw];omega⟩;refine aN (ρ1:=R n7 w bx by_ kvs m a5 a6 a7 a8 a9 a10 a11 a12 (.fz (.int gn))) (jT (eO (aC (aq rfl) (aC bT aX)) d7) rfl) ?_;refine aN (oF (oG (N:=N) (eO (aC (aq rfl) (aC (MP rfl (by omega)) aX)) eN) (by omega) rfl e8)) ?_;exact lU (eO (aC (eO (aC (Hu rfl g8.gn (by omega)) aX) rfl) (aC (aq rfl) aX)) (t2 _ _))
theorem ZP(n:Int):∃(A:KL) (n':Int),iK [.int n]=.ok (.tup [.tup (A.map tupK),.int n'])/\yF A/\A.length<=90:=by
 have d1:=uW (m:=n) (n:=5) ⟨by decide,by decide⟩;have u0:0<=n % 5:=gp _ (by decide);generalize n / 5=n1 at d1;generalize n % 5=w at d1 u0;obtain⟨bx,by_,n2,hb⟩:=adS n1;have d3:=uW (m:=n2) (n:=6) ⟨by decide,by decide⟩;have u2:0<=n2 % 6:=gp _ (by decide);have u3:n2 % 6 < 6:=i0 _ (by decide);generalize n2 / 6=n3 at d3;generalize n2 % 6=mm at d3 u2 u3;obtain⟨M,rfl⟩:∃M:Nat,mm=M:=⟨mm.toNat,by omega⟩
 have pre:∀o:Ou,bG bI0 (bG bI1 (bG bI2 adU)) (R n3 w bx by_ [] M .no .no .no .no .no .no .no .no .no)=o->jH (aY ["number","way","base","cells","many","k","at","top","tall","wide","row","column","bits","gone"] [.int n])=o:=fun o h=>by unfold jH;refine aN (ρ1:=[.fz (.int n1),.fz (.int w),.no,.no,.no,.no,.no,.no,.no,.no,.no,.no,.no,.no]) (jT (eO (aC (aq rfl) (aC bT aX)) d1) rfl) ?_;refine aN (ρ1:=[.fz (.int n2),.fz (.int w),.fz (tupK [bx,by_]),.no,.no,.no,.no,.no,.no,.no,.no,.no,.no,.no]) (jT (eO (aC (aq rfl) aX) (gj rfl hb)) rfl) ?_;refine aN (ρ1:=[.fz (.int n2),.fz (.int w),.fz (tupK [bx,by_]),.od [],.no,.no,.no,.no,.no,.no,.no,.no,.no,.no]) rfl ?_;exact aN (ρ1:=R n3 w bx by_ [] M .no .no .no .no .no .no .no .no .no) (jT (eO (aC (aq rfl) (aC bT aX)) d3) rfl) h
 have aaO:∀ρ:ak,ρ[1]?=some (.fz (.int w))->w≠0->bI0 ρ=.nx ρ:=fun ρ h c=>bV (jE (bf (aq h) bT (by rw[qw,decide_eq_false c]))) iG;have aaP:∀ρ:ak,ρ[1]?=some (.fz (.int w))->w≠1->bI1 ρ=.nx ρ:=fun ρ h c=>bV (jE (bf (aq h) bT (by rw[qw,decide_eq_false c]))) iG;have aaQ:∀ρ:ak,ρ[1]?=some (.fz (.int w))->¬1 < w->bI2 ρ=.nx ρ:=fun ρ h c=>bV (jE (bf (aq h) bT (by rw[Io,decide_eq_false c]))) iG;have key:∃(A:KL) (n':Int),bG bI0 (bG bI1 (bG bI2 adU)) (R n3 w bx by_ [] M .no .no .no .no .no .no .no .no .no)=.rt (.tup [.tup (A.map tupK),.int n'])/\yF A/\A.length<=90:=by
  by_cases c0:w=0
  ·subst c0;obtain⟨n4,k4,b5,b6,e4,g4⟩:=Wm (w:=0) (bx:=bx) (by_:=by_) (m:=M) (a7:=.no) (a8:=.no) (a9:=.no) (a10:=.no) (a11:=.no) (a12:=.no) (a13:=.no) (b_ (M + 1)) n3 [] 0 .no .no .nil (by rw[fv];omega);rw[fv]at g4;obtain⟨A,n',e,hA⟩:=uI (n:=n4) (w:=0) (bx:=bx) (by_:=by_) (m:=M) (g4.mono (by omega)) (a5:=b5) (a6:=b6) (a7:=.no) (a8:=.no) (a9:=.no) (a10:=.no) (a11:=.no) (a12:=.no);refine⟨A,n',aN (gU (jE (bf (aq rfl) bT rfl)) (oF (oG (N:=M + 1) (n:=(M:Int) + 1) (bf (aq rfl) bT cI) (by omega) (by omega) e4))) ?_,hA⟩;exact aN (aaP _ rfl (by decide)) (aN (aaQ _ rfl (by decide)) e)
  ·by_cases c1:w=1
   ·subst c1;have r3:=uM (m:=(M:Int)) (n:=3) (by decide);have v0:0<=(M:Int) % 3:=gp _ (by decide);have v1:(M:Int) % 3 < 3:=i0 _ (by decide);generalize (M:Int) % 3=q at r3 v0 v1;obtain⟨Q,rfl⟩:∃Q:Nat,q=Q:=⟨q.toNat,by omega⟩
    obtain⟨n4,k4,b5,b7,b8,b9,b10,tL,e4,g4⟩:=Wo (w:=1) (bx:=bx) (by_:=by_) (m:=M) (a6:=.no) (a12:=.no) (a13:=.no) (b_ (1 + Q)) n3 [] 0 .no .no .no .no .no .no .nil (by rw[fv];omega);rw[fv]at g4;obtain⟨A,n',e,hA⟩:=uI (n:=n4) (w:=1) (bx:=bx) (by_:=by_) (m:=M) (g4.mono (by omega)) (a5:=b5) (a6:=.no) (a7:=b7) (a8:=b8) (a9:=b9) (a10:=b10) (a11:=tL) (a12:=.no);refine⟨A,n',aN (aaO _ rfl (by decide)) (aN (gU (jE (bf (aq rfl) bT rfl)) (oF (oG (N:=1 + Q) (n:=1 + (Q:Int)) (bf bT (bf (aq rfl) bT r3) cI) (by omega) (by omega) e4))) ?_),hA⟩;exact aN (aaQ _ rfl (by decide)) e
   ·obtain⟨n4,k4,b10,tL,b12,e4,g4⟩:=Wr (w:=w) (bx:=bx) (by_:=by_) (m:=M) (a5:=.no) (a6:=.no) (a7:=.no) (a8:=.no) (a9:=.no) (a13:=.no) (b_ (M + 1)) n3 [] 0 .no .no .no .nil (by rw[fv];omega);rw[fv]at g4;obtain⟨A,n',e,hA⟩:=uI (n:=n4) (w:=w) (bx:=bx) (by_:=by_) (m:=M) (g4.mono (by omega)) (a5:=.no) (a6:=.no) (a7:=.no) (a8:=.no) (a9:=.no) (a10:=b10) (a11:=tL) (a12:=b12);refine⟨A,n',aN (aaO _ rfl c0) (aN (aaP _ rfl c1) (aN (gU (jE (bf (aq rfl) bT (by rw[Io,decide_eq_true (by omega)]))) (oF (oG (N:=M + 1) (n:=(M:Int) + 1) (bf (aq rfl) bT cI) (by omega) (by omega) e4))) e)),hA⟩
 obtain⟨A,n',e,hA⟩:=key;exact⟨A,n',by unfold iK;rw[pre _ e];rfl,hA⟩
noncomputable def Ad(x y:List Int):Prop:=Pair y/\(-1<=c0 y - c0 x/\c0 y - c0 x<=1)/\(-1<=c1 y - c1 x/\c1 y - c1 x<=1)
noncomputable def Du(a b:Int):KL:=[[a,b],[a,b + 1],[a,b + 2]]
noncomputable def sq(x:List Int):KL:=Du (c0 x - 1) (c1 x - 1)++(Du (c0 x) (c1 x - 1)++Du (c0 x + 1) (c1 x - 1))
noncomputable def nb(x:List Int):KL:=(sq x).filter fun y=>!decide (y=x)
theorem adV{x y:List Int}(h:Ad x y)(ne:y≠x):y∈nb x:=by
 refine h_.mpr ⟨?_,by simpa using ne⟩;obtain⟨⟨u,v,rfl⟩,⟨h1,h2⟩,h3,h4⟩:=h;have e0:c0 [u,v]=u:=rfl;have e1:c1 [u,v]=v:=rfl;rw[e0]at h1 h2;rw[e1]at h3 h4;have k:(u=c0 x - 1∨u=c0 x∨u=c0 x + 1)/\(v=c1 x - 1∨v=c1 x - 1 + 1∨v=c1 x - 1 + 2):=by omega
 unfold sq Du;obtain⟨rfl|rfl|rfl,rfl|rfl|rfl⟩:=k <;> simp
theorem agu{x y:List Int}(h:y∈nb x):Ad x y:=by have h1:=(h_.mp h).1;unfold sq Du at h1;simp only[pj,kQ,br,da,or_false]at h1;have e0:∀u v:Int,c0 [u,v]=u:=fun _ _=>rfl;have e1:∀u v:Int,c1 [u,v]=v:=fun _ _=>rfl;rcases h1 with rfl|rfl|rfl|rfl|rfl|rfl|rfl|rfl|rfl <;> exact⟨⟨_,_,rfl⟩,by simp only[e0];omega,by simp only[e1];omega⟩
theorem r3(m:Int):((b_ 3).map fun(i:Nat)=>D.int (m + i))=[.int m,.int (m + 1),.int (m + 2)]:=by show [D.int (m + (0:Nat)),D.int (m + (1:Nat)),D.int (m + (2:Nat))]=_;simp
theorem adW{m:Int}(h:-2000000000000<=m/\m<=2000000000000):Gq [.int m,.int (m + 3)]=.ok [.int m,.int (m + 1),.int (m + 2)]:=by
 have e:((m + 3) - m).toNat=3:=by omega
 simp only[Gq];rw[if_pos ⟨by omega,by omega,by omega,by omega⟩,e,r3]
theorem adX{a b r:Int}(hb:-1000000000000<=b/\b<=1000000000000){acc:KL}(hl:acc.length<=100) :
  iU [.fz (tupK [a,b]),.ow (acc.map tupK),.fz (.int r)]=.nx [.fz (tupK [a,b]),.ow ((acc++Du r (b - 1)).map tupK),.fz (.int r)]:=by
 have e2:b + 2=(b - 1) + 3:=by omega
 have it:Uv (aj (aV iW (aV iY (ao 0) (fC (.int 1))) (fC (.int 1))) (aj (aV bF (aV iY (ao 0) (fC (.int 1))) (fC (.int 2))) aO)) Gq [.fz (tupK [a,b]),.ow (acc.map tupK),.fz (.int r)]=.ok [.int (b - 1),.int (b - 1 + 1),.int (b - 1 + 2)]:=by unfold Uv;rw[show aj (aV iW (aV iY (ao 0) (fC (.int 1))) (fC (.int 1))) (aj (aV bF (aV iY (ao 0) (fC (.int 1))) (fC (.int 2))) aO) [.fz (tupK [a,b]),.ow (acc.map tupK),.fz (.int r)]=.ok [.int (b - 1),.int (b + 2)] from aC (bf (bf (aq rfl) bT rfl) bT lV) (aC (bf (bf (aq rfl) bT rfl) bT cI) aX),e2];exact adW (by omega)
 have cp:fu (aK 0) (fun _=>.ok true) pF 1 [2] (Uv (aj (aV iW (aV iY (ao 0) (fC (.int 1))) (fC (.int 1))) (aj (aV bF (aV iY (ao 0) (fC (.int 1))) (fC (.int 2))) aO)) Gq) [.fz (tupK [a,b]),.ow (acc.map tupK),.fz (.int r)]=.ok (.lst ((Du r (b - 1)).map tupK)):=by refine BL it ?_ (by simp[Du]);generalize b - 1=c;rfl
 unfold iU Gu;show oR (fu _ _ _ _ _ _ _) _ _=_;rw[cp];show(if (acc.map tupK).length + ((Du r (b - 1)).map tupK).length<=1000000 then Ou.nx _ else .no)=_;rw[if_pos (by rw[cw,cw];simp only[Du,ck,eC];omega),j6];rfl
theorem air{x:List Int}(hx:Pair x)(hb:Bd x):cC [tupK x]=.ok (.lst ((nb x).map tupK)):=by
 obtain⟨a,b,rfl⟩:=hx;obtain⟨b1,b2,b3,b4⟩:=hb;have e0:c0 [a,b]=a:=rfl;have e1:c1 [a,b]=b:=rfl;rw[e0]at b1 b2;rw[e1]at b3 b4;have e2:a + 2=(a - 1) + 3:=by omega
 have sx:sq [a,b]=Du (a - 1) (b - 1)++(Du a (b - 1)++Du (a + 1) (b - 1)):=rfl;have lp:cL (aK 2) iU [.int (a - 1),.int (a - 1 + 1),.int (a - 1 + 2)] [.fz (tupK [a,b]),.ow [],.no]=.nx [.fz (tupK [a,b]),.ow ((sq [a,b]).map tupK),.fz (.int (a + 1))]:=by refine bM (ρ1:=[.fz (tupK [a,b]),.ow (([]:KL).map tupK),.fz (.int (a - 1))]) rfl (adX ⟨b3,b4⟩ (by simp)) ?_;rw[show a - 1 + 1=a by omega,show a - 1 + 2=a + 1 by omega];refine bM (ρ1:=[.fz (tupK [a,b]),.ow (([]++Du (a - 1) (b - 1)).map tupK),.fz (.int a)]) rfl (adX ⟨b3,b4⟩ (by simp[Du])) ?_;refine bM (ρ1:=[.fz (tupK [a,b]),.ow ((([]++Du (a - 1) (b - 1))++Du a (b - 1)).map tupK),.fz (.int (a + 1))]) rfl (adX ⟨b3,b4⟩ (by simp[Du])) ?_;rw[sx,kQ,fN];rfl
 have cp:fu (aK 0) kj pG 1 [0] (fL (ao 1) asL) [.fz (tupK [a,b]),.fz (.lst ((sq [a,b]).map tupK)),.fz (.int (a + 1))]=.ok (.lst ((nb [a,b]).map tupK)):=by refine Aa (cs:=[.fz (tupK [a,b])]) rfl (v_l (aq rfl) rfl) (fun k hk=>?_) (fun k hk=>rfl) (by simp[sq,Du]);unfold kj;refine jE (bf (aq rfl) (aq rfl) ?_);rw[ahI (dq (sJ k) (by decide)) (dq (sJ [a,b]) (by decide)),GJ]
 have run:jJ (aY ["cell","near","row"] [tupK [a,b]])=.rt (.lst ((nb [a,b]).map tupK)):=by
  unfold jJ;refine aN (ρ1:=[.fz (tupK [a,b]),.ow [],.no]) rfl ?_;refine aN (ρ1:=[.fz (tupK [a,b]),.ow ((sq [a,b]).map tupK),.fz (.int (a + 1))]) (oF ?_) ?_
  ·unfold Bq;rw[show aj (aV iW (aV iY (ao 0) (fC (.int 0))) (fC (.int 1))) (aj (aV bF (aV iY (ao 0) (fC (.int 0))) (fC (.int 2))) aO) [.fz (tupK [a,b]),.ow [],.no]=.ok [.int (a - 1),.int (a + 2)] from aC (bf (bf (aq rfl) bT rfl) bT lV) (aC (bf (bf (aq rfl) bT rfl) bT cI) aX),e2];simp only[Pn];rw[if_pos ⟨by omega,by omega,by omega,by omega⟩,show((a - 1 + 3) - (a - 1)).toNat=3 by omega,r3];exact lp
  ·show gR _ [.fz (tupK [a,b]),.fz (.lst ((sq [a,b]).map tupK)),.fz (.int (a + 1))]=_;exact lU cp
 unfold cC;rw[run];rfl
noncomputable abbrev kI(kvs:List (List Int×D)):KL:=kvs.map (·.1)
structure Bf (P:List Int->Prop)(f:List Int)(kvs:List (List Int×D))(Q:KL):Prop where
 gb:GB kvs 100
 nd:Q.Nodup
 uni:∀x,P x↔x∈kI kvs∨x∈Q
 dis:∀x∈Q,x∉kI kvs
 fst:f∈Q
 rch:∀S:List Int->Prop,S f->(∀x y,P x->P y->S x->Ad x y->S y)->∀x∈Q,S x
theorem Bf.start{P:List Int->Prop}{f:List Int}{kvs:List (List Int×D)}(g:GB kvs 100)(h:∀x,P x↔x∈kI kvs)(hf:f∈kI kvs):Bf P f (iZ kvs f) [f] where
 gb:=g.out f
 nd:=by simp
 uni:=fun x=>by
  rw[h x,pJ,iA];constructor
  ·intro hx;by_cases c:x=f
   ·exact .inr c
   ·exact .inl ⟨hx,c⟩
  ·rintro(hx|rfl)
   ·exact hx.1
   ·exact hf
 dis:=fun x hx=>by rw[iA.mp hx,pJ];exact fun z=>z.2 rfl
 fst:=.head _
 rch:=fun S s _ x hx=>by rw[iA.mp hx];exact s
theorem Bf.add{P:List Int->Prop}{f:List Int}{kvs:List (List Int×D)}{Q:KL}(h:Bf P f kvs Q){x y:List Int}(hx:x∈Q)(ha:Ad x y)(hy:y∈kI kvs):Bf P f (iZ kvs y) (Q++[y]) where
 gb:=h.gb.out y
 nd:=by rw[xS];refine⟨h.nd,by simp,fun a ha' b hb=>?_⟩;rw[iA.mp hb];intro e;subst e;exact h.dis a ha' hy
 uni:=fun z=>by
  rw[h.uni z,pJ,du,iA];constructor
  ·rintro(hz|hz)
   ·by_cases c:z=y
    ·exact .inr (.inr c)
    ·exact .inl ⟨hz,c⟩
   ·exact .inr (.inl hz)
  ·rintro(hz|hz|rfl)
   ·exact .inl hz.1
   ·exact .inr hz
   ·exact .inl hy
 dis:=fun z hz=>by
  rw[pJ];rcases du.mp hz with hz|hz
  ·exact fun w=>h.dis z hz w.1
  ·exact fun w=>w.2 (iA.mp hz)
 fst:=ie _ h.fst
 rch:=fun S s c z hz=>by
  rcases du.mp hz with hz|hz
  ·exact h.rch S s c z hz
  ·rw[iA.mp hz];exact c x y ((h.uni x).mpr (.inr hx)) ((h.uni y).mpr (.inl hy)) (h.rch S s c x hx) ha
noncomputable def Cl(P:List Int->Prop)(Q:KL)(p:Nat):Prop:=∀i x,i < p->Q[i]?=some x->∀y,Ad x y->P y->y∈Q
noncomputable def Rc(P:List Int->Prop)(x y:List Int):Prop:=P y/\∀S:List Int->Prop,S x->(∀u v,P u->P v->S u->Ad u v->S v)->S y
theorem Bf.rc{P:List Int->Prop}{f:List Int}{kvs:List (List Int×D)}{Q:KL}(h:Bf P f kvs Q)(c:Cl P Q Q.length)(x:List Int):x∈Q↔Rc P f x:=by
 constructor
 ·intro hx;exact⟨(h.uni x).mpr (.inr hx),fun S s k=>h.rch S s k x hx⟩
 ·rintro⟨_,h2⟩;refine h2 (fun z=>z∈Q) h.fst fun u v pu pv hu ha=>?_;obtain⟨i,hi⟩:=j_.mp hu;exact c i u (dm.mp hi).1 hi v ha pv
theorem Bf.left{P:List Int->Prop}{f:List Int}{kvs:List (List Int×D)}{Q:KL}(h:Bf P f kvs Q)(c:Cl P Q Q.length)(x:List Int):x∈kI kvs↔P x/\¬Rc P f x:=by
 rw[<- h.rc c x,h.uni x];constructor
 ·exact fun hx=>⟨.inl hx,fun z=>h.dis x z hx⟩
 ·rintro⟨hx|hx,n⟩
  ·exact hx
  ·exact absurd hx n
theorem mU:∀{L M:KL},L.Nodup->(∀x∈L,x∈M)->L.length<=M.length
 | [],M,_,_=>d_ _
 |x::L,M,nd,h=>by obtain⟨n1,n2⟩:=gE.mp nd;have hx:=h x (.head _);have:=mU (L:=L) (M:=M.erase x) n2 fun y hy=>(List.mem_erase_of_ne (fun e:y=x=>n1 (by rw[<- e];exact hy))).mpr (h y (.tail _ hy));have l:=List.length_erase_of_mem hx;have p:=List.length_pos_of_mem hx;simp only[ck];omega
open Classical in
noncomputable def Nb (A:KL) (P:List Int->Prop) (x:List Int):KL:=A.filter fun y=>decide (Rc P x y)
open Classical in
noncomputable def rws (A:KL):KL->(List Int->Prop)->List KL
 | [],_=>[]
 |x::T,P=>if P x then Nb A P x::rws A T (fun y=>P y/\¬Rc P x y) else rws A T P
open Classical in
theorem mH{A:KL}{P:List Int->Prop}{x y:List Int}:y∈Nb A P x↔y∈A/\Rc P x y:=by unfold Nb;rw[h_,decide_eq_true_eq]
theorem Dv{A:KL}:∀{T:KL}{P:List Int->Prop},∀r∈rws A T P,∀y∈r,P y
 | [],P,r,hr,y,hy=>by simp[rws]at hr
 |x::T,P,r,hr,y,hy=>by
  unfold rws at hr;split at hr
  ·rcases br.mp hr with rfl|hr
   ·exact(mH.mp hy).2.1
   ·exact(Dv r hr y hy).1
  ·exact Dv r hr y hy
theorem sW{A:KL}(hA:jc A):∀{T:KL}{P:List Int->Prop},∀r∈rws A T P,jc r/\∀y∈r,y∈A
 | [],P,r,hr=>by simp[rws]at hr
 |x::T,P,r,hr=>by
  unfold rws at hr;split at hr
  ·rcases br.mp hr with rfl|hr
   ·exact⟨hA.filter _,fun y hy=>(mH.mp hy).1⟩
   ·exact sW hA r hr
  ·exact sW hA r hr
theorem Dw{A:KL}:∀{T:KL}{P:List Int->Prop},(rws A T P).Pairwise fun r s=>∀y∈r,y∉s
 | [],P=>by simp[rws]
 |x::T,P=>by
  unfold rws;split
  ·refine fR.mpr ⟨fun s hs y hy hz=>?_,Dw⟩;exact(Dv s hs y hz).2 (mH.mp hy).2
  ·exact Dw
theorem sZ{A:KL}:∀{T:KL}{P:List Int->Prop},(rws A T P).length<=T.length
 | [],P=>by simp[rws]
 |x::T,P=>by
  unfold rws;split
  ·rw[ck,ck];exact vk sZ
  ·rw[ck];exact vn sZ
theorem Hv{A:KL}(hA:jc A){P:List Int->Prop}(hP:∀x,P x->x∈A){f:List Int}{kvs:List (List Int×D)}{Q:KL}(h:Bf P f kvs Q)(c:Cl P Q Q.length):bH Q=Nb A P f:=by have pr:∀x∈Q,Pair x:=fun x hx=>hA.pr x (hP x ((h.uni x).mpr (.inr hx)));refine(jc.sort pr h.nd).ext (hA.filter _) fun x=>?_;rw[fU,h.rc c x];exact⟨fun z=>mH.mpr ⟨hP x z.1,z⟩,fun z=>(mH.mp z).2⟩
theorem JV{ρ:ak}{i:Nat}{f:ak->Rs D}{ds:List D}{d:D}(h0:ρ[i]?=some (.ow ds))(h:f (ρ.set i (.fz (.lst ds)))=.ok d)(n:Gx d=true):uQ i f ρ=.ok d:=by unfold uQ;rw[h0];dsimp only;rw[h];dsimp only;rw[if_pos n]
theorem Dy{ρ:ak}{i:Nat}{f:ak->Rs Bool}{ds:List D}{b:Bool}(h0:ρ[i]?=some (.ow ds))(h:f (ρ.set i (.fz (.lst ds)))=.ok b):jV i f ρ=.ok b:=by unfold jV;rw[h0];exact h
theorem qg{ρ:ak}{j:Nat}{kvs:List (List Int×D)}{ks:List Int}{f:ak->Rs D}(hj:ρ[j]?=some (.od kvs))(hf:f ρ=.ok (tupK ks)):jF j f ρ=.ok (.bl (decide (ks∈kI kvs))):=by unfold jF;rw[hf];show(match qp (tupK ks),ρ[j]? with|some ks,some (.od kvs)=>Rs.ok (D.bl (fV kvs ks).isSome)|_,_=>.no)=_;rw[pY,hj];show Rs.ok (D.bl (fV kvs ks).isSome)=_;rw[jW]
theorem Wt{ρ:ak}{j:Nat}{kvs:List (List Int×D)}{ks:List Int}{f:ak->Rs D}(hj:ρ[j]?=some (.oe kvs))(hf:f ρ=.ok (tupK ks))(hl:kvs.length<=1000000)(hk:ks∈kI kvs):Ac j f ρ=.nx (ρ.set j (.oe (iZ kvs ks))):=by unfold Ac;rw[hj];show oR (f ρ) ρ _=_;rw[hf];show(match qp (tupK ks) with|some ks=>if kvs.length<=1000000/\(fV kvs ks).isSome then Ou.nx _ else .no|none=>.no)=_;rw[pY];show(if kvs.length<=1000000/\(fV kvs ks).isSome then Ou.nx _ else .no)=_;rw[if_pos ⟨hl,by rw[jW];exact decide_eq_true hk⟩]
theorem Hw:∀l:List Int,Gy (l.map D.int)=true
 | []=>rfl
 |x::l=>by simp only[bX,Gy,Gx,Hw l];rfl
theorem yE(k:List Int):Gx (tupK k)=true:=by show Gx (.tup (k.map D.int))=true;simp only[Gx];exact Hw k
theorem Ai:∀L:KL,Gy (L.map tupK)=true
 | []=>rfl
 |x::L=>by simp only[bX,Gy,yE,Ai L];rfl
theorem JW{Q:KL}{p:Nat}{x:List Int}(h:Q[p]?=some x):iY (.lst (Q.map tupK)) (.int p)=.ok (tupK x):=by have hl:=(dm.mp h).1;refine wG ?_;unfold vU Nz;rw[if_pos (by omega),if_pos (by rw[cw];omega)];simp[h]
noncomputable abbrev F1(f:List Int):Sl:=.fz (tupK f)
noncomputable abbrev F2:Sl:=.fz (.fn "neighbours")
theorem ZQ{P:List Int->Prop}{f:List Int}{kvs:List (List Int×D)}{Q:KL}(h:Bf P f kvs Q)(lQ:Q.length<=1000){x y:List Int}(hx:x∈Q)(ha:Ad x y){f1 p4 a5:Sl} :
  ∃kvs' Q',gJ [.oe kvs,f1,F2,.ow (Q.map tupK),p4,a5,.fz (tupK y)]=.nx [.oe kvs',f1,F2,.ow (Q'.map tupK),p4,a5,.fz (tupK y)]/\Bf P f kvs' Q'/\(∃E,Q'=Q++E)/\(P y->y∈Q'):=by
 have l:=h.gb.le;have t:adH 0 (fT (jF 0 (ao 6))) [.oe kvs,f1,F2,.ow (Q.map tupK),p4,a5,.fz (tupK y)]=.ok (decide (y∈kI kvs)):=by show fT (jF 0 (ao 6)) [.od kvs,f1,F2,.ow (Q.map tupK),p4,a5,.fz (tupK y)]=_;exact jE (qg rfl (aq rfl))
 unfold gJ;by_cases c:y∈kI kvs
 ·rw[decide_eq_true c]at t;refine⟨iZ kvs y,Q++[y],gU t ?_,h.add hx ha c,⟨[y],rfl⟩,fun _=>fE _ (.head _)⟩;refine aN (ρ1:=[.oe (iZ kvs y),f1,F2,.ow (Q.map tupK),p4,a5,.fz (tupK y)]) (Wt rfl (aq rfl) (by omega) c) ?_;rw[j6];exact aaJ rfl (aq rfl) (by omega)
 ·rw[decide_eq_false c]at t;exact⟨kvs,Q,bV t iG,h,⟨[],(eI _).symm⟩,fun p=>((h.uni y).mp p).resolve_left c⟩
theorem Bf.len{P:List Int->Prop}{f:List Int}{kvs:List (List Int×D)}{Q:KL}(h:Bf P f kvs Q){A:KL}(hP:∀x,P x->x∈A):Q.length<=A.length:=mU h.nd fun x hx=>hP x ((h.uni x).mpr (.inr hx))
theorem Wu{P:List Int->Prop}{f:List Int}{A:KL}(hP:∀x,P x->x∈A)(lA:A.length<=100){x:List Int}{f1 p4 a5:Sl}:∀(T:KL) (kvs:List (List Int×D)) (Q:KL) (a6:Sl),Bf P f kvs Q->x∈Q->(∀y∈T,Ad x y) ->
  ∃kvs' Q' b6,cL (aK 6) gJ (T.map tupK) [.oe kvs,f1,F2,.ow (Q.map tupK),p4,a5,a6]=.nx [.oe kvs',f1,F2,.ow (Q'.map tupK),p4,a5,b6]/\Bf P f kvs' Q'/\(∃E,Q'=Q++E)/\∀y∈T,P y->y∈Q'
 | [],kvs,Q,a6,h,hx,_=>⟨kvs,Q,a6,rfl,h,⟨[],(eI _).symm⟩,fun y hy=>nomatch hy⟩
 |y::T,kvs,Q,a6,h,hx,ha=>by
  have lQ:=h.len hP;obtain⟨k1,Q1,e1,h1,⟨E1,hE1⟩,m1⟩:=ZQ h (by omega) hx (ha y (.head _)) (f1:=f1) (p4:=p4) (a5:=a5);obtain⟨k2,Q2,b6,e2,h2,⟨E2,hE2⟩,m2⟩:=Wu hP lA (f1:=f1) (p4:=p4) (a5:=a5) T k1 Q1 (.fz (tupK y)) h1 (by rw[hE1];exact ie _ hx) (fun z hz=>ha z (.tail _ hz));refine⟨k2,Q2,b6,?_,h2,⟨E1++E2,by rw[hE2,hE1,fN]⟩,fun z hz p=>?_⟩
  ·rw[bX];exact bM rfl e1 e2
  ·rcases br.mp hz with rfl|hz
   ·rw[hE2];exact ie _ (m1 p)
   ·exact m2 z hz p
theorem ZR{ρ:ak}{x:List Int}{fs:ak->Rs (List D)}(h0:ρ[2]?=some F2)(hf:fs ρ=.ok [tupK x])(hx:Pair x)(hb:Bd x):GZ 2 1 bY fs ρ=.ok (.lst ((nb x).map tupK)):=by
 unfold GZ;rw[h0];have lk:lL ("neighbours":Str) bY=some cC:=by unfold bY;rw[kv];rfl
 dsimp only;rw[lk];dsimp only;rw[hf];dsimp only[Rs.bind];rw[if_pos (show [tupK x].length=1 from rfl),air hx hb]
theorem Cl.next{P:List Int->Prop}{Q E:KL}{p:Nat}{x:List Int}(c:Cl P Q p)(hp:Q[p]?=some x)(m:∀y,Ad x y->P y->y∈Q++E):Cl P (Q++E) (p + 1):=by
 intro i z hi hz y ha py;have lp:=(dm.mp hp).1;by_cases e:i=p
 ·subst e;rw[fg lp,hp]at hz;cases hz;exact m y ha py
 ·rw[fg (by omega)]at hz;exact ie _ (c i z (by omega) hz y ha py)
theorem JX{P:List Int->Prop}{f:List Int}{A:KL}(hP:∀x,P x->x∈A)(lA:A.length<=100)(pr:∀x∈A,Pair x)(bd:∀x∈A,Bd x){kvs:List (List Int×D)}{Q:KL}(h:Bf P f kvs Q){p:Nat}{x:List Int}(hp:Q[p]?=some x)(c:Cl P Q p){f1 a5 a6:Sl} :
  ∃kvs' Q' b5 b6,gK [.oe kvs,f1,F2,.ow (Q.map tupK),.fz (.int p),a5,a6]=.nx [.oe kvs',f1,F2,.ow (Q'.map tupK),.fz (.int ((p + 1:Nat):Int)),b5,b6]/\Bf P f kvs' Q'/\Cl P Q' (p + 1)/\Q.length<=Q'.length:=by
 have hx:x∈Q:=jI hp;have hxA:=hP x ((h.uni x).mpr (.inr hx));obtain⟨k1,Q1,b6,e1,h1,⟨E,hE⟩,m⟩:=Wu hP lA (f1:=f1) (p4:=.fz (.int p)) (a5:=.fz (tupK x)) (nb x) kvs Q a6 h hx (fun y hy=>agu hy);refine⟨k1,Q1,.fz (tupK x),b6,?_,h1,?_,by rw[hE,dy];omega⟩
 ·unfold gK;refine aN (ρ1:=[.oe kvs,f1,F2,.ow (Q.map tupK),.fz (.int p),.fz (tupK x),a6]) (oE (JV rfl (bf (aq rfl) (aq rfl) (JW hp)) (yE x))) ?_;refine aN (ug (ZR rfl (aC (aq rfl) aX) (pr x hxA) (bd x hxA)) e1) ?_;exact oE (bf (aq rfl) bT cI)
 ·rw[hE];refine c.next hp fun y ha py=>?_;by_cases e:y=x
  ·rw[e];exact ie _ hx
  ·rw[<- hE];exact m y (adV ha e) py
theorem Wv{P:List Int->Prop}{f:List Int}{A:KL}(hP:∀x,P x->x∈A)(lA:A.length<=100)(pr:∀x∈A,Pair x)(bd:∀x∈A,Bd x){f1:Sl}:∀(n p:Nat) (kvs:List (List Int×D)) (Q:KL) (a5 a6:Sl),Bf P f kvs Q->Cl P Q p->p<=Q.length->A.length + 1<=n + p ->
  ∃kvs' Q' p' b5 b6,Qh (jV 3 (fT (aV Xe (ao 4) (fA (aj (ao 3) aO) nJ)))) gK n [.oe kvs,f1,F2,.ow (Q.map tupK),.fz (.int p),a5,a6]=.nx [.oe kvs',f1,F2,.ow (Q'.map tupK),p',b5,b6]/\Bf P f kvs' Q'/\Cl P Q' Q'.length
 | 0,p,kvs,Q,a5,a6,h,c,hp,hl=>by have:=h.len hP;omega
 |n + 1,p,kvs,Q,a5,a6,h,c,hp,hl=>by
  have t:jV 3 (fT (aV Xe (ao 4) (fA (aj (ao 3) aO) nJ))) [.oe kvs,f1,F2,.ow (Q.map tupK),.fz (.int p),a5,a6]=.ok (decide ((p:Int) < ((Q.map tupK).length:Int))):=Dy rfl (jE (bf (aq rfl) (eO (aC (aq rfl) aX) rfl) Fi));rw[cw]at t;by_cases e:p < Q.length
  ·rw[decide_eq_true (by omega)]at t;obtain⟨x,hx⟩:∃x,Q[p]?=some x:=⟨Q[p],cS e⟩
   obtain⟨k1,Q1,b5,b6,e1,h1,c1,l1⟩:=JX hP lA pr bd h hx c (f1:=f1) (a5:=a5) (a6:=a6);obtain⟨k2,Q2,p2,c5,c6,e2,h2,c2⟩:=Wv hP lA pr bd (f1:=f1) n (p + 1) k1 Q1 b5 b6 h1 c1 (by omega) (by omega);refine⟨k2,Q2,p2,c5,c6,?_,h2,c2⟩;unfold Qh;rw[t];dsimp only;rw[e1];exact e2
  ·rw[decide_eq_false (by omega)]at t;have ep:p=Q.length:=by omega
   refine⟨kvs,Q,.fz (.int p),a5,a6,?_,h,by rw[ep]at c;exact c⟩;unfold Qh;rw[t]
theorem ZS{P:List Int->Prop}{A:KL}(hP:∀x,P x->x∈A)(lA:A.length<=100)(pr:∀x∈A,Pair x)(bd:∀x∈A,Bd x){kvs:List (List Int×D)}(g:GB kvs 100)(hk:∀x,P x↔x∈kI kvs){f:List Int}(hf:f∈kI kvs) :
  ∃kvs' Q,cF kvs [tupK f,.fn "neighbours"]=.ok (.lst (Q.map tupK),kvs')/\Bf P f kvs' Q/\Cl P Q Q.length:=by
 have l:=g.le;obtain⟨k1,Q1,p1,b5,b6,e1,h1,c1⟩:=Wv hP lA pr bd (f1:=F1 f) 1000 0 (iZ kvs f) [f] .no .no (.start g hk hf) (fun i x hi=>absurd hi (Nat.not_lt_zero _)) (d_ _) (by omega);refine⟨k1,Q1,?_,h1,c1⟩;have run:jq (oN ["left","first","near","chain","place","here","other"] kvs [tupK f,.fn "neighbours"])=.rx (.lst (Q1.map tupK)) [.oe k1,F1 f,F2,.fz (.lst (Q1.map tupK)),p1,b5,b6]:=by unfold jq;refine aN (ρ1:=[.oe kvs,F1 f,F2,.ow [tupK f],.no,.no,.no]) rfl ?_;refine aN (ρ1:=[.oe (iZ kvs f),F1 f,F2,.ow [tupK f],.no,.no,.no]) (Wt rfl (aq rfl) (by omega) hf) ?_;refine aN (ρ1:=[.oe (iZ kvs f),F1 f,F2,.ow [tupK f],.fz (.int 0),.no,.no]) (oE bT) ?_;refine aN (oF e1) ?_;rfl
 unfold cF;rw[run];rfl
noncomputable abbrev cM(r:KL):D:=.tup (r.map tupK)
theorem Ww{L:KL}(h:jc L):bH L=L:=jc.ext (.sort h.pr h.nd) h fun x=>fU
theorem Wx{A:KL}(hA:yF A):mY [.tup (A.map tupK)]=.ok (.lst (A.map tupK)):=by have l:=hA.le;simp only[mY,uw];rw[if_pos ⟨fun k hk=>(hA.st.pr k hk).ne,by omega⟩,Ww hA.st]
theorem Hx{Q:KL}(hp:∀x∈Q,Pair x)(l:Q.length<=1000):mX [.lst (Q.map tupK)]=.ok (.lst ((bH Q).map tupK)):=Vt (by omega) hp
theorem Wy{A:KL}(hA:yF A):∃kvs,pD [.tup (A.map tupK)]=.ok kvs/\GB kvs 100/\∀x,x∈A↔x∈kI kvs:=by
 have la:=hA.le;obtain⟨ρ1,e1,kvs,a2,rfl,km⟩:=xX (h:=aK 2) (g:=qZ) tupK (fun done ρ=>∃kvs a2,ρ=[.fz (.tup (A.map tupK)),.od kvs,a2]/\Km kvs done.length (fun k=>k∈done)) (L:=A) (ρ:=[.fz (.tup (A.map tupK)),.od [],.no]) ⟨_,_,rfl,Km.nil.mono (bE _) (fun k=>by simp)⟩ (by
  rintro x done ρ hx hd ⟨kvs,a2,rfl,km⟩;obtain⟨u,v,rfl⟩:=hA.st.pr x hx;have l:=km.le;refine⟨_,[.fz (.tup (A.map tupK)),.od (qR kvs [u,v] (.bl true)),.fz (tupK [u,v])],rfl,?_,_,_,rfl,(km.put u v (.bl true) (M':=fun k=>k∈done++[[u,v]]) fun k=>by rw[du,iA];exact or_comm).mono (by rw[dy];exact bE _) (fun k=>Iff.rfl)⟩;unfold qZ;exact Vr (ks:=[u,v]) bT rfl (aq rfl) (by omega))
 have l:=km.le;refine⟨kvs,?_,⟨km.gn,by omega,fun x hx=>hA.bd x ((km.iff x).mp hx)⟩,fun x=>(km.iff x).symm⟩;unfold pD yt xY;rw[show Uu 1 (aY ["cells","told","cell"] [.tup (A.map tupK)])=.nx [.fz (.tup (A.map tupK)),.od [],.no] from rfl];dsimp only;rw[oF (BK (aq rfl) e1)];rfl
theorem JZ{P:List Int->Prop}{A:KL}(hA:yF A)(hP:∀x,P x->x∈A){kvs:List (List Int×D)}(g:GB kvs 100)(hk:∀x,P x↔x∈kI kvs){f:List Int}(hf:f∈kI kvs){C:Sl}{ds:List D}(ld:ds.length<=1000) :
  ∃kvs' Q,jg [C,F2,.od kvs,.ow ds,.fz (tupK f)]=.nx [C,F2,.od kvs',.ow (ds++[.lst (Q.map tupK)]),.fz (tupK f)]/\Bf P f kvs' Q/\Cl P Q Q.length:=by
 obtain⟨k1,Q,e,h,c⟩:=ZS hP hA.le hA.st.pr hA.bd g hk hf;refine⟨k1,Q,?_,h,c⟩;have t:fT (jF 2 (ao 4)) [C,F2,.od kvs,.ow ds,.fz (tupK f)]=.ok true:=by rw[jE (qg rfl (aq rfl)),decide_eq_true hf]
 unfold jg;refine gU t ?_;have x1:xE 2 2 cF (xPA (aj (ao 4) (aj (ao 1) aO))) [C,F2,.od kvs,.ow ds,.fz (tupK f)]=.ok (.lst (Q.map tupK),[C,F2,.od k1,.ow ds,.fz (tupK f)]):=by
  unfold xE;show bx (xPA (aj (ao 4) (aj (ao 1) aO)) [C,F2,.od kvs,.ow ds,.fz (tupK f)]) _=_;have a1:xPA (aj (ao 4) (aj (ao 1) aO)) [C,F2,.od kvs,.ow ds,.fz (tupK f)]=.ok ([tupK f,.fn "neighbours"],[C,F2,.od kvs,.ow ds,.fz (tupK f)]):=by unfold xPA;rw[show aj (ao 4) (aj (ao 1) aO) [C,F2,.od kvs,.ow ds,.fz (tupK f)]=.ok [tupK f,.fn "neighbours"] from aC (aq rfl) (aC (aq rfl) aX)];rfl
  rw[a1];show(match cF kvs [tupK f,.fn "neighbours"] with|.ok (d,es')=>Rs.ok (d,List.set [C,F2,.od kvs,.ow ds,.fz (tupK f)] 2 (qG (.od kvs) es'))|_=>.no)=_;rw[e];rfl
 unfold Ml;show oX (xE 2 2 cF (xPA (aj (ao 4) (aj (ao 1) aO))) [C,F2,.od kvs,.ow ds,.fz (tupK f)]) _=_;rw[x1];show(if ds.length < 1000000 then Ou.nx _ else .no)=_;rw[if_pos (by omega)];rfl
theorem Ka{kvs:List (List Int×D)}{f:List Int}(hf:f∉kI kvs){C a3:Sl}:jg [C,F2,.od kvs,a3,.fz (tupK f)]=.nx [C,F2,.od kvs,a3,.fz (tupK f)]:=by
 have t:fT (jF 2 (ao 4)) [C,F2,.od kvs,a3,.fz (tupK f)]=.ok false:=by rw[jE (qg rfl (aq rfl)),decide_eq_false hf]
 unfold jg;exact bV t iG
theorem rm{A:KL}(hA:yF A){C:Sl}:∀(T:KL) (P:List Int->Prop) (kvs:List (List Int×D)) (ds:List D) (a4:Sl),(∀x,P x->x∈A)->GB kvs 100->(∀x,P x↔x∈kI kvs)->ds.length + T.length<=1000 ->
  ∃(kvs':List (List Int×D)) (DQ:List KL) (b4:Sl),cL (aK 4) jg (T.map tupK) [C,F2,.od kvs,.ow ds,a4]=.nx [C,F2,.od kvs',.ow (ds++DQ.map fun Q=>D.lst (Q.map tupK)),b4]/\DQ.map bH=rws A T P/\∀Q∈DQ,Q.Nodup/\Q.length<=100/\∀x∈Q,Pair x
 | [],P,kvs,ds,a4,_,_,_,_=>⟨kvs,[],a4,by rw[iN,iN,eI];rfl,by simp[rws],fun Q hQ=>nomatch hQ⟩
 |f::T,P,kvs,ds,a4,hP,g,hk,hl=>by
  rw[ck]at hl;by_cases hf:P f
  ·obtain⟨k1,Q,e1,h,c⟩:=JZ hA hP g hk ((hk f).mp hf) (C:=C) (ds:=ds) (by omega);obtain⟨k2,DQ,b4,e2,r2,q2⟩:=rm hA (C:=C) T (fun y=>P y/\¬Rc P f y) k1 (ds++[.lst (Q.map tupK)]) (.fz (tupK f)) (fun x hx=>hP x hx.1) h.gb (fun x=>(h.left c x).symm) (by rw[dy];simp only[ck,eC];omega);refine⟨k2,Q::DQ,b4,?_,?_,fun Q' hQ=>?_⟩
   ·rw[bX,bX];refine(bM rfl e1 e2).trans ?_;rw[fN];rfl
   ·rw[bX,r2]
    conv=>rhs;unfold rws
    rw[if_pos hf,Hv hA.st hP h c]
   ·rcases br.mp hQ with rfl|hQ
    ·have lq:=h.len hP;have la:=hA.le;exact⟨h.nd,by omega,fun x hx=>hA.st.pr x (hP x ((h.uni x).mpr (.inr hx)))⟩
    ·exact q2 Q' hQ
  ·obtain⟨k2,DQ,b4,e2,r2,q2⟩:=rm hA (C:=C) T P kvs ds (.fz (tupK f)) hP g hk (by omega);refine⟨k2,DQ,b4,?_,?_,q2⟩
   ·rw[bX];exact bM rfl (Ka fun z=>hf ((hk f).mpr z)) e2
   ·rw[r2]
    conv=>rhs;unfold rws
    rw[if_neg hf]
theorem Wz{A:KL}(hA:yF A):∃DQ:List KL,mF [.tup (A.map tupK),.fn "neighbours"]=.ok (.lst (DQ.map fun Q=>.lst (Q.map tupK)))/\DQ.map bH=rws A A (fun x=>x∈A)/\∀Q∈DQ,Q.Nodup/\Q.length<=100/\∀x∈Q,Pair x:=by
 have la:=hA.le;obtain⟨kvs,e0,g,hk⟩:=Wy hA;obtain⟨k2,DQ,b4,e2,r2,q2⟩:=rm hA (C:=.fz (.tup (A.map tupK))) A (fun x=>x∈A) kvs [] .no (fun x hx=>hx) g hk (by simp only[eC];omega);refine⟨DQ,?_,r2,q2⟩;rw[kQ]at e2;have run:sS (aY ["cells","near","left","told","cell"] [.tup (A.map tupK),.fn "neighbours"])=.rt (.lst (DQ.map fun Q=>.lst (Q.map tupK))):=by
  unfold sS;refine aN (ρ1:=[.fz (.tup (A.map tupK)),F2,.od kvs,.no,.no]) ?_ ?_
  ·unfold Df;rw[show aj (ao 0) aO (aY ["cells","near","left","told","cell"] [.tup (A.map tupK),.fn "neighbours"])=.ok [.tup (A.map tupK)] from aC (aq rfl) aX];simp only[Pn];rw[if_pos (show [D.tup (A.map tupK)].length=1 from rfl),e0];rfl
  refine aN (ρ1:=[.fz (.tup (A.map tupK)),F2,.od kvs,.ow [],.no]) rfl ?_;refine aN (oF (ug (eO (aC (aq rfl) aX) (Wx hA)) e2)) ?_;rfl
 unfold mF;rw[run];rfl
theorem WD{Q:KL}(nd:Q.Nodup)(l:Q.length<=100)(hp:∀x∈Q,Pair x):pC [.lst (Q.map tupK)]=.ok (cM (bH Q)):=by
 have e:rise Q=bH Q:=(jc.rise hp).ext (.sort hp nd) fun x=>by rw[Vq,fU]
 have run:sO (aY ["cells"] [.lst (Q.map tupK)])=.rt (cM (bH Q)):=by unfold sO;rw[<- e];exact lU (eO (aC (Zx (aq rfl) (by omega) fun ks hk=>(hp ks hk).ne) aX) rfl)
 unfold pC;rw[run];rfl
theorem WK(A:KL):iT [sh A false]=.ok .non:=rfl
theorem Nf{A:KL}(hA:yF A):gM [sh A false]=.ok ((rws A A (fun x=>x∈A)).map cM):=by
 obtain⟨DQ,e1,r1,q1⟩:=Wz hA;have lr:=sZ (A:=A) (T:=A) (P:=fun x=>x∈A);have la:=hA.le;have cp:fu (aK 0) (fun _=>.ok true) Ah 1 [] (fL (fA (aj (aV iY (ao 0) (fC (.int 0))) (aj (fC (.fn "neighbours")) aO)) (bU 2 mF)) asL) [.fz (sh A false)]=.ok (.lst (DQ.map fun Q=>cM (bH Q))):=by
  refine BL (ds:=DQ.map fun Q=>.lst (Q.map tupK)) (v_l (eO (aC (bf (aq rfl) bT rfl) (aC bT aX)) (gj rfl e1)) rfl) ?_ (by rw[cw];have:=congrArg jb r1;rw[cw]at this;omega);exact uD (fun ρ=>∃a,ρ=[a]) (fun Q:KL=>D.lst (Q.map tupK)) (fun Q=>cM (bH Q)) ⟨_,rfl⟩ (by
   rintro Q hQ ρ ⟨a,rfl⟩;obtain⟨n1,n2,n3⟩:=q1 Q hQ;exact⟨[.fz (.lst (Q.map tupK))],rfl,eO (aC (aq rfl) aX) (gj rfl (WD n1 n2 n3)),_,rfl⟩)
 have em:(DQ.map fun Q=>cM (bH Q))=(rws A A (fun x=>x∈A)).map cM:=by rw[<- r1,gr];rfl
 have run:vD (aY ["shape"] [sh A false])=.rl ((rws A A (fun x=>x∈A)).map cM):=by unfold vD;refine aN (ρ1:=[.fz (sh A false)]) (afp (eO (aC (aq rfl) aX) (gj rfl (WK A)))) ?_;unfold xZ;rw[cp,em]
 unfold gM;rw[run];rfl
noncomputable abbrev RF(C:Sl)(kvs:List (List Int×D))(c:Sl)(fs:List D)(Q:KL)(p:Sl)(a7 a8 a9:Sl):ak:=[C,.fz (.bl false),.od kvs,c,.ow fs,.ow (Q.map tupK),p,a7,a8,a9]
theorem ZV{P:List Int->Prop}{f:List Int}{kvs:List (List Int×D)}{Q:KL}(h:Bf P f kvs Q)(lQ:Q.length<=1000){p:Nat}{x:List Int}(hp:Q[p]?=some x)(px:Pair x){r c:Int}(hr:-1<=r/\r<=1)(hc:-1<=c/\c<=1){C c3 a9:Sl}{fs:List D} :
  ∃kvs' Q' b9,iM (RF C kvs c3 fs Q (.fz (.int p)) (.fz (.int r)) (.fz (.int c)) a9)=.nx (RF C kvs' c3 fs Q' (.fz (.int p)) (.fz (.int r)) (.fz (.int c)) b9)/\Bf P f kvs' Q'/\(∃E,Q'=Q++E)/\(P [c0 x + r,c1 x + c]->[c0 x + r,c1 x + c]∈Q'):=by
 have hx:x∈Q:=jI hp;have l:=h.gb.le;obtain⟨u,v,rfl⟩:=px;have e0:c0 [u,v]=u:=rfl;have e1:c1 [u,v]=v:=rfl;rw[e0,e1];have ha:Ad [u,v] [u + r,v + c]:=⟨⟨_,_,rfl⟩,by show-1<=(u + r) - u/\(u + r) - u<=1;omega,by show-1<=(v + c) - v/\(v + c) - v<=1;omega⟩
 have st:ju 9 (uQ 5 (fA (aj (aV bF (aV iY (aV iY (ao 5) (ao 6)) (fC (.int 0))) (ao 7)) (aj (aV bF (aV iY (aV iY (ao 5) (ao 6)) (fC (.int 1))) (ao 8)) aO)) gq)) (RF C kvs c3 fs Q (.fz (.int p)) (.fz (.int r)) (.fz (.int c)) a9)=.nx (RF C kvs c3 fs Q (.fz (.int p)) (.fz (.int r)) (.fz (.int c)) (.fz (tupK [u + r,v + c]))) :=
  oE (JV rfl (eO (aC (bf (bf (bf (aq rfl) (aq rfl) (JW hp)) bT rfl) (aq rfl) cI) (aC (bf (bf (bf (aq rfl) (aq rfl) (JW hp)) bT rfl) (aq rfl) cI) aX)) (t2 _ _)) (yE [u + r,v + c]))
 generalize [u + r,v + c]=y at *;have t:fT (jF 2 (ao 9)) (RF C kvs c3 fs Q (.fz (.int p)) (.fz (.int r)) (.fz (.int c)) (.fz (tupK y)))=.ok (decide (y∈kI kvs)):=jE (qg rfl (aq rfl));have n:rF (qj (fT (ao 1)) (fT (aV Xd (aV dI (ao 7) (ao 8)) (fC (.int 0))))) (RF C kvs c3 fs Q (.fz (.int p)) (.fz (.int r)) (.fz (.int c)) (.fz (tupK y)))=.ok true:=zK (t:=false) (rM (jE (aq rfl)));unfold iM;by_cases k:y∈kI kvs
 ·rw[decide_eq_true k]at t;refine⟨iZ kvs y,Q++[y],.fz (tupK y),aN st (gU (rN t n) ?_),h.add hx ha k,⟨[y],rfl⟩,fun _=>fE _ (.head _)⟩;refine aN (ρ1:=RF C (iZ kvs y) c3 fs Q (.fz (.int p)) (.fz (.int r)) (.fz (.int c)) (.fz (tupK y))) (JT rfl (aq rfl) (by omega) k) ?_;show _=Ou.nx [C,.fz (.bl false),.od (iZ kvs y),c3,.ow fs,.ow ((Q++[y]).map tupK),.fz (.int p),.fz (.int r),.fz (.int c),.fz (tupK y)];rw[j6];exact aaJ rfl (aq rfl) (by omega)
 ·rw[decide_eq_false k]at t;exact⟨kvs,Q,.fz (tupK y),aN st (bV (rM t) iG),h,⟨[],(eI _).symm⟩,fun q=>((h.uni y).mp q).resolve_left k⟩
theorem Ng{Q E:KL}{p:Nat}{x:List Int}(h:Q[p]?=some x):(Q++E)[p]?=some x:=by rw[fg (dm.mp h).1];exact h
theorem WL{P:List Int->Prop}{f:List Int}{A:KL}(hP:∀x,P x->x∈A)(lA:A.length<=100){p:Nat}{x:List Int}(px:Pair x){r:Int}(hr:-1<=r/\r<=1){C c3:Sl}{fs:List D}:∀(cs:List Int) (kvs:List (List Int×D)) (Q:KL) (a8 a9:Sl),Bf P f kvs Q->Q[p]?=some x->(∀c∈cs,-1<=c/\c<=1) ->
  ∃(kvs':List (List Int×D)) (Q':KL) (b8 b9:Sl),cL (aK 8) iM (cs.map D.int) (RF C kvs c3 fs Q (.fz (.int p)) (.fz (.int r)) a8 a9)=.nx (RF C kvs' c3 fs Q' (.fz (.int p)) (.fz (.int r)) b8 b9)/\Bf P f kvs' Q'/\(∃E,Q'=Q++E)/\∀c∈cs,P [c0 x + r,c1 x + c]->[c0 x + r,c1 x + c]∈Q'
 | [],kvs,Q,a8,a9,h,_,_=>⟨kvs,Q,a8,a9,rfl,h,⟨[],(eI _).symm⟩,fun y hy=>nomatch hy⟩
 |c::cs,kvs,Q,a8,a9,h,hp,hc=>by
  have lQ:=h.len hP;obtain⟨k1,Q1,b9,e1,h1,⟨E1,hE1⟩,m1⟩:=ZV h (by omega) hp px hr (hc c (.head _)) (C:=C) (c3:=c3) (a9:=a9) (fs:=fs);obtain⟨k2,Q2,b8,c9,e2,h2,⟨E2,hE2⟩,m2⟩:=WL hP lA px hr (C:=C) (c3:=c3) (fs:=fs) cs k1 Q1 (.fz (.int c)) b9 h1 (by rw[hE1];exact Ng hp) (fun z hz=>hc z (.tail _ hz));refine⟨k2,Q2,b8,c9,?_,h2,⟨E1++E2,by rw[hE2,hE1,fN]⟩,fun z hz q=>?_⟩
  ·rw[bX];exact bM rfl e1 e2
  ·rcases br.mp hz with rfl|hz
   ·rw[hE2];exact ie _ (m1 q)
   ·exact m2 z hz q
noncomputable abbrev tr3:ak->Rs D:=fA (aj (wF (fC (.int 1))) (aj (fC (.int 0)) (aj (fC (.int 1)) aO))) gq
theorem WM(ρ:ak):tr3 ρ=.ok (.tup ([-1,0,1].map D.int)):=eO (aC (Sg bT) (aC bT (aC bT aX))) (Sh (by simp))
theorem in3:∀c∈([-1,0,1]:List Int),-1<=c/\c<=1:=by decide
theorem Nh{P:List Int->Prop}{f:List Int}{A:KL}(hP:∀x,P x->x∈A)(lA:A.length<=100){p:Nat}{x:List Int}(px:Pair x){C c3:Sl}{fs:List D}:∀(rs:List Int) (kvs:List (List Int×D)) (Q:KL) (a7 a8 a9:Sl),Bf P f kvs Q->Q[p]?=some x->(∀c∈rs,-1<=c/\c<=1) ->
  ∃(kvs':List (List Int×D)) (Q':KL) (b7 b8 b9:Sl),cL (aK 7) iQ (rs.map D.int) (RF C kvs c3 fs Q (.fz (.int p)) a7 a8 a9)=.nx (RF C kvs' c3 fs Q' (.fz (.int p)) b7 b8 b9)/\Bf P f kvs' Q'/\(∃E,Q'=Q++E)/\∀r∈rs,∀c∈([-1,0,1]:List Int),P [c0 x + r,c1 x + c]->[c0 x + r,c1 x + c]∈Q'
 | [],kvs,Q,a7,a8,a9,h,_,_=>⟨kvs,Q,a7,a8,a9,rfl,h,⟨[],(eI _).symm⟩,fun y hy=>nomatch hy⟩
 |r::rs,kvs,Q,a7,a8,a9,h,hp,hr=>by
  obtain⟨k1,Q1,b8,b9,e1,h1,⟨E1,hE1⟩,m1⟩:=WL hP lA px (hr r (.head _)) (p:=p) (C:=C) (c3:=c3) (fs:=fs) [-1,0,1] kvs Q a8 a9 h hp in3;have st:iQ (RF C kvs c3 fs Q (.fz (.int p)) (.fz (.int r)) a8 a9)=.nx (RF C k1 c3 fs Q1 (.fz (.int p)) (.fz (.int r)) b8 b9):=by unfold iQ;exact BK (WM _) e1
  obtain⟨k2,Q2,b7,c8,c9,e2,h2,⟨E2,hE2⟩,m2⟩:=Nh hP lA px (C:=C) (c3:=c3) (fs:=fs) rs k1 Q1 (.fz (.int r)) b8 b9 h1 (by rw[hE1];exact Ng hp) (fun z hz=>hr z (.tail _ hz));refine⟨k2,Q2,b7,c8,c9,?_,h2,⟨E1++E2,by rw[hE2,hE1,fN]⟩,fun z hz c hc q=>?_⟩
  ·rw[bX];exact bM rfl st e2
  ·rcases br.mp hz with rfl|hz
   ·rw[hE2];exact ie _ (m1 c hc q)
   ·exact m2 z hz c hc q
theorem ZW{P:List Int->Prop}{f:List Int}{A:KL}(hP:∀x,P x->x∈A)(lA:A.length<=100)(pr:∀x∈A,Pair x){kvs:List (List Int×D)}{Q:KL}(h:Bf P f kvs Q){p:Nat}{x:List Int}(hp:Q[p]?=some x)(c:Cl P Q p){C c3 a7 a8 a9:Sl}{fs:List D} :
  ∃(kvs':List (List Int×D)) (Q':KL) (b7 b8 b9:Sl),iR (RF C kvs c3 fs Q (.fz (.int p)) a7 a8 a9)=.nx (RF C kvs' c3 fs Q' (.fz (.int ((p + 1:Nat):Int))) b7 b8 b9)/\Bf P f kvs' Q'/\Cl P Q' (p + 1)/\Q.length<=Q'.length:=by
 have hx:x∈Q:=jI hp;have hxA:=hP x ((h.uni x).mpr (.inr hx));obtain⟨k1,Q1,b7,b8,b9,e1,h1,⟨E,hE⟩,m⟩:=Nh hP lA (pr x hxA) (p:=p) (C:=C) (c3:=c3) (fs:=fs) [-1,0,1] kvs Q a7 a8 a9 h hp in3;refine⟨k1,Q1,b7,b8,b9,?_,h1,?_,by rw[hE,dy];omega⟩
 ·unfold iR;refine aN (BK (WM _) e1) ?_;exact oE (bf (aq rfl) bT cI)
 ·rw[hE];refine c.next hp fun y ha py=>?_;rw[<- hE];obtain⟨⟨u,v,rfl⟩,⟨g1,g2⟩,g3,g4⟩:=ha;have e0:c0 [u,v]=u:=rfl;have e1':c1 [u,v]=v:=rfl;rw[e0]at g1 g2;rw[e1']at g3 g4;have ey:[u,v]=[c0 x + (u - c0 x),c1 x + (v - c1 x)]:=by rw[show c0 x + (u - c0 x)=u by omega,show c1 x + (v - c1 x)=v by omega]
  have i3:∀z:Int,-1<=z->z<=1->z∈([-1,0,1]:List Int):=fun z h1 h2=>by
   have:z=-1∨z=0∨z=1:=by omega
   rcases this with rfl|rfl|rfl <;> simp
  rw[ey]at py ⊢;exact m _ (i3 _ g1 g2) _ (i3 _ g3 g4) py
theorem aaT{P:List Int->Prop}{f:List Int}{A:KL}(hP:∀x,P x->x∈A)(lA:A.length<=100)(pr:∀x∈A,Pair x){C c3:Sl}{fs:List D}:∀(n p:Nat) (kvs:List (List Int×D)) (Q:KL) (a7 a8 a9:Sl),Bf P f kvs Q->Cl P Q p->p<=Q.length->A.length + 1<=n + p ->
  ∃(kvs':List (List Int×D)) (Q':KL) (p' b7 b8 b9:Sl),Qh (jV 5 (fT (aV Xe (ao 6) (fA (aj (ao 5) aO) nJ)))) iR n (RF C kvs c3 fs Q (.fz (.int p)) a7 a8 a9)=.nx (RF C kvs' c3 fs Q' p' b7 b8 b9)/\Bf P f kvs' Q'/\Cl P Q' Q'.length
 | 0,p,kvs,Q,a7,a8,a9,h,c,hp,hl=>by have:=h.len hP;omega
 |n + 1,p,kvs,Q,a7,a8,a9,h,c,hp,hl=>by
  have t:jV 5 (fT (aV Xe (ao 6) (fA (aj (ao 5) aO) nJ))) (RF C kvs c3 fs Q (.fz (.int p)) a7 a8 a9)=.ok (decide ((p:Int) < ((Q.map tupK).length:Int))):=Dy rfl (jE (bf (aq rfl) (eO (aC (aq rfl) aX) rfl) Fi));rw[cw]at t;by_cases e:p < Q.length
  ·rw[decide_eq_true (by omega)]at t;obtain⟨x,hx⟩:∃x,Q[p]?=some x:=⟨Q[p],cS e⟩
   obtain⟨k1,Q1,b7,b8,b9,e1,h1,c1,l1⟩:=ZW hP lA pr h hx c (C:=C) (c3:=c3) (a7:=a7) (a8:=a8) (a9:=a9) (fs:=fs);obtain⟨k2,Q2,p2,c7,c8,c9,e2,h2,c2⟩:=aaT hP lA pr (C:=C) (c3:=c3) (fs:=fs) n (p + 1) k1 Q1 b7 b8 b9 h1 c1 (by omega) (by omega);refine⟨k2,Q2,p2,c7,c8,c9,?_,h2,c2⟩;unfold Qh;rw[t];dsimp only;rw[e1];exact e2
  ·rw[decide_eq_false (by omega)]at t;have ep:p=Q.length:=by omega
   refine⟨kvs,Q,.fz (.int p),a7,a8,a9,?_,h,by rw[ep]at c;exact c⟩;unfold Qh;rw[t]
theorem aaU{ρ:ak}{i:Nat}{ds:List D}{d:D}{f:ak->Rs D}(hi:ρ[i]?=some (.ow ds))(hf:f ρ=.ok d)(hl:ds.length < 1000000):uX i f ρ=.nx (ρ.set i (.ow (ds++[d]))):=by unfold uX;rw[hi];dsimp only;rw[hf];show(if _ then _ else _)=_;rw[if_pos hl]
theorem WQ{P:List Int->Prop}{A:KL}(hA:yF A)(hP:∀x,P x->x∈A){kvs:List (List Int×D)}(g:GB kvs 100)(hk:∀x,P x↔x∈kI kvs){f:List Int}(hf:f∈kI kvs){C a5 a6 a7 a8 a9:Sl}{fs:List D}(lf:fs.length<=1000) :
  ∃(kvs':List (List Int×D)) (Q:KL) (b5 b6 b7 b8 b9:Sl),dB [C,.fz (.bl false),.od kvs,.fz (tupK f),.ow fs,a5,a6,a7,a8,a9]=.nx [C,.fz (.bl false),.od kvs',.fz (tupK f),.ow (fs++[cM (bH Q)]),b5,b6,b7,b8,b9]/\Bf P f kvs' Q/\Cl P Q Q.length:=by
 have l:=g.le;have la:=hA.le;obtain⟨k1,Q1,p1,b7,b8,b9,e1,h1,c1⟩:=aaT hP hA.le hA.st.pr (C:=C) (c3:=.fz (tupK f)) (fs:=fs) 1000 0 (iZ kvs f) [f] a7 a8 a9 (.start g hk hf) (fun i x hi=>absurd hi (Nat.not_lt_zero _)) (d_ _) (by omega);have lq:=h1.len hP;have pq:∀x∈Q1,Pair x:=fun x hx=>hA.st.pr x (hP x ((h1.uni x).mpr (.inr hx)));refine⟨k1,Q1,.ow (Q1.map tupK),p1,b7,b8,b9,?_,h1,c1⟩;have t:fT (jF 2 (ao 3)) [C,.fz (.bl false),.od kvs,.fz (tupK f),.ow fs,a5,a6,a7,a8,a9]=.ok true:=by rw[jE (qg rfl (aq rfl)),decide_eq_true hf]
 unfold dB;refine gU t ?_;refine aN (ρ1:=[C,.fz (.bl false),.od kvs,.fz (tupK f),.ow fs,.ow [tupK f],a6,a7,a8,a9]) rfl ?_;refine aN (ρ1:=[C,.fz (.bl false),.od (iZ kvs f),.fz (tupK f),.ow fs,.ow [tupK f],a6,a7,a8,a9]) (JT rfl (aq rfl) (by omega) hf) ?_;refine aN (ρ1:=RF C (iZ kvs f) (.fz (tupK f)) fs [f] (.fz (.int 0)) a7 a8 a9) (oE bT) ?_;refine aN e1 ?_;exact aaU rfl (JV rfl (eO (aC (eO (aC (aq rfl) aX) (Hx pq (by omega))) aX) rfl) (by show Gx (.tup ((bH Q1).map tupK))=true;simp only[Gx];exact Ai _)) (by omega)
theorem ZX{kvs:List (List Int×D)}{f:List Int}(hf:f∉kI kvs){C a4 a5 a6 a7 a8 a9:Sl}:dB [C,.fz (.bl false),.od kvs,.fz (tupK f),a4,a5,a6,a7,a8,a9]=.nx [C,.fz (.bl false),.od kvs,.fz (tupK f),a4,a5,a6,a7,a8,a9]:=by
 have t:fT (jF 2 (ao 3)) [C,.fz (.bl false),.od kvs,.fz (tupK f),a4,a5,a6,a7,a8,a9]=.ok false:=by rw[jE (qg rfl (aq rfl)),decide_eq_false hf]
 unfold dB;exact bV t iG
theorem Dz{A:KL}(hA:yF A){C:Sl}:∀(T:KL) (P:List Int->Prop) (kvs:List (List Int×D)) (fs:List D) (a3 a5 a6 a7 a8 a9:Sl),(∀x,P x->x∈A)->GB kvs 100->(∀x,P x↔x∈kI kvs)->fs.length + T.length<=1000 ->
  ∃(kvs':List (List Int×D)) (b3 b5 b6 b7 b8 b9:Sl),cL (aK 3) dB (T.map tupK) [C,.fz (.bl false),.od kvs,a3,.ow fs,a5,a6,a7,a8,a9]=.nx [C,.fz (.bl false),.od kvs',b3,.ow (fs++(rws A T P).map cM),b5,b6,b7,b8,b9]
 | [],P,kvs,fs,a3,a5,a6,a7,a8,a9,_,_,_,_=>⟨kvs,a3,a5,a6,a7,a8,a9,by rw[show rws A [] P=[] from rfl,iN,iN,eI];rfl⟩
 |f::T,P,kvs,fs,a3,a5,a6,a7,a8,a9,hP,g,hk,hl=>by
  rw[ck]at hl;by_cases hf:P f
  ·obtain⟨k1,Q,b5,b6,b7,b8,b9,e1,h,c⟩:=WQ hA hP g hk ((hk f).mp hf) (C:=C) (a5:=a5) (a6:=a6) (a7:=a7) (a8:=a8) (a9:=a9) (fs:=fs) (by omega);obtain⟨k2,c3,c5,c6,c7,c8,c9,e2⟩:=Dz hA (C:=C) T (fun y=>P y/\¬Rc P f y) k1 (fs++[cM (bH Q)]) (.fz (tupK f)) b5 b6 b7 b8 b9 (fun x hx=>hP x hx.1) h.gb (fun x=>(h.left c x).symm) (by rw[dy];simp only[ck,eC];omega);refine⟨k2,c3,c5,c6,c7,c8,c9,?_⟩;have er:rws A (f::T) P=bH Q::rws A T (fun y=>P y/\¬Rc P f y):=by
    conv=>lhs;unfold rws
    rw[if_pos hf,Hv hA.st hP h c]
   rw[er,bX,bX];refine(bM rfl e1 e2).trans ?_;rw[fN];rfl
  ·obtain⟨k2,c3,c5,c6,c7,c8,c9,e2⟩:=Dz hA (C:=C) T P kvs fs (.fz (tupK f)) a5 a6 a7 a8 a9 hP g hk (by omega);refine⟨k2,c3,c5,c6,c7,c8,c9,?_⟩;have er:rws A (f::T) P=rws A T P:=by
    conv=>lhs;unfold rws
    rw[if_neg hf]
   rw[er,bX];exact bM rfl (ZX fun z=>hf ((hk f).mpr z)) e2
theorem WR{A:KL}(hA:yF A):gG [.tup (A.map tupK),.bl false]=.ok (.lst ((rws A A (fun x=>x∈A)).map cM)):=by
 have la:=hA.le;obtain⟨ρ1,e1,kvs,a3,rfl,km⟩:=xX (h:=aK 3) (g:=kh) tupK (fun done ρ=>∃kvs a3,ρ=[.fz (.tup (A.map tupK)),.fz (.bl false),.od kvs,a3,.no,.no,.no,.no,.no,.no]/\Km kvs done.length (fun k=>k∈done)) (L:=A) (ρ:=[.fz (.tup (A.map tupK)),.fz (.bl false),.od [],.no,.no,.no,.no,.no,.no,.no]) ⟨_,_,rfl,Km.nil.mono (bE _) (fun k=>by simp)⟩ (by
  rintro x done ρ hx hd ⟨kvs,a3,rfl,km⟩;obtain⟨u,v,rfl⟩:=hA.st.pr x hx;have l:=km.le;refine⟨_,[.fz (.tup (A.map tupK)),.fz (.bl false),.od (qR kvs [u,v] (.bl true)),.fz (tupK [u,v]),.no,.no,.no,.no,.no,.no],rfl,?_,_,_,rfl,(km.put u v (.bl true) (M':=fun k=>k∈done++[[u,v]]) fun k=>by rw[du,iA];exact or_comm).mono (by rw[dy];exact bE _) (fun k=>Iff.rfl)⟩;unfold kh;exact Vr (ks:=[u,v]) bT rfl (aq rfl) (by omega))
 have l:=km.le;obtain⟨k2,c3,c5,c6,c7,c8,c9,e2⟩:=Dz hA (C:=.fz (.tup (A.map tupK))) A (fun x=>x∈A) kvs [] a3 .no .no .no .no .no (fun x hx=>hx) ⟨km.gn,by omega,fun x hx=>hA.bd x ((km.iff x).mp hx)⟩ (fun x=>(km.iff x).symm) (by simp only[eC];omega);rw[kQ]at e2;have run:jo (aY ["cells","sides","left","cell","found","part","at","row","column","near"] [.tup (A.map tupK),.bl false])=.rt (.lst ((rws A A (fun x=>x∈A)).map cM)):=by unfold jo;refine aN (ρ1:=[.fz (.tup (A.map tupK)),.fz (.bl false),.od [],.no,.no,.no,.no,.no,.no,.no]) rfl ?_;refine aN (oF (BK (aq rfl) e1)) ?_;refine aN (ρ1:=[.fz (.tup (A.map tupK)),.fz (.bl false),.od kvs,a3,.ow [],.no,.no,.no,.no,.no]) rfl ?_;refine aN (oF (ug (eO (aC (aq rfl) aX) (Wx hA)) e2)) ?_;rfl
 unfold gG;rw[run];rfl
theorem Aj{x:List Int}{r:KL}{S:Sl}(hx:x∈r):∀(R:List KL) (a2:Sl),r∈R->R.Pairwise (fun r s=>∀y∈r,y∉s)->cL (aK 2) cT (R.map cM) [S,.fz (tupK x),a2]=.rt (cM r)
 | [],_,h,_=>nomatch h
 |s::R,a2,h,pw=>by
  have t:fT (aV Za (ao 1) (ao 2)) [S,.fz (tupK x),.fz (cM s)]=.ok (decide (x∈s)):=jE (bf (aq rfl) (aq rfl) (aii x s));obtain⟨p1,p2⟩:=fR.mp pw;rw[bX];unfold cL;show(match cT [S,.fz (tupK x),.fz (cM s)] with|.nx ρ2=>_|.ct ρ2=>_|.bk ρ2=>_|o=>o)=_;by_cases c:x∈s
  ·have es:s=r:=by
    rcases br.mp h with e|h'
    ·exact e.symm
    ·exact absurd hx (p1 r h' x c)
   subst es;rw[decide_eq_true c]at t;have st:cT [S,.fz (tupK x),.fz (cM s)]=.rt (cM s):=by unfold cT;exact gU t (lU (aq rfl))
   rw[st]
  ·rw[decide_eq_false c]at t;have st:cT [S,.fz (tupK x),.fz (cM s)]=.nx [S,.fz (tupK x),.fz (cM s)]:=by unfold cT;exact bV t iG
   rw[st];rcases br.mp h with e|h'
   ·subst e;exact absurd hx c
   ·exact Aj hx R (.fz (cM s)) h' p2
theorem Qd{A:KL}(hA:yF A){r:KL}(hr:r∈rws A A (fun x=>x∈A)){x:List Int}(hx:x∈r):mG [sh A false,tupK x]=.ok (cM r):=by
 have e1:yU gM [sh A false]=.ok (.lst ((rws A A (fun x=>x∈A)).map cM)):=by unfold yU;rw[Nf hA]
 have lp:=Aj hx (S:=.fz (sh A false)) (rws A A (fun x=>x∈A)) .no hr Dw;have run:qe (aY ["shape","cell","part"] [sh A false,tupK x])=.rt (cM r):=by
  unfold qe;have:jC (nW (aK 2) cT (fA (aj (ao 0) aO) (bU 1 (yU gM)))) [.fz (sh A false),.fz (tupK x),.no]=.rt (cM r):=by have q:nW (aK 2) cT (fA (aj (ao 0) aO) (bU 1 (yU gM))) [.fz (sh A false),.fz (tupK x),.no]=.rt (cM r):=ug (eO (aC (aq rfl) aX) (gj rfl e1)) lp;unfold jC;rw[q];rfl
  exact Bx this
 unfold mG;rw[run];rfl
theorem tu{fa fb:ak->Rs D}{ρ:ak}{r:Rs D}(h1:fa ρ=.ok (.bl true))(h2:fb ρ=r):nR fa fb ρ=r:=by unfold nR;rw[h1];exact h2
theorem Hy:∀ds:List D,qW ds ds=ds.map fun d=>.tup [d,d]
 | []=>rfl
 |d::ds=>by have:=Hy ds;unfold qW at this ⊢;rw[List.zip_cons_cons,bX,bX,this]
theorem WT(n:Nat)(x:Int):bB (n + 1) [.int x,.int x]=.ok (.bl true):=by
 have e:uL (.int x) (.int x)=.ok (.bl true):=by rw[qw,decide_eq_true rfl]
 have run:cj (bB n) (aY ["found","due"] [.int x,.int x])=.rt (.bl true):=by unfold cj;refine aN (bV (jE (bf (aq rfl) bT rfl)) iG) ?_;refine aN (bV (jE (Im (aq rfl) rfl)) iG) ?_;exact Bx (gU (jE (Im (aq rfl) rfl)) (lU (tu (Im (aq rfl) rfl) (tu rfl (bf (aq rfl) (aq rfl) e)))))
 show dX (cj (bB n) (aY ["found","due"] [.int x,.int x]))=_;rw[run];rfl
theorem Ak{n:Nat}{ds:List D}{ρ:ak}{fi:ak->Rs (List D)}(hl:ds.length<=1000)(hs:∀d∈ds,bB n [d,d]=.ok (.bl true))(hi:fi ρ=.ok (qW ds ds)) :
  fu (jG 2 (bR (aK 0) (bR (aK 1) kJ))) (fun _=>.ok true) (sU (bB n)) 2 [] fi ρ=.ok (.lst (ds.map fun _=>.bl true)):=by
 refine BL hi ?_ (by rw[cw];omega);rw[Hy];exact uD (fun ρ=>∃a b,ρ=[a,b]) (fun d=>.tup [d,d]) (fun _=>.bl true) ⟨_,_,rfl⟩ (by
  rintro d hd ρ ⟨a,b,rfl⟩;exact⟨_,rfl,eO (aC (aq rfl) (aC (aq rfl) aX)) (gj rfl (hs d hd)),_,_,rfl⟩)
theorem Hz{n:Nat}{ds:List D}(hl:ds.length<=1000)(hs:∀d∈ds,bB n [d,d]=.ok (.bl true)):bB (n + 1) [.tup ds,.tup ds]=.ok (.bl true):=by
 have cp:=Ak (ρ:=[.fz (.tup ds),.fz (.tup ds)]) (fi:=Uv (aj (ao 0) (aj (ao 1) aO)) Pj) hl hs (by show(if ds.length=ds.length then Rs.ok (qW ds ds) else .no)=_;rw[if_pos rfl]);have run:cj (bB n) (aY ["found","due"] [.tup ds,.tup ds])=.rt (.bl true):=by unfold cj;refine aN (bV (jE (bf (aq rfl) bT rfl)) iG) ?_;refine aN (bV (jE (Im (aq rfl) rfl)) iG) ?_;refine aN (bV (jE (Im (aq rfl) rfl)) iG) ?_;refine aN (bV (jE (Im (aq rfl) rfl)) iG) ?_;refine aN (bV (BJ (rN (jE (Im (aq rfl) rfl)) (zK (t:=true) (jE (Im (aq rfl) rfl)))) (rM (jE (Im (aq rfl) rfl)))) iG) ?_;refine lU ?_;have e1:aV uL (fA (aj (ao 0) aO) nJ) (fA (aj (ao 1) aO) nJ) (aY ["found","due"] [.tup ds,.tup ds])=.ok (.bl true):=bf (eO (aC (aq rfl) aX) xU) (eO (aC (aq rfl) aX) xU) (by rw[qw,decide_eq_true rfl]);exact tu e1 (eO (aC cp aX) (xV ds))
 show dX (cj (bB n) (aY ["found","due"] [.tup ds,.tup ds]))=_;rw[run];rfl
theorem WW{n:Nat}{ds:List D}(hl:ds.length<=1000)(hs:∀d∈ds,bB n [d,d]=.ok (.bl true)):bB (n + 1) [.lst ds,.lst ds]=.ok (.bl true):=by
 have cp:=Ak (ρ:=[.fz (.lst ds),.fz (.lst ds)]) (fi:=Uv (aj (ao 0) (aj (ao 1) aO)) Pj) hl hs (by show(if ds.length=ds.length then Rs.ok (qW ds ds) else .no)=_;rw[if_pos rfl]);have run:cj (bB n) (aY ["found","due"] [.lst ds,.lst ds])=.rt (.bl true):=by unfold cj;refine aN (bV (jE (bf (aq rfl) bT rfl)) iG) ?_;refine aN (bV (jE (Im (aq rfl) rfl)) iG) ?_;refine aN (bV (jE (Im (aq rfl) rfl)) iG) ?_;refine aN (bV (jE (Im (aq rfl) rfl)) iG) ?_;refine aN (bV (BJ (rM (jE (Im (aq rfl) rfl))) (rN (jE (Im (aq rfl) rfl)) (zK (t:=true) (jE (Im (aq rfl) rfl))))) iG) ?_;refine lU ?_;have e1:aV uL (fA (aj (ao 0) aO) nJ) (fA (aj (ao 1) aO) nJ) (aY ["found","due"] [.lst ds,.lst ds])=.ok (.bl true):=bf (eO (aC (aq rfl) aX) qX) (eO (aC (aq rfl) aX) qX) (by rw[qw,decide_eq_true rfl]);exact tu e1 (eO (aC cp aX) (xV ds))
 show dX (cj (bB n) (aY ["found","due"] [.lst ds,.lst ds]))=_;rw[run];rfl
theorem adY(n:Nat){ks:List Int}(hp:Pair ks):bB (n + 2) [tupK ks,tupK ks]=.ok (.bl true):=by obtain⟨x,y,rfl⟩:=hp;refine Hz (n:=n + 1) (ds:=[x,y].map D.int) (by simp) fun d hd=>?_;obtain⟨z,_,rfl⟩:=dt.mp hd;exact WT n z
theorem adZ(ns:List Int)(k:Nat):∃z:Int,fM [.lst (ns.map D.int),.int k]=.ok (.int z):=by
 by_cases h:k < ns.length
 ·have ix:iY (.lst (ns.map D.int)) (.int k)=.ok (.int ns[k]):=wG (by
   unfold vU Nz;rw[if_pos (by omega),if_pos (by rw[cw];omega)];simp[cS h])
  refine⟨ns[k],?_⟩;have run:iw (aY ["script","k"] [.lst (ns.map D.int),.int k])=.rt (.int ns[k]):=by unfold iw;exact Bx (gU (jE (bf (aq rfl) (eO (aC (aq rfl) aX) qX) (by rw[Fi,decide_eq_true (by rw[cw];omega)]))) (lU (bf (aq rfl) (aq rfl) ix)))
  unfold fM;rw[run];rfl
 ·refine⟨0,?_⟩;have run:iw (aY ["script","k"] [.lst (ns.map D.int),.int k])=.rt (.int 0):=by unfold iw;exact aN (bV (jE (bf (aq rfl) (eO (aC (aq rfl) aX) qX) (by rw[Fi,decide_eq_false (by rw[cw];omega)]))) iG) (lU bT)
  unfold fM;rw[run];rfl
theorem HB(n:Nat){r:KL}(hp:∀x∈r,Pair x)(l:r.length<=1000):bB (n + 3) [cM r,cM r]=.ok (.bl true):=by refine Hz (by rw[cw];exact l) fun d hd=>?_;obtain⟨k,hk,rfl⟩:=dt.mp hd;exact adY n (hp k hk)
theorem WX{A:KL}(hA:yF A){r:KL}(hr:r∈rws A A (fun x=>x∈A)):r.length<=1000:=by obtain⟨h1,h2⟩:=sW hA.st r hr;have:=mU h1.nd h2;have:=hA.le;omega
theorem Qe{A:KL}(hA:yF A):bB 5 [.lst ((rws A A (fun x=>x∈A)).map cM),.lst ((rws A A (fun x=>x∈A)).map cM)]=.ok (.bl true):=by have la:=hA.le;have lr:=sZ (A:=A) (T:=A) (P:=fun x=>x∈A);refine WW (by rw[cw];omega) fun d hd=>?_;obtain⟨r,hr,rfl⟩:=dt.mp hd;exact HB 1 (sW hA.st r hr).1.pr (WX hA hr)
theorem p6:eZ (.int 10) (.int 6)=.ok (.int 1000000):=by rw[Sq ⟨by decide,by decide,by decide⟩];exact congrArg (fun z=>Rs.ok (D.int z)) (by decide)
noncomputable def HJ(m:Int):KL:=[[3 - 1000000000000,1000000000000 - 5],[5 - 1000000000000,m + 50 - 1000000000000]]
theorem aac{A:KL}(hA:yF A)(l:A.length<=90){m:Int}(hm:0<=m/\m < 1000000)(hf:(A.filter fun x=>decide (c0 x < 9 - 1000000000000))=[]):yF (bH (A++HJ m)):=by
 have hn:∀x∈A,¬c0 x < 9 - 1000000000000:=fun x hx=>by simpa using List.filter_eq_nil_iff.mp hf x hx
 have e0:∀u v:Int,c0 [u,v]=u:=fun _ _=>rfl;have e1:∀u v:Int,c1 [u,v]=v:=fun _ _=>rfl;have pr:∀x∈A++HJ m,Pair x:=fun x hx=>by
  rcases du.mp hx with hx|hx
  ·exact hA.st.pr x hx
  ·unfold HJ at hx;simp only[br,da,or_false]at hx;rcases hx with rfl|rfl <;> exact⟨_,_,rfl⟩
 have nd:(A++HJ m).Nodup:=by
  rw[xS];refine⟨hA.st.nd,?_,fun a ha b hb e=>?_⟩
  ·unfold HJ;rw[gE];refine⟨fun z=>?_,by simp⟩;have:=congrArg c0 (iA.mp z);rw[e0,e0]at this;omega
  ·subst e;have:=hn a ha;unfold HJ at hb;simp only[br,da,or_false]at hb;rcases hb with rfl|rfl
   ·rw[e0]at this;omega
   ·rw[e0]at this;omega
 refine⟨.sort pr nd,by rw[pX,dy];show A.length + 2<=100;omega,fun x hx=>?_⟩;rcases du.mp (fU.mp hx) with hx|hx
 ·exact hA.bd x hx
 ·unfold HJ at hx;simp only[br,da,or_false]at hx;rcases hx with rfl|rfl
  ·unfold Bd;rw[e0,e1];omega
  ·unfold Bd;rw[e0,e1];omega
noncomputable abbrev LR(S:Sl)(c:Sl)(A:KL)(n:Sl)(a4 a5 a6 a7 a8 a9:Sl):ak:=[S,c,.fz (.tup (A.map tupK)),n,a4,a5,a6,a7,a8,a9]
noncomputable abbrev lI:ak->Ou:=ou (qj (fT (aV uL (aV jN (ao 3) (fC (.int 4))) (fC (.int 1)))) (fT (aV uL (fu (aK 0) vG Dr 1 [] (fL (ao 2) asT)) (fA aO qJ)))) (bG (ju 4 (fA (aj (fA (aj (aV iW (fC (.int 3)) (aV eZ (fC (.int 10)) (fC (.int 12)))) (aj (aV iW (aV eZ (fC (.int 10)) (fC (.int 12))) (fC (.int 5))) aO)) gq) (aj (fA (aj (aV iW (fC (.int 5)) (aV eZ (fC (.int 10)) (fC (.int 12)))) (aj (aV iW (aV bF (aV jN (ao 3) (aV eZ (fC (.int 10)) (fC (.int 6)))) (fC (.int 50))) (aV eZ (fC (.int 10)) (fC (.int 12)))) aO)) gq) aO)) qJ))
  (ju 2 (fA (aj (fA (aj (aV bF (fA (aj (ao 2) aO) qO) (ao 4)) aO) mX) aO) jQ))) qu
theorem aad(L:KL):uL (.lst (L.map tupK)) (.lst [])=.ok (.bl (decide (L=[]))):=by
 have hd:fW (.lst (L.map tupK))<=8:=by have:=zY L;simp only[fW];lia
 rw[ahH hd (by decide)];cases L <;> rfl
theorem aae{S c a5 a6 a7 a8 a9 a4:Sl}{A:KL}{m M:Int}(e:jN (.int m) (.int 1000000)=.ok (.int M)):ju 4 (fA (aj (fA (aj (aV iW (fC (.int 3)) (aV eZ (fC (.int 10)) (fC (.int 12)))) (aj (aV iW (aV eZ (fC (.int 10)) (fC (.int 12))) (fC (.int 5))) aO)) gq) (aj (fA (aj (aV iW (fC (.int 5)) (aV eZ (fC (.int 10)) (fC (.int 12)))) (aj (aV iW (aV bF (aV jN (ao 3) (aV eZ (fC (.int 10)) (fC (.int 6)))) (fC (.int 50))) (aV eZ (fC (.int 10)) (fC (.int 12)))) aO)) gq) aO)) qJ) (LR S c A (.fz (.int m)) a4 a5 a6 a7 a8 a9)=.nx (LR S c A (.fz (.int m)) (.fz (.lst ((HJ M).map tupK))) a5 a6 a7 a8 a9) :=
 oE (eO (aC (eO (aC (bf bT (bf bT bT MK) lV) (aC (bf (bf bT bT MK) bT lV) aX)) (t2 _ _)) (aC (eO (aC (bf bT (bf bT bT MK) lV) (aC (bf (bf (bf (aq rfl) (bf bT bT p6) e) bT cI) (bf bT bT MK) lV) aX)) (t2 _ _)) aX)) (Fe (by simp)))
theorem HD{S c n a4 a5 a6 a7 a8 a9:Sl}{A:KL}(hA:yF A):fu (aK 0) vG Dr 1 [] (fL (ao 2) asT) (LR S c A n a4 a5 a6 a7 a8 a9)=.ok (.lst ((A.filter fun x=>decide (c0 x < 9 - 1000000000000)).map tupK)):=by have la:=hA.le;refine Aa (cs:=[]) rfl (v_l (aq rfl) rfl) (fun k hk=>?_) (fun k hk=>rfl) (by omega);obtain⟨u,v,rfl⟩:=hA.st.pr k hk;unfold vG;exact jE (bf (bf (aq rfl) bT rfl) (bf bT (bf bT bT MK) lV) Fi)
theorem agw{S c a4 a5 a6 a7 a8 a9:Sl}{A:KL}(hA:yF A)(l:A.length<=90)(m:Int):∃(A':KL) (b4:Sl),lI (LR S c A (.fz (.int m)) a4 a5 a6 a7 a8 a9)=.nx (LR S c A' (.fz (.int m)) b4 a5 a6 a7 a8 a9)/\yF A':=by
 have md:=uM (m:=m) (n:=4) (by decide);generalize m % 4=r at md;have q:=qw (m:=r) (n:=1);cases h:decide (r=1) with
 |false =>
  rw[h]at q;exact⟨A,a4,bV (rM (jE (bf (bf (aq rfl) bT md) bT q))) iG,hA⟩
 |true =>
  rw[h]at q;have e:=aad (A.filter fun x=>decide (c0 x < 9 - 1000000000000));cases hf:decide ((A.filter fun x=>decide (c0 x < 9 - 1000000000000))=[]) with
  |false =>
   rw[hf]at e;exact⟨A,a4,bV (rN (jE (bf (bf (aq rfl) bT md) bT q)) (jE (bf (HD hA) (eO aX (Fe (by simp))) e))) iG,hA⟩
  |true =>
   rw[hf]at e;have mm:=uM (m:=m) (n:=1000000) (by decide);have u0:0<=m % 1000000:=gp _ (by decide);have u1:m % 1000000 < 1000000:=i0 _ (by decide);generalize m % 1000000=M at mm u0 u1;have hc:=aac hA l ⟨u0,u1⟩ (of_decide_eq_true hf);have pr:∀x∈A++HJ M,Pair x:=fun x hx=>hc.st.pr x (fU.mpr hx);refine⟨bH (A++HJ M),.fz (.lst ((HJ M).map tupK)),gU (rN (jE (bf (bf (aq rfl) bT md) bT q)) (jE (bf (HD hA) (eO aX (Fe (by simp))) e))) (aN (aae mm) ?_),hc⟩;have pl:bF (.lst (A.map tupK)) (.lst ((HJ M).map tupK))=.ok (.lst ((A++HJ M).map tupK)):=by rw[j6];exact zL (by rw[cw,cw];show A.length + 2<=1000000;omega)
   have ls:(A++HJ M).length<=1000:=by rw[dy];show A.length + 2<=1000;omega
   exact oE (eO (aC (eO (aC (bf (eO (aC (aq rfl) aX) rfl) (aq rfl) pl) aX) (Hx pr ls)) aX) rfl)
theorem aea{ρ:ak}{i n:Nat}{g:List D->Rs (List D)}{fs:ak->Rs (List D)}{ds es:List D}(h1:fs ρ=.ok ds)(hl:ds.length=n)(h2:g ds=.ok es):Gv i n g fs ρ=.nx (ρ.set i (.ow es)):=by unfold Gv;rw[h1];simp only[Pn];rw[if_pos hl,h2]
theorem aaV{A:KL}(hA:yF A){r:KL}(hr:r∈rws A A (fun x=>x∈A)){S c A2 n a4 a6 a7:Sl}:∀(L:KL) (a9:Sl),(∀x∈L,x∈r)->∃b9,cL (aK 9) vH (L.map tupK) [S,c,A2,n,a4,.fz (sh A false),a6,a7,.fz (cM r),a9]=.nx [S,c,A2,n,a4,.fz (sh A false),a6,a7,.fz (cM r),b9]
 | [],a9,_=>⟨a9,rfl⟩
 |x::L,a9,h=>by
  obtain⟨b9,e2⟩:=aaV hA hr (S:=S) (c:=c) (A2:=A2) (n:=n) (a4:=a4) (a6:=a6) (a7:=a7) L (.fz (tupK x)) (fun y hy=>h y (.tail _ hy));have st:vH [S,c,A2,n,a4,.fz (sh A false),a6,a7,.fz (cM r),.fz (tupK x)]=.nx [S,c,A2,n,a4,.fz (sh A false),a6,a7,.fz (cM r),.fz (tupK x)]:=by unfold vH;exact bV (zK (t:=true) (jE (eO (aC (eO (aC (aq rfl) (aC (aq rfl) aX)) (gj rfl (Qd hA hr (h x (.head _))))) (aC (aq rfl) aX)) (gj rfl (HB 2 (sW hA.st r hr).1.pr (WX hA hr)))))) iG
  refine⟨b9,?_⟩;rw[bX];exact bM rfl st e2
theorem aaW{A:KL}(hA:yF A){S c A2 n a4 a6 a7:Sl}:∀(R:List KL) (a8 a9:Sl),(∀r∈R,r∈rws A A (fun x=>x∈A))->∃b8 b9,cL (aK 8) vI (R.map cM) [S,c,A2,n,a4,.fz (sh A false),a6,a7,a8,a9]=.nx [S,c,A2,n,a4,.fz (sh A false),a6,a7,b8,b9]
 | [],a8,a9,_=>⟨a8,a9,rfl⟩
 |r::R,a8,a9,h=>by
  obtain⟨b9,e1⟩:=aaV hA (h r (.head _)) (S:=S) (c:=c) (A2:=A2) (n:=n) (a4:=a4) (a6:=a6) (a7:=a7) r a9 (fun x hx=>hx);obtain⟨c8,c9,e2⟩:=aaW hA (S:=S) (c:=c) (A2:=A2) (n:=n) (a4:=a4) (a6:=a6) (a7:=a7) R (.fz (cM r)) b9 (fun s hs=>h s (.tail _ hs));have st:vI [S,c,A2,n,a4,.fz (sh A false),a6,a7,.fz (cM r),a9]=.nx [S,c,A2,n,a4,.fz (sh A false),a6,a7,.fz (cM r),b9]:=by unfold vI;exact adB (v_l (aq rfl) rfl) e1
  refine⟨c8,c9,?_⟩;rw[bX];exact bM rfl st e2
theorem aaf(c:Int){S a2 a3 a4 a5 a6 a7 a8 a9:Sl}:∃b2 b3 b4 b5 b6 b7 b8 b9,vJ [S,.fz (.int c),a2,a3,a4,a5,a6,a7,a8,a9]=.nx [S,.fz (.int c),b2,b3,b4,b5,b6,b7,b8,b9]:=by
 obtain⟨n,e0⟩:=adQ c 1 ⟨by decide,by decide⟩;obtain⟨A0,m,e1,hA0,l0⟩:=ZP n;obtain⟨A,b4,e2,hA⟩:=agw hA0 l0 m (S:=S) (c:=.fz (.int c)) (a4:=a4) (a5:=a5) (a6:=a6) (a7:=a7) (a8:=a8) (a9:=a9);have e3:=WR hA;have e4:=Nf hA;have e5:=Qe hA;have e6:yU gM [sh A false]=.ok (.lst ((rws A A (fun x=>x∈A)).map cM)):=by unfold yU;rw[e4]
 have lr:=sZ (A:=A) (T:=A) (P:=fun x=>x∈A);have la:=hA.le;obtain⟨b8,b9,e7⟩:=aaW hA (S:=S) (c:=.fz (.int c)) (A2:=.fz (.tup (A.map tupK))) (n:=.fz (.int m)) (a4:=b4) (a6:=.fz (.lst ((rws A A (fun x=>x∈A)).map cM))) (a7:=.ow ((rws A A (fun x=>x∈A)).map cM++[.tup []])) (rws A A (fun x=>x∈A)) a8 a9 (fun r hr=>hr);refine⟨.fz (.tup (A.map tupK)),.fz (.int m),b4,.fz (sh A false),.fz (.lst ((rws A A (fun x=>x∈A)).map cM)),.ow ((rws A A (fun x=>x∈A)).map cM++[.tup []]),b8,b9,?_⟩;have ln:((rws A A (fun x=>x∈A)).map cM).length<=100:=by rw[cw];omega
 generalize (rws A A (fun x=>x∈A)).map cM=RD at *;unfold vJ;refine aN (ρ1:=LR S (.fz (.int c)) A0 (.fz (.int m)) a4 a5 a6 a7 a8 a9) (jT (eO (aC (eO (aC (aq rfl) (aC bT aX)) (gj rfl e0)) aX) (gj rfl e1)) rfl) ?_;refine aN e2 ?_;refine aN (ρ1:=LR S (.fz (.int c)) A (.fz (.int m)) b4 (.fz (sh A false)) a6 a7 a8 a9) (oE (eO (aC (aq rfl) (aC bT aX)) (t2 _ _))) ?_;refine aN (ρ1:=LR S (.fz (.int c)) A (.fz (.int m)) b4 (.fz (sh A false)) (.fz (.lst RD)) a7 a8 a9) (oE (eO (aC (aq rfl) (aC bT aX)) (gj rfl e3))) ?_;refine aN (ρ1:=LR S (.fz (.int c)) A (.fz (.int m)) b4 (.fz (sh A false)) (.fz (.lst RD)) (.ow RD) a8 a9) (aea (aC (aq rfl) aX) rfl e4) ?_;refine aN (bV (zK (t:=true) (Dy rfl (jE (eO (aC (aq rfl) (aC (aq rfl) aX)) (gj rfl e5))))) iG) ?_;refine aN (ρ1:=LR S (.fz (.int c)) A (.fz (.int m)) b4 (.fz (sh A false)) (.fz (.lst RD)) (.ow (RD++[.tup []])) a8 a9) (aaU rfl (eO aX (Sh (by simp))) (by omega)) ?_;refine aN (ug (aq rfl) e7) ?_;exact bV (zK (t:=true) (jE (eO (aC (eO (aC (aq rfl) aX) (gj rfl e6)) (aC (aq rfl) aX)) (gj rfl e5)))) iG
theorem WY{ns:List Int}{a c:Option Int}:∃ms:List Int,yL (ns.map D.int) a c=ms.map D.int/\ms.length<=ns.length:=by
 have h:∀d∈yL (ns.map D.int) a c,∃x:Int,d=.int x:=fun d hd=>by unfold yL at hd;obtain⟨x,_,rfl⟩:=dt.mp (vE (oC hd));exact⟨x,rfl⟩
 have l:(yL (ns.map D.int) a c).length<=ns.length:=by unfold yL;rw[jn,mI,cw];omega
 generalize yL (ns.map D.int) a c=ds at h l;refine⟨ds.map fun d=>match d with|.int x=>x|_=>0,?_,by rw[cw];exact l⟩;rw[gr];refine(List.map_id ds).symm.trans (nv fun d hd=>?_);obtain⟨x,rfl⟩:=h d hd;rfl
theorem ais{f:ak->Rs D}{lo hi:ak->Rs (Option Int)}{ρ:ak}{ds:List D}{a c:Option Int}(hf:f ρ=.ok (.lst ds))(hl:lo ρ=.ok a)(hh:hi ρ=.ok c):fSl f lo hi ρ=.ok (.lst (yL ds a c)):=by unfold fSl;rw[hf];show(lo ρ).bind _=_;rw[hl];show(hi ρ).bind _=_;rw[hh];rfl
theorem Xa(ns:List Int)(hn:ns.length<=63):MJ [.lst (ns.map D.int)]=.ok (.bl true):=by
 obtain⟨c0',ec0⟩:=adZ ns 0;obtain⟨ms,em,lm⟩:=WY (ns:=ns) (a:=some 1) (c:=some 7)
 let S:Sl:=.fz (.lst (ns.map D.int))
 obtain⟨ρ1,e1,b1,b2,b3,b4,b5,b6,b7,b8,b9,rfl⟩:=xX (h:=aK 1) (g:=vJ) D.int (fun done ρ=>∃b1 b2 b3 b4 b5 b6 b7 b8 b9,ρ=[S,b1,b2,b3,b4,b5,b6,b7,b8,b9]) (L:=c0'::ms) (ρ:=[S,.no,.no,.no,.no,.no,.no,.no,.no,.no]) ⟨_,_,_,_,_,_,_,_,_,rfl⟩ (by
  rintro c done ρ hc hd ⟨b1,b2,b3,b4,b5,b6,b7,b8,b9,rfl⟩;obtain⟨c2,c3,c4,c5,c6,c7,c8,c9,e⟩:=aaf c (S:=S) (a2:=b2) (a3:=b3) (a4:=b4) (a5:=b5) (a6:=b6) (a7:=b7) (a8:=b8) (a9:=b9);exact⟨_,_,rfl,e,_,_,_,_,_,_,_,_,_,rfl⟩)
 have it:aV bF (fA (aj (fA (aj (ao 0) (aj (fC (.int 0)) aO)) (bU 2 fM)) aO) qJ) (fSl (ao 0) (fP (fC (.int 1))) (fP (fC (.int 7)))) [S,.no,.no,.no,.no,.no,.no,.no,.no,.no]=.ok (.lst ((c0'::ms).map D.int)):=by refine bf (eO (aC (eO (aC (aq rfl) (aC bT aX)) (gj rfl ec0)) aX) (Fe (by simp))) (ais (aq rfl) rfl rfl) ?_;rw[em];exact zL (by rw[cw];simp only[ck,eC];omega)
 have run:MF (aY ["script","cell","cells","number","far","shape","due","told","part","spot"] [.lst (ns.map D.int)])=.rt (.bl true):=by unfold MF;exact aN (oF (ug it e1)) (lU bT)
 unfold MJ;rw[run];rfl
end Af
open PySem PySem.W PyProof.Rows
namespace PySem.W.Fast
def tw7484841545750369738:=0
def tw16909159332414799344:=0
def tw557858659030194447:=0
def tw14696104878685179066:=0
def tw1208810358683172741:=0
def tw8045509845115365524:=0
def tw14947317919946397042:=0
def tw5946919416841767896:=0
def tw365112640662305720:=0
def tw3317609923854644915:=0
def tw15775193094004666386:=0
def tw15376921224008352335:=0
def tw4595425104267635522:=0
def tw1368084142492486284:=0
def tw11869942870066924074:=0
def tw17899966709499999849:=0
def tw890238441450565300:=0
def tw7809396500693873139:=0
def tw1475945520884951122:=0
def tw5775982965815400838:=0
def tw17259429291666118129:=0
def tw12268203163764715108:=0
def tw5287773250664836396:=0
def tw10619136108924956665:=0
def tw14375978739295432683:=0
def tw13581641679997574718:=0
def tw12815238311050626199:=0
def tw5277176268698207095:=0
def tw13509784836746994179:=0
def tw13073965677475460225:=0
def tw3234620524270500078:=0
def tw7114404266006011739:=0
def tw12485762681816462583:=0
def tw15496993422981478264:=0
def tw2744675936214288639:=0
def tw14297552638537558778:=0
def tw13839623010074220459:=0
def tw16152038520193816161:=0
def tw11725862975124982437:=0
def tw17345974206394387919:=0
def tw10535897025436499586:=0
def tw12774467836945853719:=0
def tw5200637615574818972:=0
def tw15231617602223147161:=0
def tw14554686970976657782:=0
def tw3301264114329969842:=0
def tw18088301116584837119:=0
def tw3152317500647776893:=0
def tw11420156784066282772:=0
def tw6739453320756576744:=0
def tw13236473659730563550:=0
def tw15920521708350730172:=0
def tw6308809070114906278:=0
def tw8220817223107260457:=0
def tw7376064210777170239:=0
def tw6535781318442263321:=0
def tw1407854255900162254:=0
def tw10848666857308865837:=0
def tw5023739068867526330:=0
def tw658603464061194327:=0
def tw4343335551114592446:=0
def tw2837221262791442548:=0
def tw11929224889318507517:=0
def tw6192034320919304457:=0
def tw13611941395364054554:=0
def tw662345750540928988:=0
def tw2743828170361642022:=0
def tw16055283433192877084:=0
def tw15475654230785082949:=0
def tw11760717380875015913:=0
def tw6415677485964757956:=0
def tw2387360750023361393:=0
def tw5669534221111604495:=0
def tw11371014817355400909:=0
def tw16754715677233588749:=0
def tw4851358223157574064:=0
def tw2376446435666864665:=0
def tw17060437970408333937:=0
def tw4934625889927887449:=0
def tw3668651528042879540:=0
def tw3463390601324045837:=0
def tw2636283162020847961:=0
def tw13812516663196107905:=0
def tw13693495298379345030:=0
def tw1420095589990303877:=0
def tw6991616912019032777:=0
def tw983424763091093250:=0
def tw1593478242853462060:=0
def tw14543423448964737051:=0
def tw592414520436582279:=0
def tw8476034853356923926:=0
def tw6094953746309497498:=0
def tw12200961591487428287:=0
def tw11070988391014871366:=0
def tw16168489793594674240:=0
def tw2844571356066192330:=0
def tw299488744694244288:=0
def tw8537118396842569908:=0
def tw4963413148350517662:=0
def tw1938521272809677308:=0
def tw17781631511519196380:=0
def tw15093013812710746701:=0
def tw16972143463371941123:=0
def tw5259441411048439065:=0
def tw6150450328235533012:=0
def tw11758268607663298779:=0
def tw15567762018130751282:=0
def tw8056808280375638778:=0
def tw9242182618701489619:=0
def tw17626466182263708633:=0
def tw3446960514978605654:=0
def tw13019500471545620642:=0
def tw7773259586107704375:=0
def tw13302752364047556234:=0
def tw16386905824760338788:=0
def tw281798303638407814:=0
def tw8594301213510695607:=0
def tw18301937173839085392:=0
def tw9648412038736932994:=0
def tw14398984640381248565:=0
def tw9219848361719321159:=0
def tw11977781710946193800:=0
def tw5379940506717741426:=0
def tw5739986252127916645:=0
def tw4544540249395560936:=0
def tw12616515145776606019:=0
def tw17715970019671921683:=0
def tw3039503845053704043:=0
def tw9233683668730181510:=0
def tw4227751580586350922:=0
def tw5921985004807220889:=0
def tw14254531989344422866:=0
def tw17744504604536182911:=0
def tw8771538536444025569:=0
def tw511465967993251527:=0
def tw3076295675891749878:=0
def tw2954535256369325920:=0
def tw11658113647138577129:=0
def tw8626692105256850019:=0
def tw126458482698032818:=0
def tw16010167276284380023:=0
def tw17725650072076689814:=0
def tw17949761278808516252:=0
def tw16941992917161429458:=0
def tw3123621259134065543:=0
def tw14315748230841700993:=0
def tw3015773892914641581:=0
end PySem.W.Fast
theorem PySem.Challenge.cw_edgemoss_k68_parts_told_holds : PySem.Challenge.rw_edgemoss_k68_parts_told.Holds := by
 w_on;o_law;k_head;(case hw=>w_witness2)
 k_fill
 refine Vl.acG (l:=PySem.Challenge.rw_edgemoss_k68_parts_told) (k:=7) (v:=Af.MJ) rfl rfl ⟨rfl,by decide,by decide⟩ (fun w h Y=>PySem.W.kIn_of Y) ?L ?V ?F
 case L=>exact fun w=>by kernel_rfl
 case V=>exact Af.Xa
 case F =>
  intro w mg fa h KX G hmg;refine' Af.all_mk KX G hmg ?_ ?_ ?_ ?_ ?_ ?_ ?_ ?_ ?_ ?_ ?_ ?_ ?_ ?_ ?_ ?_ ?_ ?_ ?_ ?_ ?_ ?_ ?_ ?_ ?_ ?_ ?_ ?_ ?_ ?_ ?_ ?_ ?_ ?_ ?_ ?_ ?_ ?_
  all_goals try refine' Vl.Dn.mk ?_ ?_ ?_ ?_
  all_goals try first|k_is|kernel_rfl|k_exc
