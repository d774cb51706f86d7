import PyProof.Rows.All
import Wide.All
import OpenK.AllK
import PySem.Challenge.RW_edgemoss_k33_whole_alike_only_when_moved
open PySem renaming Value->aa,Addr->ab,wpAny_bind->ae,Shared->af,wpAny->ag,model->ah,Expr->ai,wpAny_pure->ar,World->az,Program->aE,Around->a_,eval->ba,cLine->be,Stmt->bj,starEach->bo,SetTable->bq,intKind->bE,mainGlobals->bS,Spec->cf,FuncData->cq,IsTupleKey->cv,Builtin->cy,rawInt->c_,argBest->dk,wpAny_holding->dP,backTo->d6,wpAny_setState_of->d7,sizeLine_eq->d8,holding->ef,pyNext->eA,wpAny_mono->eD,NameKind->eK,swapsWith->fm,compareOp->fx,plainId_quiet->fF,assignEach->f6,codeAny->f7,wpAny_newObj_type->gp,codeAny_builtin->gr,wpAny_rule->gu,wpAny_updateSeq->gx,wpAny_call_entry->gT,foldedSetIterable->hV,binaryOp->hW,mem_of_lookup->hZ,setSearchFrom->ij,sysModules->iq,behindInMarks->iA,wpAny_of_eq->iO,wpAny_tryCatch->i3,backToKw->ja,keywordEach->jb,SetTable->j3,isSubtype_type->j7,argsOk->j8,updateSeq->j9,numAt->ka,Keyword->kd,wpAny_seqItems->ku,wpAny_askSetting->kv,wpAny_isInstance->kx,wpAny_letGo->kz,pyIter->kB,bindL->kD,bindC->kF,wpAny_attempt->kM,bootBuiltins->kR,CmpOp->kU,sliceBounds->kX,attributeBase->k0,Fin->k9,codeAmong->lS,GenState->l4,standAt->l6,wpAny_truthy_bool->l8,swapsWithSole->l9,swappedStores->l_,PassesOwn->md,BindsTo->me,Arguments->mn,callerA->my,wpAny_typeOf->mT,wpAny_specialOf->m9,byScan->nc,setsByText->nv,typeLookup_type->ny,builtinLookup_eq_fast->nz,entryFor->nB,wpAny_setEpoch_of->nE,wpAny_callSpecial?_slot->nI,firstArgMember->nL,seqItems?->n9,tupleKind->oi,wpAny_passesOwn->oj,seqIndex?->ot,codeAny_mono->oy,DictEntry->oz,storeSet->oS,setRelay->o3,wpAny_setField->o_,setFind->pf,wpAny_field->p_,richCompare->qc,letOwnedTupleGo->qk,wpAny_pyIter_list->qo,wpAny_Call_Name_kw->qr,compPost->q8,carriedByValue->si,ofAClassStatement->sj,wpAny_forIn_list->sk,hashByValue->sq,sub_set_self->sC,wpAny_runValue->sD,entryFor_alias->sN,wpAny_pyIter_slot->sP,slotArgs->sQ,wpAny_setEntries_of->sR,wpAny_fieldsOf->sT,setFindIn->tx,tupleKind_room_in1->uv,wpAny_typeNameOfWhole_keyiter->uA,wpAny_typeNameOf_keyiter->uB,wpAny_execs_nil->vn,wpAny_standAt->vt,recursionLimit->vw,seqIndex_of->vy,wpAny_Call_method_late->vz,setAddHashed->xj,pickOrder->xp,wpAny_handled->xw,wpAny_throw->xx,isSubtype_stop->xy,codeAny_extend_loopS->xC,Builtin->xE,wpAny_setField_rec->ya,wpAny_dictEntries->ye,wpAny_dictEpoch->yf
open PySem.W renaming Frag->aw,nsIn->cw,fnOf->dn,codeIn->dt,keepIn->du,mg_of->dy,fnOf->gi,codeHdIn->i4,mg_none_of->i6,keepIn->kc,hideAll->kA,codeIn->mo,OpenLaw->mw,findIn->om,methodObj->qi,nsIn->qB,hideAll_get->vk
open PyProof.Rows renaming Keyed->ax,arrOf->ay,wpS_bind->aI,SortSt->bb,wpS_pure->bg,pendingOf->b_,elem'->dC,seqObj->eM,wpS_mono->eT,wpS_forRange->fw,SortKind->fI,failedOf->fN,wpS_get->il,mirror->iS,wpS_modify->j_,envOfC->kG,seqObj->kQ,AllBare->kS,wpS_lift->lh,setPending->nX,IntsAre->oq,reverseSlice'->px,minRun'->p9,callWith_type1->qq,AllBare->q9,envOfC->q_,boot_sorted->uk,listUpdate_at->xN,get?_update_seq->xS,seqEpoch_at->x4,boot_list->x6,IsTup->x_
open Bool renaming false_eq_true->aS,not_true->dS,not_false->j6,false_and->kT,and_eq_true->k4,and_false->oC,and_true->qE,or_eq_true->rf,or_self->sm,false_ne_true->we,eq_iff_iff->ym
open Nat renaming le_refl->br,ne_of_lt->bP,le_trans->cz,zero_le->eC,lt_of_lt_of_le->eJ,le_of_lt->gL,ne_of_gt->hG,lt_irrefl->ir,lt_succ_of_lt->iE,zero_add->iX,lt_of_le_of_lt->jn,mod_eq_of_lt->j0,pow_succ->k5,mod_lt->mN,add_zero->mP,lt_or_ge->nV,le_succ->ox,add_assoc->pV,mul_assoc->rh,add_mul_mod_self_left->rn,mod_eq_sub_mod->rL,succ_ne_self->sM,max_le->u5,add_mul->va,one_mul->vc,succ_le_succ->vS,le_max_right->v8,min_self->v_,add_mod->wm,pos_of_ne_zero->wo,mul_mod->wq,lt_trans->wt,add_comm->w_,le_add_right->xm,reduceAdd->yo,reduceSub->yy,reduceEqDiff->yz,reduceLeDiff->yA
open PySem.Heap renaming lt_size->bu,get?_push_of_some->bX,SameBut->cS,get?_push_size->dc,get?_update_other->eS,get?_update_self->fy,get?_update_ne->lr,size_push->mI,ExtBut->td,size_update->uj
open List renaming mem_cons->bz,mem_map->b0,length_map->cb,map_cons->ck,range->cn,length_cons->cx,getElem?_map->cE,size_toArray->cK,getElem_mem->dm,mem_cons_self->dA,getElem?_set_ne->dE,mem_cons_of_mem->dQ,map_map->d5,mem_append->d9,getElem?_set_self->d_,getElem?_eq_some_iff->eB,getElem?_eq_getElem->eI,nodup_cons->eQ,length_append->eR,mem_filter->e_,mem_range->fg,mem_append_right->fq,length_nil->fv,getD_eq_getElem?_getD->fE,length->f9,mem_iff_getElem->f_,pairwise_cons->gc,not_mem_nil->gd,find?_cons->gf,mem_map_of_mem->gy,set_cons_zero->gz,Nodup->gE,pairwise_append->gN,set_cons_succ->g9,mem_singleton->g_,Perm->ie,length_eq_zero_iff->ik,length_range->i0,replicate->i7,getElem?_append_right->i8,getElem?_append_left->i9,drop_eq_getElem_cons->jv,foldl_cons->jI,append_assoc->jS,pairwise_iff_getElem->j5,mem_filterMap->kb,length_take->ke,mem_of_getElem?->kg,map_nil->ki,lookup_cons->km,all_eq_true->ko,mem_iff_getElem?->ky,append_nil->kC,perm_append_comm->kK,toArray->kP,take_append_drop->k6,map_append->k7,ext_getElem->k8,filterMap_cons->lT,mem_append_left->l5,getElem?_replicate->mf,getElem?_take_of_lt->mh,take_sublist->ml,length_drop->mv,drop_eq_nil_of_le->mB,lookup_cons_self->mE,mem_of_mem_take->mS,filter_cons->n8,length_pos_iff->n_,getElem?_cons_succ->og,length_replicate->oo,range_succ_eq_map->oB,filterMap_cons_some->oI,map_congr_left->o4,nodup_nil->o5,getD->o6,isEmpty_nil->o9,getElem?_drop->pT,mem_reverse->p7,cons_append->p8,length_filter_le->qf,nil_append->qh,length_set->qs,Pairwise->qA,drop_length->qS,forIn_nil->qV,take_of_length_le->rX,mem_of_mem_drop->r0,getElem_drop->r8,drop_sublist->r_,eraseIdx_cons_succ->sF,length_eraseIdx_of_lt->sL,ext_getElem?->tw,getElem_map->tP,getElem?_take_eq_none->ue,eraseIdx_sublist->uC,erase->uS,of_mem_zip->vx,forIn_cons->wa,lookup->wb,extract_eq_take_drop->w6,map_take->w8,map_drop->w9,map_filterMap->xc,filterMap_cons_none->xf,any_cons->x8,reverse_cons->yb,getElem?_cons_zero->yn,map_eq_nil_iff->yB
open Ne renaming symm->de
open PySem.Obj renaming mapSeq->di,mapFields->pd,data_mapFields->s_,isFreed_of_fields->xv
open Option.some renaming inj->dq
open Array renaming getD->eL,length_toList->fR,getElem?_toList->h_,getElem?_eq_some_iff->ic,size_push->ip,toList_append->iN,getD_eq_getD_getElem?->kH,size_append->lj,forIn_toList->m8,getElem?_eq_getElem->nN,toList_inj->oD,toList_push->rV,replicate->sg,getElem?_eq_none->tf,perm_iff_toList_perm->t9,size_extract->t_,mem_toList_iff->xh,mem_filter->xi
open Int renaming le_trans->eW,le_refl->g7,le_of_lt->g8,emod_nonneg->iL,emod_lt_of_pos->j4,toNat_natCast->mM,not_lt->pS,add_comm->u7,add_assoc->u_,add_sub_cancel->ve
open PySem.Around renaming under_plainId->gS
open PySem.Heap.SameBut renaming refl->iF,update->m_
open PySem.Builtin.Frozenset renaming addrOf->iP,updateFrom->nh,isAnySet->pk,unchanged->tz,differenceUpdate->tJ,difference->tN,sizeOf->xt
open PySem.PassesOwn renaming never->i5
open False renaming elim->i_
open List.Pairwise renaming sublist->kq
open PySem.F renaming called_set->kL,plain_min_loop->lx,plain_max_loop->ly,slot_dict_keyiterator_next->qa,plain_list_iadd->tm,plain_extend_loop->tq,plainAttrs_list->x5,slot_dict_get->x9,entry_min_loop->yi,entry_max_loop->yk
open PySem.Builtin.List renaming listExtendWith->kN,listSameRef->nS,listTooLong->qv,listLengthHint->tj
open List.Perm renaming of_eq->k_,append_left->o8,append_right->xF
open PySem.Value renaming isInt->lz,isInt_shape->lI,scannable->xk
open PySem.SeqAt renaming EqAt->lL
open PySem.Str renaming ofString->nK
open Option renaming map_some->oP,getD_some->oQ,map_eq_some_iff->se,bind_some->u6
open PySem.Walks renaming list->o7
open Prod.mk renaming injEq->rS
open Classical renaming byContradiction->sf,choose->xI
open PySem.Moved renaming trans->sx
open PyProof.Rows.SortSt renaming mk'->ui
open PySem.Builtin.Builtins renaming bindParams->u4
open PySem.Calls renaming callWith_builtin->vE,evalArgs_plain->vF
open Function renaming comp_def->vT
open PyProof.Rows.F renaming plain_set_update_loop->xl
open PySem.Shared renaming TypeIs->xn
open PySem.pickOrder renaming go->xo
open PySem.ItemsOf renaming nil->xD
set_option Elab.async false
set_option linter.all false
set_option maxRecDepth 100000
set_option maxHeartbeats 0
namespace L2
open PySem PySem.Spec PyProof.Rows
abbrev Qc:=Sum Int Str
def akS:Qc->aa->Bool
 | .inl k,v=>lz k v
 | .inr x,v=>aa.isStrOf x v
def ark(w:az):Qc->Int
 | .inl k=>hashInt k
 | .inr x=>hashStr w x
theorem eH:∀{k:Qc}{v:aa},akS k v=true->(∃i t,k=Sum.inl i/\v=aa.int i t)∨(∃x t,k=Sum.inr x/\v=aa.str x t)
 | .inl i,v,h=>by obtain⟨t,e⟩:=lI (k:=i) (v:=v) h;exact .inl ⟨i,t,rfl,e⟩
 | .inr x,v,h=>by obtain⟨t,e⟩:=aa.isStrOf_shape (x:=x) (v:=v) h;exact .inr ⟨x,t,rfl,e⟩
theorem alH(a b:Int):decide ((Sum.inl a:Qc)=Sum.inl b)=(a == b):=by
 by_cases e:a=b
 ·subst e;simp
 ·have h:¬(Sum.inl a:Qc)=Sum.inl b:=fun q=>e (Sum.inl.inj q);rw[decide_eq_false h];exact(beq_eq_false_iff_ne.mpr e).symm
theorem alI(a b:Str):decide ((Sum.inr a:Qc)=Sum.inr b)=decide (a=b):=by
 by_cases e:a=b
 ·subst e;simp
 ·have h:¬(Sum.inr a:Qc)=Sum.inr b:=fun q=>e (Sum.inr.inj q);rw[decide_eq_false h,decide_eq_false e]
theorem alJ(a:Int)(b:Str):decide ((Sum.inl a:Qc)=Sum.inr b)=false:=decide_eq_false (fun q=>nomatch q)
theorem alK(a:Str)(b:Int):decide ((Sum.inr a:Qc)=Sum.inl b)=false:=decide_eq_false (fun q=>nomatch q)
def Zu(prog:aE)(w:az):PySem.KeyKind prog w Qc where
  is:=akS
  hash:=ark w
  inj:=fun v a b ha hb=>by
    rcases eH ha with ⟨i,t,rfl,rfl⟩|⟨x,t,rfl,rfl⟩
    . rcases eH hb with ⟨j,u,rfl,e⟩|⟨y,u,rfl,e⟩
      . injection e with e1 _;rw[e1]
      . exact nomatch e
    . rcases eH hb with ⟨j,u,rfl,e⟩|⟨y,u,rfl,e⟩
      . exact nomatch e
      . injection e with e1 _;rw[e1]
  byValue := fun k v h => by rcases eH h with ⟨i,t,rfl,rfl⟩|⟨x,t,rfl,rfl⟩ <;> rfl
  pyHash:=fun hv h=>by
    rcases eH hv with ⟨i,t,rfl,rfl⟩|⟨x,t,rfl,rfl⟩
    . exact wpAny_pyHash_int h
    . exact wpAny_pyHash_str h
  eqBool:=fun hu hv h=>by
    rcases eH hu with ⟨i,t,rfl,rfl⟩|⟨x,t,rfl,rfl⟩
    . rcases eH hv with ⟨j,u,rfl,rfl⟩|⟨y,u,rfl,rfl⟩
      . rw[alH]at h;exact wpAny_eqBool_int h
      . rw[alJ]at h;exact lL.int_str i t y u _ _ _ _ h
    . rcases eH hv with ⟨j,u,rfl,rfl⟩|⟨y,u,rfl,rfl⟩
      . rw[alK]at h;exact lL.str_int x t j u _ _ _ _ h
      . rw[alI]at h;exact wpAny_eqBool_str h
  «strs»:=fun k x t v h=>by
    rcases eH h with ⟨i,u,rfl,e⟩|⟨y,u,rfl,e⟩
    . exact nomatch e
    . injection e with e1 _
      subst e1;cases v <;> rfl
inductive V where
 |non|bl (b:Bool)|int (i:Int)|str (x:Str)|byt (b:Array UInt8)|flt (b:UInt64)|ref (a:ab)|ty (n:String)
 deriving DecidableEq
def RelV:V->aa->Prop
 | .non,u=>u=aa.none
 | .bl b,u=>u=aa.bool b
 | .int i,u=>∃t,u=aa.int i t
 | .str x,u=>∃t,u=aa.str x t
 | .byt b,u=>∃t,u=aa.bytes b t
 | .flt b,u=>∃t,u=aa.float b t
 | .ref a,u=>u=aa.ref a
 | .ty n,u=>u=aa.type n
abbrev Vals:List V->List aa->Prop:=Paired RelV
theorem Vals.length{xs:List V}{us:List aa}(r:Vals xs us):xs.length=us.length:=Paired.length r
theorem Vals.get:∀{xs:List V}{us:List aa}{i:Nat}{x:V},Vals xs us->xs[i]?=some x->∃u,us[i]?=some u/\RelV x u
 |_,_,_,_,.nil,e=>by simp at e
 |_,_,0,_,.cons r _,e=>by simp at e;subst e;exact⟨_,rfl,r⟩
 |_,_,i + 1,x,.cons _ t,e=>by obtain⟨u,h1,h2⟩:=Vals.get (i:=i) (x:=x) t (by simpa using e);exact⟨u,by simpa using h1,h2⟩
theorem Vals.set{x:V}{u:aa}(r:RelV x u):∀{xs:List V}{us:List aa}(i:Nat),Vals xs us->Vals (xs.set i x) (us.set i u)
 |_,_,_,.nil=>.nil
 |_,_,0,.cons _ t=>.cons r t
 |_,_,i + 1,.cons q t=>.cons q (Vals.set r i t)
theorem Vals.append:∀{xs ys:List V}{us ws:List aa},Vals xs us->Vals ys ws->Vals (xs++ys) (us++ws)
 |_,_,_,_,.nil,s=>s
 |_,_,_,_,.cons r t,s=>.cons r (Vals.append t s)
theorem Vals.take:∀{xs:List V}{us:List aa}(n:Nat),Vals xs us->Vals (xs.take n) (us.take n)
 |_,_,0,_=>.nil
 |_,_,_ + 1,.nil=>.nil
 |_,_,n + 1,.cons r t=>.cons r (Vals.take n t)
theorem Vals.drop:∀{xs:List V}{us:List aa}(n:Nat),Vals xs us->Vals (xs.drop n) (us.drop n)
 |_,_,0,r=>r
 |_,_,_ + 1,.nil=>.nil
 |_,_,n + 1,.cons _ t=>Vals.drop n t
theorem Vals.none_of:∀{xs:List V}{us:List aa}{i:Nat},Vals xs us->xs[i]?=none->us[i]?=none:=fun {xs us i} r e=>by have h1:=r.length;have h2:xs.length<=i:=List.getElem?_eq_none_iff.mp e;exact List.getElem?_eq_none_iff.mpr (by lia)
def aoJ:Option V->Option aa->Prop
 |some v,some u=>RelV v u
 |none,none=>True
 |_,_=>False
def KV{κ:Type}:List (κ×V)->List (κ×aa)->Prop:=Paired fun(p:κ×V) (q:κ×aa)=>p.1=q.1/\RelV p.2 q.2
def kV:Qc->V
 | .inl i=>.int i
 | .inr x=>.str x
inductive HO where
 /-- a list -/
 |lst (xs:List V)
 /-- a tuple (never changes) -/
 |tup (xs:List V)
 /-- a dict whose keys are ints and texts;one whose keys are tuples of ints and texts (the empty one is both) -/
 |dK (kvs:List (Qc×V))|dT (kvs:List (List Qc×V))
 /-- a set of ints: its members,its size -/
 |set (S:Int->Bool) (n:Nat)
 /-- an instance of the class at C,its dict at dx,its attributes -/
 |ins (C dx:ab) (fs:List (Str×V))
 /-- the dict of the instance at x -/
 |own (x:ab)
 /-- the dict of an exception -/
 |xd (fs:List (Str×V))
 /-- a bound method,f of x -/
 |met (f x:ab)
 /-- a range object lo,lo + 1,.. below hi -/
 |rng (lo hi:Int)
 /-- a thing that is known to the object (the script;a dict while a loop walks it): read,never written while it is so -/
 |Ak (o:Obj) (u:HO)
 /-- a code object's table -/
 |tbl (ps:Array aa)
 |tab (q:Str)|Qd (q:Str)
 /-- any other thing,by what is true of its one object (a def of one's own: Cz a S n:=HO.ext fun h=>..) -/
 |ext (φ:Heap->Prop)
abbrev Hp:=ab->Option HO
def upd(H:Hp)(a:ab)(o:HO):Hp:=fun b=>if b=a then some o else H b
theorem bF{H:Hp}{a:ab}{o:HO}:upd H a o a=some o:=by unfold upd;rw[if_pos rfl]
theorem bC{H:Hp}{a b:ab}{o:HO}(h:b≠a):upd H a o b=H b:=by unfold upd;rw[if_neg h]
theorem bH{H:Hp}{a b:ab}{o:HO}(h:H a=some o)(h':H b=none):a≠b:=by intro e;subst e;rw[h]at h';cases h'
section
variable(P:aE)(w:az)
def dY(H:Hp)(h:Heap)(a:ab):HO->Prop
 | .lst xs=>xs.length<=sizeLine/\∃(its:List aa) (n:Nat),Vals xs its/\h.get? a=some { cls:=.type "list",data:=.seq its.toArray n }
 | .tup xs=>xs.length<=sizeLine/\∃its:List aa,Vals xs its/\IsTup h a its.toArray
 | .dK kvs=>kvs.length<=sizeLine/\(a == iq)=false/\∃vs,KV kvs vs/\h.DictOf (Zu P w) a vs
 | .dT kvs=>kvs.length<=sizeLine/\(a == iq)=false/\∃xs:List (List Qc×ab×aa),
   Paired (fun(p:List Qc×V) (q:List Qc×ab×aa)=>p.1=q.1/\H q.2.1=some (.tup (p.1.map kV))/\RelV p.2 q.2.2) kvs xs /\
   ∃o es ep,h.get? a=some o/\o.ExactDict/\o.data=.dict es ep/\es.toList=xs.map (entryOfKey (oi (Zu P w)))/\(xs.map (·.1)).Nodup
 | .set S n=>h.SetOf (bE P w) a S n
 | .ins C dx fs=>H dx=some (.own a)/\fs.length<=1000/\dx≠a/\h.get? a=some (PySem.W.instObj C dx) /\
   ∃mA,h.Ns1 dx mA/\(∀f,aoJ (fs.lookup f) (mA f))/\PySem.Within mA (fs.map (·.1))
 | .own _=>∃o,h.get? a=some o
 | .xd fs=>∃mA,h.Ns1 a mA/\∀f,aoJ (fs.lookup f) (mA f)
 | .rng lo hi=>∃t u v,h.get? a=some { cls:=.type "range",data:=.fields #[.int lo t,.int hi u,.int 1 v] }
 | .Ak o u=>h.get? a=some o/\dY H h a u
 | .tbl ps=>h.get? a=some { cls:=.none,data:=.fields ps }
 | .tab q=>∃ps:Array aa,h.get? a=some { cls:=.none,data:=.fields ps }/\TriplesOk ps.toList/\∀pos v,lS pos ps.toList=some v->∃c,v=.ref c/\H c=some (.Qd q)
 | .Qd q=>∃o vs t,h.get? a=some o/\o.data=.fields vs/\vs[1]?=some (.str q t)
 | .met f x=>h.get? a=some (qi (.ref f) (.ref x))
 | .ext φ=>φ h/\(∃o,h.get? a=some o)/\∀h1 h2:Heap,φ h1->(∀o,h1.get? a=some o->h2.get? a=some o)->φ h2
def yL(H:Hp)(h:Heap):Prop:=∀a o,H a=some o->dY P w H h a o
end
section
variable{P:aE}{w:az}{H H':Hp}{h h':Heap}{a:ab}{o:HO}
theorem dY.lt(x:dY P w H h a o):a < h.objs.size:=by
 cases o with
 |lst xs=>obtain⟨_,_,_,_,e⟩:=x;exact bu e
 |tup xs=>obtain⟨_,_,_,p⟩:=x;exact p.lt
 |dK kvs=>obtain⟨_,_,_,_,o,_,_,e,_⟩:=x;exact bu e
 |dT kvs=>obtain⟨_,_,_,_,o,_,_,e,_⟩:=x;exact bu e
 |set S n=>obtain⟨o,_,_,_,e,_⟩:=x;exact bu e
 |ins C dx fs=>obtain⟨_,_,_,e,_⟩:=x;exact bu e
 |own y=>obtain⟨_,e⟩:=x;exact bu e
 |xd fs=>obtain⟨_,⟨_,_,_,e,_⟩,_⟩:=x;exact bu e
 |rng lo hi=>obtain⟨_,_,_,e⟩:=x;exact bu e
 |Ak ob u=>obtain⟨e,_⟩:=x;exact bu e
 |tbl ps=>exact bu (show h.get? a=some _ from x)
 |tab q=>obtain⟨_,e,_⟩:=x;exact bu e
 |Qd q=>obtain⟨_,_,_,e,_⟩:=x;exact bu e
 |met f y=>exact bu (show h.get? a=some _ from x)
 |ext φ=>obtain⟨_,⟨_,e⟩,_⟩:=x;exact bu e
theorem Paired.alL{α β:Type}{F G:α->β->Prop}:∀{l₁:List α}{l₂:List β},Paired F l₁ l₂->(∀a b,F a b->G a b)->Paired G l₁ l₂
 |_,_,.nil,_=>.nil
 |_,_,.cons r t,f=>.cons (f _ _ r) (Paired.alL t f)
theorem dY.stay(x:dY P w H h a o)(k:∀b u,(b=a∨H b=some (.own a))->h.get? b=some u->h'.get? b=some u)
  (ho:∀b,H b=some (.own a)->H' b=some (.own a)) (ht:∀b xs,H b=some (.tup xs)->H' b=some (.tup xs)) (alM:∀b q,H b=some (.Qd q)->H' b=some (.Qd q)):dY P w H' h' a o:=by
 induction o with
 |lst xs=>obtain⟨z,its,n,r,e⟩:=x;exact⟨z,its,n,r,k _ _ (.inl rfl) e⟩
 |tup xs=>obtain⟨z,its,r,ob,e,c⟩:=x;exact⟨z,its,r,ob,k _ _ (.inl rfl) e,c⟩
 |dK kvs=>obtain⟨z,y,vs,r,ob,es,ep,e,c⟩:=x;exact⟨z,y,vs,r,ob,es,ep,k _ _ (.inl rfl) e,c⟩
 |dT kvs =>
  obtain⟨z,y,xs,r,ob,es,ep,e,c⟩:=x;exact⟨z,y,xs,Paired.alL r fun p q z=>⟨z.1,ht _ _ z.2.1,z.2.2⟩,ob,es,ep,k _ _ (.inl rfl) e,c⟩
 |set S n=>obtain⟨ob,es,ep,t,e,c⟩:=x;exact⟨ob,es,ep,t,k _ _ (.inl rfl) e,c⟩
 |ins C dx fs =>
  obtain⟨d,z,ne,e,mA,⟨od,es,ep,e2,c⟩,r⟩:=x;exact⟨ho _ d,z,ne,k _ _ (.inl rfl) e,mA,⟨od,es,ep,k _ _ (.inr d) e2,c⟩,r⟩
 |own y=>obtain⟨ob,e⟩:=x;exact⟨ob,k _ _ (.inl rfl) e⟩
 |xd fs=>obtain⟨mA,⟨od,es,ep,e,c⟩,r⟩:=x;exact⟨mA,⟨od,es,ep,k _ _ (.inl rfl) e,c⟩,r⟩
 |rng lo hi=>obtain⟨t,u,v,e⟩:=x;exact⟨t,u,v,k _ _ (.inl rfl) e⟩
 |Ak ob u ih=>obtain⟨e,q⟩:=x;exact⟨k _ _ (.inl rfl) e,ih q⟩
 |tbl ps =>
  have e:h.get? a=some { cls:=.none,data:=.fields ps }:=x;show h'.get? a=some { cls:=.none,data:=.fields ps };exact k a _ (.inl rfl) e
 |tab q =>
  obtain⟨ps,e,t,c⟩:=x;exact⟨ps,k _ _ (.inl rfl) e,t,fun pos v z=>let ⟨c',e1,e2⟩:=c pos v z;⟨c',e1,alM _ _ e2⟩⟩
 |Qd q=>obtain⟨o,vs,t,e,r⟩:=x;exact⟨o,vs,t,k _ _ (.inl rfl) e,r⟩
 |met f y =>
  have e:h.get? a=some (qi (.ref f) (.ref y)):=x;show h'.get? a=some (qi (.ref f) (.ref y));exact k a _ (.inl rfl) e
 |ext φ=>obtain⟨p,⟨o,e⟩,st⟩:=x;exact⟨st _ _ p fun o q=>k _ _ (.inl rfl) q,⟨o,k _ _ (.inl rfl) e⟩,st⟩
theorem yL.lt(x:yL P w H h)(e:H a=some o):a < h.objs.size:=(x a o e).lt
theorem yL.fresh(x:yL P w H h)(e:h.objs.size<=a):H a=none:=by
 cases q:H a with
 |none=>rfl
 |some u=>exact absurd (eJ (x.lt q) e) (ir _)
theorem yL.kept(x:yL P w H h)(k:∀b u,h.get? b=some u->h'.get? b=some u):yL P w H h':=fun a o e =>
 (x a o e).stay (fun b u _ q=>k b u q) (fun _ q=>q) (fun _ _ q=>q) fun _ _ q=>q
theorem yL.laid(x:yL P w H h)(k:∀b u,h.get? b=some u->h'.get? b=some u)(hp:h.objs.size<=a)(new:dY P w (upd H a o) h' a o):yL P w (upd H a o) h':=fun b u e=>by
 have hn:=x.fresh hp;by_cases hb:b=a
 ·subst hb;rw[bF]at e;cases e;exact new
 ·rw[bC hb]at e;exact(x b u e).stay (fun c v _ q=>k c v q) (fun c q=>by rw[bC (bH q hn)];exact q) (fun c xs q=>by rw[bC (bH q hn)];exact q) fun c xs q=>by rw[bC (bH q hn)];exact q
end
def Rd(H:Hp)(a:ab)(u:HO):Prop:=H a=some u∨∃o,H a=some (.Ak o u)
theorem Rd.ok{P:aE}{w:az}{H:Hp}{h:Heap}{a:ab}{u:HO}(r:Rd H a u)(x:yL P w H h):dY P w H h a u:=by
 rcases r with r|⟨o,r⟩
 ·exact x a u r
 ·obtain⟨_,q⟩:=x a _ r;exact q
def Mut:Option HO->Prop
 |some (.lst _)=>True
 |some (.dK _)=>True
 |some (.dT _)=>True
 |some (.set _ _)=>True
 |some (.ins _ _ _)=>True
 |some (.ext _)=>True
 |some (.tab _)=>True
 |_=>False
section
variable{P:aE}{w:az}{H:Hp}{h h':Heap}{x e:ab}{o':HO}
theorem yL.write(ok:yL P w H h)(mu:Mut (H x))(he:e=x∨H e=some (.own x))(k:∀b u,b≠e->h.get? b=some u->h'.get? b=some u)(heo:∃u,h'.get? e=some u)
  (new:dY P w (upd H x o') h' x o'):yL P w (upd H x o') h':=fun b u q=>by
 have aoK:∀c y,H c=some (.own y)->c≠x:=fun c y r z=>by subst z;rw[r]at mu;exact mu
 have arn:∀c xs,H c=some (.tup xs)->c≠x:=fun c xs r z=>by subst z;rw[r]at mu;exact mu
 have aro:∀c q,H c=some (.Qd q)->c≠x:=fun c q r z=>by subst z;rw[r]at mu;exact mu
 by_cases hb:b=x
 ·subst hb;rw[bF]at q;cases q;exact new
 ·rw[bC hb]at q;by_cases hbe:b=e
  ·have q':H b=some (.own x):=by
    rcases he with z|z
    ·exact absurd (hbe.trans z) hb
    ·rw[hbe];exact z
   rw[q]at q';cases q';obtain⟨v,hv⟩:=heo;exact⟨v,by rw[hbe];exact hv⟩
  ·refine(ok b u q).stay (fun c v hc r=>k c v ?_ r) (fun c r=>by rw[bC (aoK c b r)];exact r) (fun c xs r=>by rw[bC (arn c xs r)];exact r) fun c q r=>by rw[bC (aro c q r)];exact r
   rcases hc with rfl|hc
   ·exact hbe
   ·rintro rfl;rcases he with z|z
    ·exact aoK c b hc z
    ·rw[hc]at z;cases z;exact hb rfl
end
structure Un (fs ex:List ab)(H H':Hp)(h h':Heap):Prop where
 keep:∀b o,h.get? b=some o->H b=none->b∉fs->b∉ex->h'.get? b=some o
 slot:∀b o,h.get? b=some o->H b=none->b∈fs->b∉ex->∃sl,h'.get? b=some { o with slots:=sl }
 free:∀b o,h.get? b=some o->H b=none->b∉ex->H' b=none
 there:∀b o,h.get? b=some o->b∉ex->∃o',h'.get? b=some o'
 tups:∀b xs,H b=some (.tup xs)->H' b=some (.tup xs)
 CG:∀b o u,H b=some (.Ak o u)->H' b=some (.Ak o u)
 Gd:∀b ps,H b=some (.tbl ps)->∃more,H' b=some (.tbl (ps++more))
section
variable{fs fs' ex ex':List ab}{H H1 H2:Hp}{h h1 h2 h':Heap}{a x e:ab}{o:HO}
theorem Un.any(u:Un fs ex H H1 h h1){b:ab}{ob:Obj}(q:h.get? b=some ob)(n:H b=none)(hx:b∉ex):∃sl,h1.get? b=some { ob with slots:=sl }:=by
 by_cases hb:b∈fs
 ·exact u.slot b ob q n hb hx
 ·exact⟨ob.slots,u.keep b ob q n hb hx⟩
theorem Un.kept(k:∀b u,h.get? b=some u->h'.get? b=some u):Un fs ex H H h h' :=
 ⟨fun b ob q _ _ _=>k b ob q,fun b ob q _ _ _=>⟨ob.slots,k b ob q⟩,fun _ _ _ n _=>n,fun b ob q _=>⟨ob,k b ob q⟩,fun _ _ q=>q,fun _ _ _ q=>q,fun _ ps q=>⟨#[],by rw[q];simp⟩⟩
theorem Un.refl:Un fs ex H H h h:=Un.kept fun _ _ q=>q
theorem Un.laid(k:∀b u,h.get? b=some u->h'.get? b=some u)(hp:h.objs.size<=a)(hn:H a=none):Un fs ex H (upd H a o) h h' where
 keep:=fun b u q _ _ _=>k b u q
 slot:=fun b u q _ _ _=>⟨u.slots,k b u q⟩
 free:=fun b u q n _=>by rw[bC (bP (eJ (bu q) hp))];exact n
 there:=fun b u q _=>⟨u,k b u q⟩
 tups:=fun b xs q=>by rw[bC (bH q hn)];exact q
 CG:=fun b u xs q=>by rw[bC (bH q hn)];exact q
 Gd:=fun b ps q=>⟨#[],by rw[bC (bH q hn),q];simp⟩
theorem Un.write(mu:Mut (H x))(he:e=x∨H e=some (.own x))(k:∀b u,b≠e->h.get? b=some u->h'.get? b=some u)(heo:∃u,h'.get? e=some u):Un fs ex H (upd H x o) h h':=by
 have hx:∀b,H b=none->b≠x:=fun b n z=>by subst z;rw[n]at mu;exact mu
 have hb:∀b,H b=none->b≠e:=fun b n z=>by
  subst z;rcases he with r|r
  ·exact hx b n r
  ·rw[n]at r;cases r
 have hm:∀b u,H b=some u->¬Mut (some u)->b≠x:=fun b u q nm z=>by subst z;rw[q]at mu;exact nm mu
 refine⟨fun b u q n _ _=>k b u (hb b n) q,fun b u q n _ _=>⟨u.slots,k b u (hb b n) q⟩,fun b u q n _=>by rw[bC (hx b n)];exact n,fun b u q _=>?_,
  fun b xs q=>by rw[bC (hm b _ q fun z=>z)];exact q,fun b u xs q=>by rw[bC (hm b _ q fun z=>z)];exact q,fun b ps q=>⟨#[],by rw[bC (hm b _ q fun z=>z),q];simp⟩⟩
 by_cases hbe:b=e
 ·subst hbe;exact heo
 ·exact⟨u,k b u hbe q⟩
end
def trk(h:Heap)(H:Hp):List ab:=(cn h.objs.size).filter fun a=>(H a).isSome
def JD(h:Heap)(H:Hp):Heap:=kA h (trk h H)
theorem aaT(h:Heap)(H:Hp):(JD h H).objs.size=h.objs.size:=PySem.W.hideAll_size _ _
theorem acU{h:Heap}{H:Hp}{b:ab}{o:Obj}(e:h.get? b=some o)(n:H b=none):(JD h H).get? b=some o :=
 vk _ e fun hm=>by have q:(H b).isSome=true:=(e_.mp hm).2;rw[n]at q;simp at q
theorem ahN{h:Heap}{H:Hp}{b:ab}{o:Obj}(e:(JD h H).get? b=some o):h.get? b=some o/\H b=none:=by
 have e':h.get? b=some o:=PySem.W.of_hideAll (trk h H) e;refine⟨e',?_⟩;cases q:H b with
 |none=>rfl
 |some x =>
  have hm:b∈trk h H:=e_.mpr ⟨fg.mpr (bu e'),by simp[q]⟩;have z:(JD h H).get? b=none:=PySem.W.hideAll_none (trk h H) hm;rw[z]at e;cases e
def Zv(g h:Heap)(L:ab):List (ab×Obj):=(cn h.objs.size).filterMap fun a=>if a=L∨(g.get? a).isSome=true then none else (h.get? a).map fun o=>(a,o)
theorem Qf{g h:Heap}{L a:ab}{o:Obj}(h1:a≠L)(h2:g.get? a=none)(h3:h.get? a=some o):(a,o)∈Zv g h L :=
 kb.mpr ⟨a,fg.mpr (bu h3),by simp[h1,h2,h3]⟩
def rest(g h:Heap)(L d:ab):List (ab×Obj):=(Zv g h L).filter fun p=>decide (p.1≠d)
theorem CJ{g h:Heap}{L d a:ab}{o:Obj}(h1:a≠L)(h2:g.get? a=none)(h3:h.get? a=some o)(h4:a≠d):(a,o)∈rest g h L d :=
 e_.mpr ⟨Qf h1 h2 h3,decide_eq_true h4⟩
structure Mod (K:aw)(mg:Str->Option aa)(base:Heap):Prop where
 kin:K.In base
 glob:base.Ns bS mg
 blt:∃mb,base.Ns builtinsNs mb/\∀x:Str,x≠"__name__"->mb x=kR x
 nolimit:base.NoLimit
 bm:∃bm ob,mg "__builtins__"=some (.ref bm)/\bm≠builtinsNs/\base.get? bm=some ob/\ob.cls=.type "module"/\ob.dict=some builtinsNs/\ob.data=.plain
structure Cx where
 prog:aE
 w:az
 K:aw
 mg:Str->Option aa
 base:Heap
 A:a_
 N:List Str
 s₀:af
 H₀:Hp
 env:Env
 outer:List Env
 stack:List Env
 ex:List ab
 fn:Str->Bool
 calm:Bool
 pn:List (ab×Obj)
 xe:aa->af->Prop
def pP(l:List Env):List ab:=l.filterMap (·.frame)
abbrev Cx.fs(X:Cx):List ab:=pP X.outer
def Vis(sc:Scope)(x:Str):Prop:=sc.names.lookup x=some .local∨sc.names.lookup x=some .cell∨sc.names.lookup x=some .free
def Wm(sc:Scope)(x:Str):Prop:=sc.names.lookup x=some .local∨sc.names.lookup x=some .cell
def arp(env:Env)(h:Heap)(m:Str->Option aa)(x:Str)(u:aa):Prop :=
 (env.kindOf x=some .local/\m x=some u)∨((env.kindOf x=some .cell∨env.kindOf x=some .free)/\∃c,env.cells.lookup x=some c/\h.IsCell c (some u))
structure Cx.Ok (X:Cx):Prop where
 mod:Mod X.K X.mg X.base
 kind:X.env.scope.kind=.function
 glob:X.env.globals=bS
 blt:X.env.builtins=builtinsNs
 above:X.s₀.heap.objs.size<=X.env.locals
 inj:∀x y c,X.env.cells.lookup x=some c->X.env.cells.lookup y=some c->x=y
 has:∀x,(X.env.kindOf x=some .cell∨X.env.kindOf x=some .free)->∃c,X.env.cells.lookup x=some c
 cab:∀x c,X.fn x=true->X.env.cells.lookup x=some c->X.s₀.heap.objs.size<=c
 hd:X.calm=true->X.A.handled=none
 frames:X.A.frames=some X.stack
 stk:X.stack=X.outer∨(X.stack=X.env::X.outer/\X.env.frame=some X.env.locals)
 exf:∀b∈X.ex,b≠X.env.locals/\∀x c,X.env.cells.lookup x=some c->c≠b
 bs:∀b o,X.base.get? b=some o->X.s₀.heap.get? b=some o/\X.H₀ b=none
 bsz:X.base.objs.size<=X.s₀.heap.objs.size
 aaV:∀b o,X.base.get? b=some o->b∉X.ex
 ahP:∀b∈X.ex,b∉X.fs
 CK:X.s₀.heap.FunFrames X.base X.outer
 frf:∀b∈X.fs,X.H₀ b=none
structure Inv (X:Cx)(pins:List (ab×Obj))(σ:List (Option V))(H:Hp)(s:af):Prop where
 ok:X.Ok
 os:s.os=X.s₀.os
 bare:kS s.gens
 base:Un X.fs X.ex X.H₀ H X.s₀.heap s.heap
 loc:∃m,s.heap.Ns X.env.locals m/\∀(i:Nat) (x:Str) (v:V),X.N[i]?=some x->σ[i]?=some (some v)->Vis X.env.scope x->∃u,RelV v u/\arp X.env s.heap m x u
 cell:∀x c,X.env.cells.lookup x=some c->∃v,s.heap.IsCell c v
 free:H X.env.locals=none
 rH:∀x c,X.env.cells.lookup x=some c->H c=none
 pin:∀p∈X.pn++pins,s.heap.get? p.1=some p.2/\H p.1=none/\p.1≠X.env.locals/\p.1∉X.fs/\∀v,p.2.data≠.cell v
 hok:yL X.prog X.w H s.heap
 len:σ.length=X.N.length
section
variable{X:Cx}{pins:List (ab×Obj)}{σ:List (Option V)}{H H':Hp}{s:af}{h':Heap}
theorem Cx.Ok.arq(ok:X.Ok){b:ab}{o:Obj}(e:X.base.get? b=some o):b∉X.fs:=fun hb=>by have:=(ok.CK.mem hb).1;rw[e]at this;cases this
theorem Inv.bs(I:Inv X pins σ H s):∀b o,X.base.get? b=some o->s.heap.get? b=some o/\H b=none:=fun b o e =>
 ⟨I.base.keep b o (I.ok.bs b o e).1 (I.ok.bs b o e).2 (I.ok.arq e) (I.ok.aaV b o e),I.base.free b o (I.ok.bs b o e).1 (I.ok.bs b o e).2 (I.ok.aaV b o e)⟩
theorem Inv.bk(I:Inv X pins σ H s):∀b o,X.base.get? b=some o->s.heap.get? b=some o:=fun b o e=>(I.bs b o e).1
theorem Inv.mod(I:Inv X pins σ H s):Mod X.K X.mg X.base:=I.ok.mod
theorem Inv.kIn(I:Inv X pins σ H s):X.K.In s.heap:=I.ok.mod.kin.keeps I.bk
theorem Inv.lt(I:Inv X pins σ H s):X.env.locals < s.heap.objs.size:=let ⟨_,hn,_⟩:=I.loc;hn.lt
theorem Inv.sz(I:Inv X pins σ H s):X.s₀.heap.objs.size<=s.heap.objs.size:=cz I.ok.above (gL I.lt)
theorem Inv.acV(I:Inv X pins σ H s){a:ab}(h:s.heap.objs.size<=a):a∉X.fs:=fun hb=>by obtain⟨_,o,ho,_⟩:=I.ok.CK.mem hb;exact absurd (eJ (bu ho) (cz I.sz h)) (ir _)
theorem Inv.cne(I:Inv X pins σ H s):∀x c,X.env.cells.lookup x=some c->c≠X.env.locals:=fun x c e z=>by obtain⟨v,o,ho,hd⟩:=I.cell x c e;obtain⟨m,⟨o',es,ep,ho',hd',_⟩,_⟩:=I.loc;rw[z,ho']at ho;cases ho;rw[hd']at hd;cases hd
theorem Inv.CK(I:Inv X pins σ H s):s.heap.FunFrames X.base X.outer:=by
 have all:∀(l:List Env),(∀b∈pP l,b∈X.fs)->X.s₀.heap.FunFrames X.base l->s.heap.FunFrames X.base l:=by
  intro l
  induction l with
  |nil=>intro _ _;trivial
  |cons env r ih =>
   intro hs hl;obtain⟨hk,⟨L,o,hf,hn,ho,hd⟩,hr⟩:=hl;have hL:L∈X.fs:=hs L (by unfold pP;rw[lT,hf];exact dA);obtain⟨sl,e⟩:=I.base.slot L o ho (I.ok.frf L hL) hL fun z=>I.ok.ahP L z hL;exact⟨hk,⟨L,_,hf,hn,e,hd⟩,ih (fun b hb=>hs b (by unfold pP;rw[lT,hf];exact dQ _ hb)) hr⟩
 exact all X.outer (fun _ hb=>hb) I.ok.CK
theorem Inv.stack(I:Inv X pins σ H s):s.heap.FunFrames X.base X.stack:=by
 rcases I.ok.stk with e|⟨e,hf⟩
 ·rw[e];exact I.CK
 ·rw[e];obtain⟨m,hn,_⟩:=I.loc;refine .cons (by rw[I.ok.kind];decide) hf hn ?_ I.CK;exact Heap.get?_none_of_le (cz I.ok.bsz I.ok.above)
theorem Inv.vB(I:Inv X pins σ H s):∀b∈pP X.stack,b∈X.env.locals::X.fs:=fun b hb=>by
 rcases I.ok.stk with e|⟨e,hf⟩
 ·rw[e]at hb;exact dQ _ hb
 ·rw[e]at hb;unfold pP at hb;rw[lT,hf]at hb;exact hb
theorem Inv.Ca(I:Inv X pins σ H s):∀b∈pP X.stack,H b=none:=fun b hb=>by
 rcases bz.mp (I.vB b hb) with e|hb
 ·rw[e];exact I.free
 ·obtain⟨_,o,ho,_⟩:=I.ok.CK.mem hb;exact I.base.free b o ho (I.ok.frf b hb) fun z=>I.ok.ahP b z hb
theorem Inv.step{g':Array l4}{t':Nat}{d':Drawn}{ch:List ab}(I:Inv X pins σ H s)
  (hch:∀b∈ch,(b∈X.ex∨X.s₀.heap.objs.size<=b)/\b≠X.env.locals/\(∀x c,X.env.cells.lookup x=some c->c≠b)/\∀p∈X.pn++pins,p.1≠b)
  (keep:∀b o,b≠X.env.locals->b∉X.fs->b∉ch->s.heap.get? b=some o->H b=none->h'.get? b=some o)
  (slot:∀b o,b≠X.env.locals->b∈X.fs->b∉ch->s.heap.get? b=some o->H b=none->∃sl,h'.get? b=some { o with slots:=sl }) (free:∀b o,b∉ch->s.heap.get? b=some o->H b=none->H' b=none)
  (there:∀b o,b∉ch->s.heap.get? b=some o->∃o',h'.get? b=some o')
  (tups:∀b xs,H b=some (.tup xs)->H' b=some (.tup xs)) (CG:∀b o u,H b=some (.Ak o u)->H' b=some (.Ak o u)) (Gd:∀b ps,H b=some (.tbl ps)->∃more,H' b=some (.tbl (ps++more)))
  (ns:∀m,s.heap.Ns X.env.locals m->h'.Ns X.env.locals m) (hok:yL X.prog X.w H' h') (hg:kS g') :
  Inv X pins σ H' { s with heap:=h',gens:=g',drawn:=d',toks:=t' }:=by
 have neL:∀b o,X.s₀.heap.get? b=some o->b≠X.env.locals:=fun b o e=>bP (eJ (bu e) I.ok.above);have neC:∀b o,X.s₀.heap.get? b=some o->b∉X.ex->b∉ch:=fun b o e hx hb=>by
  rcases(hch b hb).1 with z|z
  ·exact hx z
  ·exact absurd (eJ (bu e) z) (ir _)
 have cellK:∀x c,X.env.cells.lookup x=some c->∀v,s.heap.IsCell c v->h'.IsCell c v:=fun x c e v ⟨o,ho,hd⟩=>by
  have nch:c∉ch:=fun z=>(hch c z).2.2.1 x c e rfl;by_cases hc:c∈X.fs
  ·obtain⟨sl,q⟩:=slot c o (I.cne x c e) hc nch ho (I.rH x c e);exact⟨_,q,hd⟩
  ·exact⟨o,keep c o (I.cne x c e) hc nch ho (I.rH x c e),hd⟩
 refine⟨I.ok,I.os,hg,⟨fun b o e n hb hx=>?_,fun b o e n hb hx=>?_,fun b o e n hx=>?_,fun b o e hx=>?_,fun b xs e=>tups b xs (I.base.tups b xs e),fun b o xs e=>CG b o xs (I.base.CG b o xs e),fun b ps e=>?_⟩,?_,fun x c e=>?_,?_,fun x c e=>?_,fun p hp=>?_,hok,I.len⟩
 ·exact keep b o (neL b o e) hb (neC b o e hx) (I.base.keep b o e n hb hx) (I.base.free b o e n hx)
 ·obtain⟨sl,e1⟩:=I.base.slot b o e n hb hx;obtain⟨sl',e2⟩:=slot b _ (neL b o e) hb (neC b o e hx) e1 (I.base.free b o e n hx);exact⟨sl',e2⟩
 ·obtain⟨o',e1⟩:=I.base.there b o e hx;exact free b o' (neC b o e hx) e1 (I.base.free b o e n hx)
 ·obtain⟨o',e1⟩:=I.base.there b o e hx;exact there b o' (neC b o e hx) e1
 ·obtain⟨m1,e1⟩:=I.base.Gd b ps e;obtain⟨m2,e2⟩:=Gd b _ e1;exact⟨m1++m2,by rw[e2,Array.append_assoc]⟩
 ·obtain⟨m,hn,hl⟩:=I.loc;refine⟨m,ns m hn,fun i x v e1 e2 e3=>?_⟩;obtain⟨u,r,l⟩:=hl i x v e1 e2 e3;refine⟨u,r,?_⟩;rcases l with l|⟨k,c,e,z⟩
  ·exact .inl l
  ·exact .inr ⟨k,c,e,cellK x c e _ z⟩
 ·obtain⟨v,z⟩:=I.cell x c e;exact⟨v,cellK x c e v z⟩
 ·obtain⟨m,⟨o,_,_,ho,_⟩,_⟩:=I.loc;exact free _ o (fun z=>(hch _ z).2.1 rfl) ho I.free
 ·obtain⟨v,o,ho,hd⟩:=I.cell x c e;exact free c o (fun z=>(hch c z).2.2.1 x c e rfl) ho (I.rH x c e)
 ·obtain⟨e,n,ne,nf,d⟩:=I.pin p hp;have nch:p.1∉ch:=fun z=>(hch p.1 z).2.2.2 p hp rfl;exact⟨keep p.1 p.2 ne nf nch e n,free p.1 p.2 nch e n,ne,nf,d⟩
theorem Inv.un{t':Nat}(I:Inv X pins σ H s)(u:Un X.fs [] H H' s.heap h')(hok:yL X.prog X.w H' h'):Inv X pins σ H' { s with heap:=h',toks:=t' }:=by
 obtain⟨m,⟨o,es,ep,ho,r⟩,_⟩:=id I.loc;obtain⟨sl,hL⟩:=u.any ho I.free (by simp);exact I.step (g':=s.gens) (d':=s.drawn) (ch:=[]) (fun _ z=>nomatch z) (fun b o _ hb _ e n=>u.keep b o e n hb (by simp)) (fun b o _ hb _ e n=>u.slot b o e n hb (by simp)) (fun b o _ e n=>u.free b o e n (by simp)) (fun b o _ e=>u.there b o e (by simp)) u.tups u.CG u.Gd (fun m' hm=>by
  obtain⟨o',es',ep',ho',r'⟩:=hm;rw[ho]at ho';cases ho';exact⟨_,es',ep',hL,r'⟩) hok I.bare
theorem Inv.call{g':Array l4}{t':Nat}{d':Drawn}{ch:List ab}(I:Inv X pins σ H s)(u:Un (pP X.stack) ch H H' s.heap h')(hok:yL X.prog X.w H' h')(hg:kS g')
  (hch:∀b∈ch,(b∈X.ex∨X.s₀.heap.objs.size<=b)/\b≠X.env.locals/\(∀x c,X.env.cells.lookup x=some c->c≠b)/\∀p∈X.pn++pins,p.1≠b) :
  Inv X pins σ H' { s with heap:=h',gens:=g',drawn:=d',toks:=t' }:=by
 obtain⟨m,⟨o,es,ep,ho,r⟩,_⟩:=id I.loc;obtain⟨sl,hL⟩:=u.any ho I.free fun z=>(hch _ z).2.1 rfl;exact I.step (ch:=ch) hch (fun b o hL hb hc e n=>u.keep b o e n (fun z=>(bz.mp (I.vB b z)).elim hL hb) hc) (fun b o _ _ hc e n=>u.any e n hc) (fun b o hc e n=>u.free b o e n hc) (fun b o hc e=>u.there b o e hc) u.tups u.CG u.Gd (fun m' hm=>by
  obtain⟨o',es',ep',ho',r'⟩:=hm;rw[ho]at ho';cases ho';exact⟨_,es',ep',hL,r'⟩) hok hg
theorem Inv.turned{t':Nat}{it:ab}(I:Inv X pins σ H s)(k:∀b o,b≠it->s.heap.get? b=some o->h'.get? b=some o)(hn:H it=none)(hL:it≠X.env.locals)
  (h1:it∈X.ex∨X.s₀.heap.objs.size<=it) (h2:∀x c,X.env.cells.lookup x=some c->c≠it) (h3:∀p∈X.pn++pins,p.1≠it):Inv X pins σ H { s with heap:=h',toks:=t' }:=by
 have nit:∀b u,H b=some u->b≠it:=fun b u e z=>by rw[z,hn]at e;cases e
 refine I.step (g':=s.gens) (d':=s.drawn) (ch:=[it]) (fun b hb=>?_) (fun b o _ _ hc e _=>k b o (fun z=>hc (by simp[z])) e) (fun b o _ _ hc e _=>⟨o.slots,k b o (fun z=>hc (by simp[z])) e⟩) (fun _ _ _ _ n=>n)
  (fun b o hc e=>⟨o,k b o (fun z=>hc (by simp[z])) e⟩) (fun _ _ e=>e) (fun _ _ _ e=>e) (fun b ps e=>⟨#[],by rw[e];simp⟩) (fun m hm=>?_) (fun b u e=>?_) I.bare
 ·have e:b=it:=by simpa using hb
  subst e;exact⟨h1,hL,h2,h3⟩
 ·obtain⟨o,es,ep,ho,r⟩:=hm;exact⟨o,es,ep,k _ o (de hL) ho,r⟩
 ·refine(I.hok b u e).stay (fun c v hc q=>k c v ?_ q) (fun _ q=>q) (fun _ _ q=>q) fun _ _ q=>q;rcases hc with z|z
  ·rw[z];exact nit b u e
  ·exact nit c _ z
theorem Inv.tok(I:Inv X pins σ H s)(t:Nat):Inv X pins σ H { s with toks:=t }:=I.un (h':=s.heap) (t':=t) Un.refl I.hok
theorem Inv.kept{t':Nat}(I:Inv X pins σ H s)(k:∀b u,s.heap.get? b=some u->h'.get? b=some u):Inv X pins σ H { s with heap:=h',toks:=t' }:=I.un (Un.kept k) (I.hok.kept k)
theorem Inv.laid{a:ab}{o:HO}{t':Nat}(I:Inv X pins σ H s)(k:∀b u,s.heap.get? b=some u->h'.get? b=some u)(hp:s.heap.objs.size<=a)(new:dY X.prog X.w (upd H a o) h' a o) :
  Inv X pins σ (upd H a o) { s with heap:=h',toks:=t' }:=I.un (Un.laid k hp (I.hok.fresh hp)) (I.hok.laid k hp new)
theorem Inv.write{x e:ab}{o:HO}{t':Nat}(I:Inv X pins σ H s)(mu:Mut (H x))(he:e=x∨H e=some (.own x))(k:∀b u,b≠e->s.heap.get? b=some u->h'.get? b=some u)(heo:∃u,h'.get? e=some u)
  (new:dY X.prog X.w (upd H x o) h' x o):Inv X pins σ (upd H x o) { s with heap:=h',toks:=t' }:=I.un (Un.write mu he k heo) (I.hok.write mu he k heo new)
theorem Inv.Cd{akV:List (ab×Obj)}(I:Inv X pins σ H s)(h:∀p∈akV,s.heap.get? p.1=some p.2/\H p.1=none/\p.1≠X.env.locals/\p.1∉X.fs/\∀v,p.2.data≠.cell v):Inv X akV σ H s :=
 ⟨I.ok,I.os,I.bare,I.base,I.loc,I.cell,I.free,I.rH,fun p hp=>(d9.mp hp).elim (fun z=>I.pin p (l5 _ z)) (h p),I.hok,I.len⟩
theorem Qg{N:List Str}(hN:N.Nodup){i j:Nat}{x:Str}(a:N[i]?=some x)(b:N[j]?=some x):i=j:=by obtain⟨h1,e1⟩:=eB.mp a;obtain⟨h2,e2⟩:=eB.mp b;exact(List.getElem_inj hN).mp (e1.trans e2.symm)
theorem HS{M:Model}{A:a_}{E:aa->af->Prop}{i:Nat}{x:Str}{v:V}{u:aa}{Q:Unit->af->Prop}(I:Inv X pins σ H s)(hN:X.N.Nodup)(hi:X.N[i]?=some x)(hx:Wm X.env.scope x)(r:RelV v u)
  (h:∀s',Inv X pins (σ.set i (some v)) H s'->(∃a,cS a s.heap s'.heap/\(a=X.env.locals∨X.env.cells.lookup x=some a))->Q () s') (hf:X.fn x=true∨X.env.scope.names.lookup x=some .local:=by first|exact .inl rfl|exact .inr rfl|assumption):ag M A (storeName X.env x u) Q E s:=by
 obtain⟨m,hn,hl⟩:=id I.loc;have hcls:(X.env.scope.kind == .class || (X.env.scope.kind == .module && X.env.locals != X.env.globals))=false:=by rw[I.ok.kind];rfl
 have hiσ:i < σ.length:=by rw[I.len];exact(eB.mp hi).1
 have cne:=I.cne;have tracked:∀{a:ab}{h':Heap},(∃o,s.heap.get? a=some o/\H a=none)->cS a s.heap h'->yL X.prog X.w H h':=fun {a h'} ha hs b ob e=>by
  obtain⟨_,_,hfree⟩:=ha;refine(I.hok b ob e).stay (fun c w' hc q=>(hs.2 c ?_).trans q) (fun _ q=>q) (fun _ _ q=>q) fun _ _ q=>q;rintro rfl;rcases hc with rfl|hc
  ·rw[hfree]at e;cases e
  ·rw[hfree]at hc;cases hc
 rcases hx with hk|hk
 ·refine wpAny_storeName_local hk hn (fun h' hn' hs=>?_) hcls;obtain⟨oL,_,_,hoL,_⟩:=id hn;refine h _ ⟨I.ok,I.os,I.bare,⟨fun b o e n hb hx=>?_,fun b o e n hb hx=>?_,I.base.free,fun b o e hx=>?_,I.base.tups,I.base.CG,I.base.Gd⟩,⟨_,hn',fun j y v' e1 e2 e3=>?_⟩,fun y c e=>?_,I.free,I.rH,fun p hp=>?_,tracked ⟨oL,hoL,I.free⟩ hs,by simpa using I.len⟩ ⟨_,hs,.inl rfl⟩
  ·exact(hs.2 b (bP (eJ (bu e) I.ok.above))).trans (I.base.keep b o e n hb hx)
  ·obtain⟨sl,e1⟩:=I.base.slot b o e n hb hx;exact⟨sl,(hs.2 b (bP (eJ (bu e) I.ok.above))).trans e1⟩
  ·obtain⟨o',e1⟩:=I.base.there b o e hx;exact⟨o',(hs.2 b (bP (eJ (bu e) I.ok.above))).trans e1⟩
  ·by_cases hj:j=i
   ·subst hj;rw[hi]at e1;cases e1;rw[d_ hiσ]at e2;cases e2;exact⟨u,r,.inl ⟨hk,by simp⟩⟩
   ·rw[dE (de hj)]at e2;obtain⟨u',r',q⟩:=hl j y v' e1 e2 e3;refine⟨u',r',?_⟩;rcases q with ⟨k,e⟩|⟨k,c,e,z⟩
    ·refine .inl ⟨k,?_⟩;have:y≠x:=fun e=>hj (Qg hN e1 (e▸hi));simp[this,e]
    ·exact .inr ⟨k,c,e,z.sameBut hs (cne y c e)⟩
  ·obtain⟨w',z⟩:=I.cell y c e;exact⟨w',z.sameBut hs (cne y c e)⟩
  ·obtain⟨e,n,ne,nf,d⟩:=I.pin p hp;exact⟨(hs.2 p.1 ne).trans e,n,ne,nf,d⟩
 ·have hfn:X.fn x=true:=by
   rcases hf with z|z
   ·exact z
   ·rw[z]at hk;cases hk
  obtain⟨c,hc⟩:=I.ok.has x (.inl hk);obtain⟨w',z⟩:=I.cell x c hc;refine wpAny_storeName_cell I.ok.kind hk hc z (fun h' hc' hs=>?_);obtain⟨oc,hoc,ars⟩:=id z;refine h { s with heap:=h' } ⟨I.ok,I.os,I.bare,⟨fun b o e n hb hx=>?_,fun b o e n hb hx=>?_,I.base.free,fun b o e hx=>?_,I.base.tups,I.base.CG,I.base.Gd⟩,⟨m,hn.sameBut hs (de (cne x c hc)),fun j y v' e1 e2 e3=>?_⟩,fun y c' e=>?_,I.free,I.rH,fun p hp=>?_,tracked ⟨oc,hoc,I.rH x c hc⟩ hs,by simpa using I.len⟩ ⟨c,hs,.inr hc⟩
  ·exact(hs.2 b (bP (eJ (bu e) (I.ok.cab x c hfn hc)))).trans (I.base.keep b o e n hb hx)
  ·obtain⟨sl,e1⟩:=I.base.slot b o e n hb hx;exact⟨sl,(hs.2 b (bP (eJ (bu e) (I.ok.cab x c hfn hc)))).trans e1⟩
  ·obtain⟨o',e1⟩:=I.base.there b o e hx;exact⟨o',(hs.2 b (bP (eJ (bu e) (I.ok.cab x c hfn hc)))).trans e1⟩
  ·by_cases hj:j=i
   ·subst hj;rw[hi]at e1;cases e1;rw[d_ hiσ]at e2;cases e2;exact⟨u,r,.inr ⟨.inl hk,c,hc,hc'⟩⟩
   ·rw[dE (de hj)]at e2;obtain⟨u',r',q⟩:=hl j y v' e1 e2 e3;refine⟨u',r',?_⟩;rcases q with q|⟨k,c',e,z'⟩
    ·exact .inl q
    ·refine .inr ⟨k,c',e,z'.sameBut hs ?_⟩;rintro rfl;exact hj (Qg hN e1 (I.ok.inj _ _ _ e hc▸hi))
  ·by_cases hcc:c'=c
   ·subst hcc;exact⟨_,hc'⟩
   ·obtain⟨w2,z2⟩:=I.cell y c' e;exact⟨w2,z2.sameBut hs hcc⟩
  ·obtain⟨e,n,ne,nf,d⟩:=I.pin p hp;refine⟨(hs.2 p.1 ?_).trans e,n,ne,nf,d⟩;intro q;rw[q,hoc]at e;have q':oc=p.2:=dq e;exact d w' (by rw[<- q'];exact ars)
theorem Qh{M:Model}{A:a_}{E:aa->af->Prop}{i:Nat}{x:Str}{v:V}{u:aa}{Q:Unit->af->Prop}(I:Inv X pins σ H s)(hN:X.N.Nodup)(hi:X.N[i]?=some x)(hx:Wm X.env.scope x)(r:RelV v u)
  (h:∀s',Inv X pins (σ.set i (some v)) H s'->Q () s') (hf:X.fn x=true∨X.env.scope.names.lookup x=some .local:=by first|exact .inl rfl|exact .inr rfl|assumption):ag M A (storeName X.env x u) Q E s :=
 HS I hN hi hx r (fun s' I' _=>h s' I') hf
theorem Inv.call'{s':af}{ch:List ab}(I:Inv X pins σ H s)(ho:s'.os=s.os)(u:Un (pP X.stack) ch H H' s.heap s'.heap)(hok:yL X.prog X.w H' s'.heap)(hg:kS s'.gens)
  (hch:∀b∈ch,(b∈X.ex∨X.s₀.heap.objs.size<=b)/\b≠X.env.locals/\(∀x c,X.env.cells.lookup x=some c->c≠b)/\∀p∈X.pn++pins,p.1≠b):Inv X pins σ H' s':=by
 obtain⟨h',g',d',t',o'⟩:=s';have e:o'=s.os:=ho;subst e;exact I.call (g':=g') (t':=t') (d':=d') u hok hg hch
end
abbrev XK:=aa->Option ab->Hp->Prop
abbrev St:=List (Option V)
abbrev VK:=V->Hp->Prop
abbrev TE:=St->Hp->VK->Prop
abbrev TT:=St->Hp->(Bool->Hp->Prop)->Prop
abbrev TA:=St->Hp->(List V->Hp->Prop)->Prop
structure Ends where
 nx:St->Hp->Prop
 rt:VK
 bk:St->Hp->Prop:=fun _ _=>False
 ct:St->Hp->Prop:=fun _ _=>False
abbrev TS:=Ends->St->Hp->Prop
def EP(X:Cx)(pins:List (ab×Obj))(σ:St)(Q:VK)(u:aa)(s':af):Prop:=∃v H',Inv X pins σ H' s'/\RelV v u/\Q v H'
def TP(X:Cx)(pins:List (ab×Obj))(σ:St)(Q:Bool->Hp->Prop)(b:Bool)(s':af):Prop:=∃H',Inv X pins σ H' s'/\Q b H'
def AP(X:Cx)(pins:List (ab×Obj))(σ:St)(Q:List V->Hp->Prop)(us:List aa)(s':af):Prop:=∃vs H',Inv X pins σ H' s'/\Vals vs us/\Q vs H'
def SP(X:Cx)(pins:List (ab×Obj))(D:Ends)(f:Flow)(s':af):Prop :=
 match f with
 | .next=>∃σ' H',Inv X pins σ' H' s'/\D.nx σ' H'
 | .brk=>∃σ' H',Inv X pins σ' H' s'/\D.bk σ' H'
 | .cont=>∃σ' H',Inv X pins σ' H' s'/\D.ct σ' H'
 | .ret u=>∃v σ' H',Inv X pins σ' H' s'/\RelV v u/\D.rt v H'
def PE(X:Cx)(e:ai)(t:TE):Prop :=
 ∀(pins:List (ab×Obj)) (s:af) (σ:St) (H:Hp) (Q:VK),Inv X pins σ H s->t σ H Q->ag (ah X.prog X.w) X.A (ba e X.env) (EP X pins σ Q) X.xe s
def PT(X:Cx)(e:ai)(t:TT):Prop :=
 ∀(pins:List (ab×Obj)) (s:af) (σ:St) (H:Hp) (Q:Bool->Hp->Prop),Inv X pins σ H s->t σ H Q->ag (ah X.prog X.w) X.A (isTrue e X.env (ba e X.env)) (TP X pins σ Q) X.xe s
def PW(X:Cx)(e:ai)(t:TT):Prop :=
 ∀(whole:Sem aa) (pins:List (ab×Obj)) (s:af) (σ:St) (H:Hp) (Q:Bool->Hp->Prop),Inv X pins σ H s->t σ H Q->ag (ah X.prog X.w) X.A (isTrue e X.env whole) (TP X pins σ Q) X.xe s
theorem PW.pt{X:Cx}{e:ai}{t:TT}(h:PW X e t):PT X e t:=h _
def PA(X:Cx)(es:List ai)(t:TA):Prop :=
 ∀(pos:Pos) (pins:List (ab×Obj)) (s:af) (σ:St) (H:Hp) (Q:List V->Hp->Prop),Inv X pins σ H s->t σ H Q->ag (ah X.prog X.w) X.A (spliced (d6 pos (bo es X.env))) (AP X pins σ Q) X.xe s
def PS(X:Cx)(st:bj)(t:TS):Prop :=
 ∀(pins:List (ab×Obj)) (s:af) (σ:St) (H:Hp) (D:Ends),Inv X pins σ H s->t D σ H->ag (ah X.prog X.w) X.A (exec st X.env) (SP X pins D) X.xe s
def Wn(X:Cx)(st:List bj)(t:TS):Prop :=
 ∀(pins:List (ab×Obj)) (s:af) (σ:St) (H:Hp) (D:Ends),Inv X pins σ H s->t D σ H->ag (ah X.prog X.w) X.A (execs st X.env) (SP X pins D) X.xe s
theorem je{α:Type}{t:Sem α}{Q Q':α->af->Prop}{M:Model}{A:a_}{E:aa->af->Prop}{s:af}(h:ag M A t Q E s)(hQ:∀a s,Q a s->Q' a s):ag M A t Q' E s:=eD h hQ fun _ _ x=>x
section
variable{X:Cx}
def JF(i:Nat):TE:=fun σ H Q=>∃v,σ[i]?=some (some v)/\Q v H
def tC(v:V):TE:=fun _ H Q=>Q v H
theorem nH{i:Nat}{x:Str}{pos:Pos}(hN:X.N[i]?=some x) (hv:Vis X.env.scope x) (hd:(x == ("__debug__":Str))=false:=by decide) (hcd:(x == ("__classdict__":Str))=false:=by decide):PE X (.Name x pos) (JF i):=by
 intro pins s σ H Q I h;obtain⟨v,e,h⟩:=h;obtain⟨m,hn,hl⟩:=I.loc;obtain⟨u,r,l⟩:=hl i x v hN e hv;have dZ:EP X pins σ Q u s:=⟨v,H,I,r,h⟩
 rcases l with ⟨hk,hm⟩|⟨hk,c,hc,hcell⟩
 ·exact wpAny_Name (wpAny_loadName_local I.ok.kind hk hn hm dZ) hd
 ·rcases hk with hk|hk
  ·exact wpAny_Name (wpAny_loadName_cell I.ok.kind hk hc hcell dZ) hd
  ·exact wpAny_Name (wpAny_loadName_free I.ok.kind hk hc hcell dZ hcd) hd
theorem alO{i j pos}:PE X (.Constant (.int i) j pos) (tC (.int i)):=fun _ _ _ H _ I h=>wpAny_Constant_int ⟨.int i,H,I.tok _,⟨_,rfl⟩,h⟩
theorem aoM{b j pos}:PE X (.Constant (.bool b) j pos) (tC (.bl b)):=fun _ _ _ H _ I h=>Constant_bool ⟨.bl b,H,I,rfl,h⟩
theorem alP{j pos}:PE X (.Constant .none j pos) (tC .non):=fun _ _ _ H _ I h=>Constant_none ⟨.non,H,I,rfl,h⟩
theorem alQ{x j pos}:PE X (.Constant (.str x) j pos) (tC (.str x)):=fun _ _ _ H _ I h=>Calls.Constant_str ⟨.str x,H,I.tok _,⟨_,rfl⟩,h⟩
def Gl(X:Cx)(x:Str):Prop:=X.env.kindOf x=some .globalImplicit
theorem ahQ{E:aa->af->Prop}{pins:List (ab×Obj)}{s:af}{σ:St}{H:Hp}{x:Str}{u:aa}{pos:Pos}{Q:aa->af->Prop}(I:Inv X pins σ H s)(hg:Gl X x)(hm:X.mg x=some u)(h:Q u s)
  (hd:(x == ("__debug__":Str))=false:=by decide):ag (ah X.prog X.w) X.A (ba (.Name x pos) X.env) Q E s :=
 Calls.Name_function_global I.ok.kind hg (Calls.loadGlobal_global (by rw[I.ok.glob];exact I.mod.glob.keeps I.bk) hm h) hd
theorem yM{E:aa->af->Prop}{pins:List (ab×Obj)}{s:af}{σ:St}{H:Hp}{x:Str}{u:aa}{pos:Pos}{Q:aa->af->Prop}(I:Inv X pins σ H s)(hg:Gl X x)(hm:X.mg x=none)(hv:kR x=some u)(h:Q u s)
  (hn:x≠"__name__":=by decide) (hd:(x == ("__debug__":Str))=false:=by decide):ag (ah X.prog X.w) X.A (ba (.Name x pos) X.env) Q E s:=by
 obtain⟨mb,h1,h2⟩:=I.mod.blt;exact Calls.Name_function_global I.ok.kind hg (Calls.loadGlobal_builtin (by rw[I.ok.glob];exact I.mod.glob.keeps I.bk) hm (by rw[I.ok.blt];exact h1.keeps I.bk) ((h2 x hn).trans hv) h) hd
variable{a b:ai}{ta tb:TE}{pos:Pos}
def tB(t:TE):TT:=fun σ H Q=>t σ H fun x H1=>∃c,x=.bl c/\Q c H1
theorem alR{e:ai}{t:TE}(h:PE X e t)(he:∀whole,isTrue e X.env whole=(do let v <- whole;l6 e.pos;ef [v] (truthy v)):=by intro _;rfl):PT X e (tB t):=by intro pins s σ H Q I hw;refine isTrue_plain (je (h pins s σ H _ I hw) fun v s1 ⟨x,H1,I1,r1,q1⟩=>?_) (he _);obtain⟨d,rfl,q⟩:=q1;cases r1;exact l8 ⟨H1,I1,q⟩
variable{tA tB':TT}{rest:List ai}
def aru(t u:TT):TT:=fun σ H Q=>t σ H fun c H1=>if c=true then u σ H1 Q else Q false H1
def tOr(t u:TT):TT:=fun σ H Q=>t σ H fun c H1=>if c=true then Q true H1 else u σ H1 Q
theorem ahR(ha:PT X a tA):PW X (.BoolOp .And [a] pos) tA:=by
 intro wh pins s σ H Q I h;refine isTrue_and (je (ha pins s σ H Q I h) fun c s1 e=>?_);cases c with
 |true=>exact isTrue_and_nil e
 |false=>exact e
theorem alS(ha:PT X a tA):PW X (.BoolOp .Or [a] pos) tA:=by
 intro wh pins s σ H Q I h;refine isTrue_or (je (ha pins s σ H Q I h) fun c s1 e=>?_);cases c with
 |false=>exact isTrue_or_nil e
 |true=>exact e
theorem alT(ha:PT X a tA)(hb:PW X (.BoolOp .And (b::rest) pos) tB'):PW X (.BoolOp .And (a::b::rest) pos) (aru tA tB'):=by
 intro wh pins s σ H Q I h;refine isTrue_and (je (ha pins s σ H _ I h) fun c s1 fH=>?_);obtain⟨H1,I1,q1⟩:=fH;cases c with
 |true=>exact hb wh pins s1 σ H1 Q I1 q1
 |false=>exact⟨H1,I1,q1⟩
theorem aoN(ha:PT X a tA)(hb:PW X (.BoolOp .Or (b::rest) pos) tB'):PW X (.BoolOp .Or (a::b::rest) pos) (tOr tA tB'):=by
 intro wh pins s σ H Q I h;refine isTrue_or (je (ha pins s σ H _ I h) fun c s1 fH=>?_);obtain⟨H1,I1,q1⟩:=fH;cases c with
 |true=>exact⟨H1,I1,q1⟩
 |false=>exact hb wh pins s1 σ H1 Q I1 q1
def arv(ta tb:TE):TE:=fun σ H Q=>ta σ H fun x H1=>∃c,x=.bl c/\if c=true then Q (.bl true) H1 else tb σ H1 Q
def aoO(ta:TE):TE:=fun σ H Q=>ta σ H fun x H1=>∃c,x=.bl c/\Q (.bl (!c)) H1
theorem alU{op}{t:TE}(h:PE X a t):PE X (.BoolOp op [a] pos) t:=fun pins s σ H Q I hw=>BoolOp_one (h pins s σ H Q I hw)
theorem aoP(ha:PE X a ta)(hb:PE X (.BoolOp .Or (b::rest) pos) tb):PE X (.BoolOp .Or (a::b::rest) pos) (arv ta tb):=by
 intro pins s σ H Q I h;refine BoolOp_or (je (ha pins s σ H _ I h) fun v s1 fH=>?_);obtain⟨x,H1,I1,r1,q1⟩:=fH;obtain⟨c,rfl,q1⟩:=q1;cases r1;refine l8 ?_;cases c with
 |false=>exact hb pins s1 σ H1 Q I1 q1
 |true=>exact⟨.bl true,H1,I1,rfl,q1⟩
theorem alV(ha:PE X a ta):PE X (.UnaryOp .Not a pos) (aoO ta):=by intro pins s σ H Q I h;refine UnaryOp_ (je (ha pins s σ H _ I h) fun v s1 fH=>?_);obtain⟨x,H1,I1,r1,q1⟩:=fH;obtain⟨c,rfl,q1⟩:=q1;cases r1;exact not_of (l8 ⟨.bl (!c),H1,I1,rfl,q1⟩)
end
def pO(K:aw)(H:Hp)(a:ab)(xs:List V):Prop :=
 Rd H a (.lst xs) ∨
  ∃(o:Obj) (its:Array aa) (n:Nat),K.lookup a=some o/\o.cls=.type "list"/\o.dict=none/\o.data=.seq its n/\its.size<=sizeLine/\Vals xs its.toList
def ni(K:aw)(H:Hp)(a:ab)(xs:List V):Prop :=
 Rd H a (.tup xs) ∨
  ∃(o:Obj) (its:Array aa) (n:Nat),K.lookup a=some o/\o.cls=.type "tuple"/\o.data=.seq its n/\its.size<=sizeLine/\Vals xs its.toList
def arw:aa->Option V
 | .none=>some .non
 | .bool b=>some (.bl b)
 | .int i _=>some (.int i)
 | .str x _=>some (.str x)
 | .bytes b _=>some (.byt b)
 | .float b _=>some (.flt b)
 | .ref a=>some (.ref a)
 | .type n=>some (.ty n)
 |_=>none
theorem RelV.abs{x:V}{u:aa}(r:RelV x u):arw u=some x:=by
 cases x with
 |non=>cases r;rfl
 |bl _=>cases r;rfl
 |int _=>obtain⟨t,rfl⟩:=r;rfl
 |str _=>obtain⟨t,rfl⟩:=r;rfl
 |byt _=>obtain⟨t,rfl⟩:=r;rfl
 |flt _=>obtain⟨t,rfl⟩:=r;rfl
 |ref _=>cases r;rfl
 |ty _=>cases r;rfl
theorem RelV.inj{x y:V}{u:aa}(r:RelV x u)(q:RelV y u):x=y:=dq (r.abs.symm.trans q.abs)
theorem Vals.inj:∀{xs ys:List V}{us:List aa},Vals xs us->Vals ys us->xs=ys
 |_,_,_,.nil,.nil=>rfl
 |_,_,_,.cons r t,.cons r' t'=>by rw[r.inj r',Vals.inj t t']
section
variable{X:Cx}{pins:List (ab×Obj)}{σ:St}{H:Hp}{s:af}{a:ab}{xs ys:List V}
theorem pO.of{K:aw}(h:H a=some (.lst xs)):pO K H a xs:=.inl (.inl h)
theorem ni.of{K:aw}(h:H a=some (.tup xs)):ni K H a xs:=.inl (.inl h)
theorem Inv.list(I:Inv X pins σ H s)(h:pO X.K H a xs):∃its:List aa,Vals xs its/\PlainL s.heap a its.toArray/\xs.length<=sizeLine:=by
 rcases h with h|⟨o,its,n,hk,hc,hd,hs,hz,r⟩
 ·obtain⟨z,its,n,r,e⟩:=h.ok I.hok;exact⟨its,r,⟨_,n,e,rfl,rfl,rfl⟩,z⟩
 ·refine⟨its.toList,r,⟨o,n,I.kIn a o hk,hc,hd,by simpa using hs⟩,?_⟩;have e:=r.length;simp only[fR]at e;lia
theorem Inv.tuple(I:Inv X pins σ H s)(h:ni X.K H a xs):∃its:List aa,Vals xs its/\IsTup s.heap a its.toArray/\xs.length<=sizeLine:=by
 rcases h with h|⟨o,its,n,hk,hc,hs,hz,r⟩
 ·obtain⟨z,its,r,p⟩:=h.ok I.hok;exact⟨its,r,p,z⟩
 ·refine⟨its.toList,r,⟨o,I.kIn a o hk,hc,n,by simpa using hs⟩,?_⟩;have e:=r.length;simp only[fR]at e;lia
theorem Inv.Qi(I:Inv X pins σ H s)(h:pO X.K H a xs)(h':pO X.K H a ys):xs=ys:=by
 obtain⟨its,r,⟨o,n,e,_,_,d⟩,_⟩:=I.list h;obtain⟨its',r',⟨o',n',e',_,_,d'⟩,_⟩:=I.list h';rw[e]at e';cases e';rw[d]at d';injection d' with d1 _;have:its=its':=by simpa using congrArg Array.toList d1
 subst this;exact r.inj r'
theorem Inv.yN(I:Inv X pins σ H s)(h:ni X.K H a xs)(h':ni X.K H a ys):xs=ys:=by
 obtain⟨its,r,⟨o,e,_,n,d⟩,_⟩:=I.tuple h;obtain⟨its',r',⟨o',e',_,n',d'⟩,_⟩:=I.tuple h';rw[e]at e';cases e';rw[d]at d';injection d' with d1 _;have:its=its':=by simpa using congrArg Array.toList d1
 subst this;exact r.inj r'
end
abbrev Cx.wish(X:Cx)(E:aa->af->Prop):Cx:={ X with xe:=E }
abbrev Cx.nox(X:Cx):Cx:=X.wish fun _ _=>False
theorem Cx.Ok.wish{X:Cx}(ok:X.Ok)(E:aa->af->Prop):(X.wish E).Ok :=
 ⟨ok.mod,ok.kind,ok.glob,ok.blt,ok.above,ok.inj,ok.has,ok.cab,ok.hd,ok.frames,ok.stk,ok.exf,ok.bs,ok.bsz,ok.aaV,ok.ahP,ok.CK,ok.frf⟩
theorem Cx.Ok.rY{X:Cx}{E:aa->af->Prop}(ok:(X.wish E).Ok):X.Ok :=
 ⟨ok.mod,ok.kind,ok.glob,ok.blt,ok.above,ok.inj,ok.has,ok.cab,ok.hd,ok.frames,ok.stk,ok.exf,ok.bs,ok.bsz,ok.aaV,ok.ahP,ok.CK,ok.frf⟩
section
variable{X:Cx}{pins:List (ab×Obj)}{σ:St}{H:Hp}{s:af}{E:aa->af->Prop}
theorem Inv.wish(I:Inv X pins σ H s)(E:aa->af->Prop):Inv (X.wish E) pins σ H s:=⟨I.ok.wish E,I.os,I.bare,I.base,I.loc,I.cell,I.free,I.rH,I.pin,I.hok,I.len⟩
theorem Inv.rY(I:Inv (X.wish E) pins σ H s):Inv X pins σ H s:=⟨I.ok.rY,I.os,I.bare,I.base,I.loc,I.cell,I.free,I.rH,I.pin,I.hok,I.len⟩
theorem SP.rY{D:Ends}{f:Flow}{s':af}(h:SP (X.wish E) pins D f s'):SP X pins D f s':=by
 cases f with
 |next=>obtain⟨σ',H',I,q⟩:=h;exact⟨σ',H',I.rY,q⟩
 |brk=>obtain⟨σ',H',I,q⟩:=h;exact⟨σ',H',I.rY,q⟩
 |cont=>obtain⟨σ',H',I,q⟩:=h;exact⟨σ',H',I.rY,q⟩
 |ret u=>obtain⟨v,σ',H',I,r,q⟩:=h;exact⟨v,σ',H',I.rY,r,q⟩
end
section
variable{X:Cx}{st:bj}{rest:List bj}{t u:TS}{e:ai}{te:TE}{pos:Pos}
def aoR:TS:=fun D σ H=>D.nx σ H
def arx(t u:TS):TS:=fun D σ H=>t { D with nx:=u D } σ H
theorem ahS:Wn X [] aoR:=fun _ _ σ H _ I h=>vn ⟨σ,H,I,h⟩
theorem acX(h1:PS X st t)(h2:Wn X rest u):Wn X (st::rest) (arx t u):=by
 intro pins s σ H D I h;refine wpAny_execs_cons (je (h1 pins s σ H { D with nx:=u D } I h) fun f s1 q=>?_);cases f with
 |next =>
  obtain⟨σ',H',I',q⟩:=q;exact h2 pins s1 σ' H' D I' q
 |ret v=>exact q
 |brk=>exact q
 |cont=>exact q
theorem ahT(h1:PS X st t):Wn X [st] t:=by
 intro pins s σ H D I h;refine wpAny_execs_cons (je (h1 pins s σ H D I h) fun f s1 q=>?_);cases f with
 |next=>exact vn q
 |ret v=>exact q
 |brk=>exact q
 |cont=>exact q
theorem Inv.quiet{pins:List (ab×Obj)}{σ:St}{H:Hp}{s:af}(I:Inv X pins σ H s):interactive X.env=false:=by simp[interactive,I.ok.kind]
def aoS(te:TE):TS:=fun D σ H=>te σ H fun _ H1=>D.nx σ H1
theorem JG(he:PE X e te)(hs:fm e none pos.line X.env=pure false:=by rfl):PS X (.Expr e pos) (aoS te):=by intro pins s σ H D I h;exact wpAny_Expr_any (je (he pins s σ H _ I h) fun v s1 ⟨x,H1,I1,r1,q1⟩=>⟨σ,H1,I1,q1⟩) I.quiet hs
def arz(te:TE):TS:=fun D σ H=>te σ H D.rt
theorem alW(he:PE X e te):PS X (.Return (some e) pos) (arz te):=by intro pins s σ H D I h;exact wpAny_Return_some (je (he pins s σ H _ I h) fun v s1 ⟨x,H1,I1,r1,q1⟩=>⟨x,σ,H1,I1,r1,q1⟩)
def arA(c:TT)(t u:TS):TS:=fun D σ H=>c σ H fun b H1=>if b=true then t D σ H1 else u D σ H1
theorem aoT{c:ai}{a b:List bj}{tc:TT}(hc:PT X c tc)(ha:Wn X a t)(hb:Wn X b u):PS X (.If c a b pos) (arA tc t u):=by
 intro pins s σ H D I h;refine wpAny_If (je (hc pins s σ H _ I h) fun d s1 fH=>?_);obtain⟨H1,I1,q1⟩:=fH;cases d with
 |true=>exact ha pins s1 σ H1 D I1 q1
 |false=>exact hb pins s1 σ H1 D I1 q1
def alX:TS:=fun _ _ _=>False
theorem acY:PS X st alX:=fun _ _ _ _ _ _ h=>h.elim
end
abbrev TG:=V->St->Hp->(St->Hp->Prop)->Prop
abbrev TGs:=List V->St->Hp->(St->Hp->Prop)->Prop
def PG(X:Cx)(target:ai)(t:TG):Prop :=
 ∀(pins:List (ab×Obj)) (s:af) (σ:St) (H:Hp) (v:V) (u:aa) (Q:St->Hp->Prop),Inv X pins σ H s->RelV v u->t v σ H Q ->
  ag (ah X.prog X.w) X.A (assign target X.env u) (fun _ s'=>∃σ' H',Inv X pins σ' H' s'/\Q σ' H') X.xe s
def PGs(X:Cx)(ts:List ai)(t:TGs):Prop :=
 ∀(pins:List (ab×Obj)) (s:af) (σ:St) (H:Hp) (vs:List V) (us:List aa) (Q:St->Hp->Prop),Inv X pins σ H s->Vals vs us->t vs σ H Q ->
  ag (ah X.prog X.w) X.A (assignInOrder ((f6 ts X.env).map (·.2)) us) (fun _ s'=>∃σ' H',Inv X pins σ' H' s'/\Q σ' H') X.xe s
abbrev ahV:=V->V->V->Hp->(Hp->Prop)->Prop
def alY(X:Cx)(t:ahV):Prop :=
 ∀(pins:List (ab×Obj)) (s:af) (σ:St) (H:Hp) (o i v:V) (ov iv u:aa) (Q:Hp->Prop),Inv X pins σ H s->RelV o ov->RelV i iv->RelV v u->t o i v H Q ->
  ag (ah X.prog X.w) X.A (setItem ov iv u) (fun _ s'=>∃H',Inv X pins σ H' s'/\Q H') X.xe s
section
variable{X:Cx}{pos:Pos}
def akW(i:Nat):TG:=fun v σ H Q=>Q (σ.set i (some v)) H
theorem ahW{i:Nat}{x:Str}(hN:X.N.Nodup)(hi:X.N[i]?=some x)(hx:Wm X.env.scope x)(hf:X.fn x=true∨X.env.scope.names.lookup x=some .local:=by first|exact .inl rfl|exact .inr rfl|assumption):PG X (.Name x pos) (akW i):=by intro pins s σ H v u Q I r h;exact wpAny_assign_Name (Qh I hN hi hx r (fun s' I'=>⟨_,H,I',h⟩) hf)
def arB:TGs:=fun vs σ H Q=>vs=[]/\Q σ H
def aoU(t:TG)(u:TGs):TGs:=fun vs σ H Q=>∃v r,vs=v::r/\t v σ H fun σ' H'=>u r σ' H' Q
theorem ahX:PGs X [] arB:=by intro pins s σ H vs us Q I r h;obtain⟨e,h⟩:=h;subst e;cases r;exact assignInOrder_nil ⟨σ,H,I,h⟩
theorem acZ{e:ai}{es:List ai}{t:TG}{u:TGs}(h1:PG X e t)(h2:PGs X es u)
  (hs:(f6 (e::es) X.env).map (·.2)=assign e X.env::(f6 es X.env).map (·.2):=by rfl):PGs X (e::es) (aoU t u):=by
 intro pins s σ H vs us Q I r h;obtain⟨v,vr,e1,h⟩:=h;subst e1;cases r with
 |cons r rr =>
  rw[hs];refine assignInOrder_cons (je (h1 pins s σ H _ _ _ I r h) fun _ s1 fH=>?_);obtain⟨σ1,H1,I1,q1⟩:=fH;exact h2 pins s1 σ1 H1 _ _ Q I1 rr q1
def dF(K:aw)(n:Nat)(t:TGs):TG:=fun v σ H Q=>∃a xs,v=.ref a/\ni K H a xs/\xs.length=n/\t xs σ H Q
theorem alZ{es:List ai}{k:Nat}{t:TGs}{n:Nat}(hc:X.calm=true)(h:PGs X es t)
  (hn:(f6 es X.env).length=n:=by rfl) (hst:(f6 es X.env).findIdx? (·.1)=none:=by rfl):PG X (.Tuple es k pos) (dF X.K n t):=by
 intro pins s σ H v u Q I r hw;obtain⟨a,xs,e1,hq,hl,hw⟩:=hw;subst e1;cases r;obtain⟨its,rv,ht,hz⟩:=I.tuple hq;refine assign_Tuple_tuple (I.ok.hd hc) ht (by simp[hn,<- hl,rv.length]) hst fun h' hx=>?_;have I1:Inv X pins σ H { s with heap:=h' }:=I.kept (t':=s.toks) fun b o e=>hx b o (bP (bu e)) e;exact h pins _ σ H xs _ Q I1 (by simpa using rv) hw
def jf(to ti:TE)(t:ahV):TG:=fun v σ H Q=>to σ H fun o H1=>ti σ H1 fun i H2=>t o i v H2 fun H3=>Q σ H3
theorem ada{o i:ai}{to ti:TE}{t:ahV}(ho:PE X o to)(hi:PE X i ti)(hs:alY X t)
  (ha:∀v,assign (.Subscript o i pos) X.env v=(do
   let ov <- ef [v] (ba o X.env)
   let iv <- ef [v,ov] (ba i X.env)
   l6 pos
   ef [v,ov,iv] (setItem ov iv v)
   release [v,ov,iv] []):=by intro _;rfl):PG X (.Subscript o i pos) (jf to ti t):=by
 intro pins s σ H v u Q I r h;rw[ha];refine ae (dP (je (ho pins s σ H _ I h) fun ov s1 fH=>?_));obtain⟨x,H1,I1,r1,q1⟩:=fH;refine ae (dP (je (hi pins s1 σ H1 _ I1 q1) fun iv s2 fH=>?_));obtain⟨y,H2,I2,r2,q2⟩:=fH;refine ae (vt (ae (dP (je (hs pins s2 σ H2 x y v ov iv u _ I2 r1 r2 r q2) fun _ s3 fH=>?_))));obtain⟨H3,I3,q3⟩:=fH;exact wpAny_release ⟨σ,H3,I3,q3⟩
def aoV(te:TE)(g:TG):TS:=fun D σ H=>te σ H fun x H1=>g x σ H1 D.nx
theorem Wq{tg e:ai}{te:TE}{g:TG}(he:PE X e te)(hg:PG X tg g)(hs:l9 [tg] e pos.line X.env=pure false:=by rfl)(hw:l_ [tg] e X.env=pure none:=by rfl)
  (h1:(f6 [tg] X.env).map (·.2)=[assign tg X.env]:=by rfl):PS X (.Assign [tg] e pos) (aoV te g):=by
 intro pins s σ H D I h;refine wpAny_Assign_stores (je (he pins s σ H _ I h) fun v s1 ⟨x,H1,I1,r1,q1⟩=>?_) hs hw;rw[h1];exact je (hg pins s1 σ H1 x v _ I1 r1 q1) fun _ s2 q=>q
theorem JH{i:Nat}{x:Str}{e:ai}{te:TE}{pos':Pos}(hN:X.N.Nodup)(hi:X.N[i]?=some x)(hx:Wm X.env.scope x)(he:PE X e te)(hs:fm e (some (.Name x pos')) pos.line X.env=pure false:=by rfl)(hf:X.fn x=true∨X.env.scope.names.lookup x=some .local:=by first|exact .inl rfl|exact .inr rfl|assumption) :
  PS X (.Assign [.Name x pos'] e pos) (aoV te (akW i)):=by
 intro pins s σ H D I h;refine wpAny_Assign_Name (je (he pins s σ H _ I h) fun v s1 ⟨y,H1,I1,r1,q1⟩=>?_) hs;exact Qh I1 hN hi hx r1 (fun s2 I2=>⟨_,H1,I2,q1⟩) hf
end
section
variable{X:Cx}{pos:Pos}
end
structure It where
 go:Nat->Hp->Prop
 yld:Nat->Hp->V->Hp->Prop
 stop:Nat->Hp->Prop
def qx(X:Cx)(pins:List (ab×Obj))(H:Hp)(b:ab):Prop :=
 H b=none/\b≠X.env.locals/\b∉X.fs/\(b∈X.ex∨X.s₀.heap.objs.size<=b)/\(∀x c,X.env.cells.lookup x=some c->c≠b)/\∀p∈X.pn++pins,p.1≠b
theorem Inv.Wr{X:Cx}{pins:List (ab×Obj)}{σ:St}{H H':Hp}{s:af}{b:ab}(I:Inv X pins σ H s)(hb:s.heap.objs.size<=b)(hn:H' b=none):qx X pins H' b:=by
 refine⟨hn,hG (eJ I.lt hb),I.acV hb,.inr (cz I.sz hb),fun x c e z=>?_,fun p hp z=>?_⟩
 ·obtain⟨v,q⟩:=I.cell x c e;exact absurd (eJ q.lt (by rw[z];exact hb)) (ir _)
 ·exact absurd (eJ (bu (I.pin p hp).1) (by rw[z];exact hb)) (ir _)
structure Turn (P:aE)(w:az)(K:aw)(tg:ai)(J:It)(fp:List ab)(it:ab)(tn:Nat->Heap->Prop):Prop where
  mem:it∈fp
  obj:∀i h,tn i h->∀b∈fp,∃o,h.get? b=some o/\∀v,o.data≠.cell v
  keep:∀i h h',tn i h->(∀b∈fp,∀o,h.get? b=some o->h'.get? b=some o)->tn i h'
  item:∀(X:Cx),X.prog=P->X.w=w->X.K=K->X.calm=true->∀(i:Nat) (pins:List (ab×Obj)) (s:af) (σ:St) (H:Hp) (E:aa->af->Prop),Inv X pins σ H s->(∀b∈fp,qx X pins H b)->tn i s.heap->J.go i H ->
    ag (ah P w) X.A (eA (.ref it)) (fun r s1=>∃u,r=some u /\
      ag (ah P w) X.A (qk tg (.ref it) u) (fun _ s2=>∃x H',Inv X pins σ H' s2/\RelV x u/\J.yld i H x H'/\tn (i + 1) s2.heap/\∀b∈fp,H' b=none) E s1) E s
  done : ∀(X : Cx), X.prog = P -> X.w = w -> X.K = K -> X.calm = true -> ∀(i : Nat) (pins : List (ab × Obj)) (s : af) (σ : St) (H : Hp) (E : aa -> af -> Prop), Inv X pins σ H s -> (∀b ∈ fp, qx X pins H b) -> tn i s.heap -> J.stop i H ->
    ag (ah P w) X.A (eA (.ref it)) (fun r s1=>r=none/\Inv X pins σ H s1) E s
  self:∀(A:a_) (i:Nat) (s:af) (Q:aa->af->Prop) (E:aa->af->Prop),tn i s.heap->Q (.ref it) s->ag (ah P w) A (kB (.ref it)) Q E s
abbrev TI:=St->Hp->(It->Hp->Prop)->Prop
def PIE(X:Cx)(pins:List (ab×Obj))(σ:St)(tg:ai)(R:It->Hp->Prop)(itv:aa)(s2:af):Prop :=
 ∃(it:ab) (fp:List ab) (tn:Nat->Heap->Prop) (J:It) (H':Hp),itv=.ref it/\Inv X pins σ H' s2/\Turn X.prog X.w X.K tg J fp it tn/\tn 0 s2.heap/\(∀b∈fp,qx X pins H' b)/\R J H'
def PI(X:Cx)(tg iter:ai)(wi:TI):Prop :=
 ∀(pins:List (ab×Obj)) (s:af) (σ:St) (H:Hp) (R:It->Hp->Prop),Inv X pins σ H s->wi σ H R ->
  ag (ah X.prog X.w) X.A (ba iter X.env) (fun v s1=>ag (ah X.prog X.w) X.A (kB v) (PIE X pins σ tg R) X.xe s1) X.xe s
theorem Zw{M:Model}{A:a_}{E:aa->af->Prop}{s:af}{tg:ai}{it:ab}{u:aa}{o:Obj}{n:String}{vs:Array aa}{Q:Unit->af->Prop}(ho:s.heap.get? it=some o)(hc:o.cls=.type n)(hd:o.data=.fields vs)
    (hn:["enumerate","zip","dict_itemiterator","dict_reverseitemiterator","odict_iterator","itertools.zip_longest","itertools.pairwise"].contains n=false) (hQ:Q () s):ag M A (qk tg (.ref it) u) Q E s:=by
  unfold qk;cases tg <;> first
    |exact ar hQ
    | (cases u <;> first
        |exact ar hQ
        | (refine ae (wpAny_load ho ?_)
           rw[hc,hd];show ag M A (if (["enumerate","zip","dict_itemiterator","dict_reverseitemiterator","odict_iterator","itertools.zip_longest","itertools.pairwise"].contains n && vs[0]? == some (c_ _))=true then _ else _) Q E s;rw[if_neg (by intro h;rw[hn,kT]at h;cases h)];exact ar hQ))
def Itl(K:aw)(a:ab):It :=
 ⟨fun i H=>∃xs x,pO K H a xs/\xs[i]?=some x,fun i H x H'=>H'=H/\∀xs,pO K H a xs->xs[i]?=some x,fun i H=>∃xs,pO K H a xs/\xs.length<=i⟩
def Itt(K:aw)(a:ab):It :=
 ⟨fun i H=>∃xs x,ni K H a xs/\xs[i]?=some x,fun i H x H'=>H'=H/\∀xs,ni K H a xs->xs[i]?=some x,fun i H=>∃xs,ni K H a xs/\xs.length<=i⟩
def Itr(lo:Int)(n:Nat):It:=⟨fun i _=>i < n,fun i H x H'=>H'=H/\x=.int (lo + i),fun i _=>n<=i⟩
theorem aaW{P:aE}{w:az}{K:aw}{tg:ai}(a it:ab):Turn P w K tg (Itl K a) [it] it (fun i h=>h.IsListIter it a i) where
  mem:=by simp
  obj:=fun i h st b hb=>by
    have e:b=it:=by simpa using hb
    subst e;obtain⟨o,e,c,d⟩:=st;exact⟨o,e,fun v z=>by rw[d]at z;cases z⟩
  keep:=fun i h h' st k=>st.at fun o e=>k it (by simp) o e
  item:=by intro X hP hw hK hc i pins s σ H E I hf st hg;subst hP hw hK;obtain⟨xs,x,hq,hx⟩:=hg;obtain⟨its,rv,p,hz⟩:=I.list hq;obtain⟨u,hu,ru⟩:=rv.get hx;obtain⟨f0,f1,f2,f3,f4,f5⟩:=hf it (by simp);refine wpAny_pyNext_list_item st p.isList (x:=u) (by simpa using hu) fun h' st' sb=>?_;have I1:Inv X pins σ H { s with heap:=h' }:=I.turned (t':=s.toks) (fun b o hb e=>(sb.2 b hb).trans e) f0 f1 f3 f4 f5;obtain⟨o,e,c,d⟩:=id st';exact⟨u,rfl,Zw (s:={ s with heap:=h' }) e c d (by decide) ⟨x,H,I1,ru,⟨rfl,fun ys hy=>by rw[I.Qi hy hq];exact hx⟩,st',fun b hb=>(hf b hb).1⟩⟩
  done := by
    intro X hP hw hK hc i pins s σ H E I hf st hg;subst hP hw hK;obtain⟨xs,hq,hx⟩:=hg;obtain⟨its,rv,p,hz⟩:=I.list hq;obtain⟨f0,f1,f2,f3,f4,f5⟩:=hf it (by simp);have hl:=rv.length;exact wpAny_pyNext_list_end (I.ok.hd hc) st p.isList (by simp;lia) fun h' eb=>⟨rfl,I.turned (t':=s.toks) (fun b o hb e=>eb b o hb e) f0 f1 f3 f4 f5⟩
  self:=fun _ _ _ _ _ st h=>wpAny_pyIter_listiter st h
theorem Ws{P:aE}{w:az}{K:aw}{tg:ai}(a it:ab):Turn P w K tg (Itt K a) [it] it (fun i h=>h.IsTupleIter it a i) where
  mem:=by simp
  obj:=fun i h st b hb=>by
    have e:b=it:=by simpa using hb
    subst e;obtain⟨o,e,c,d⟩:=st;exact⟨o,e,fun v z=>by rw[d]at z;cases z⟩
  keep:=fun i h h' st k=>st.at fun o e=>k it (by simp) o e
  item:=by intro X hP hw hK hc i pins s σ H E I hf st hg;subst hP hw hK;obtain⟨xs,x,hq,hx⟩:=hg;obtain⟨its,rv,p,hz⟩:=I.tuple hq;obtain⟨u,hu,ru⟩:=rv.get hx;obtain⟨f0,f1,f2,f3,f4,f5⟩:=hf it (by simp);refine wpAny_pyNext_tuple_item st (show s.heap.IsTuple a its.toArray from p) (x:=u) (by simpa using hu) fun h' st' sb=>?_;have I1:Inv X pins σ H { s with heap:=h' }:=I.turned (t':=s.toks) (fun b o hb e=>(sb.2 b hb).trans e) f0 f1 f3 f4 f5;obtain⟨o,e,c,d⟩:=id st';exact⟨u,rfl,Zw (s:={ s with heap:=h' }) e c d (by decide) ⟨x,H,I1,ru,⟨rfl,fun ys hy=>by rw[I.yN hy hq];exact hx⟩,st',fun b hb=>(hf b hb).1⟩⟩
  done := by
    intro X hP hw hK hc i pins s σ H E I hf st hg;subst hP hw hK;obtain⟨xs,hq,hx⟩:=hg;obtain⟨its,rv,p,hz⟩:=I.tuple hq;obtain⟨f0,f1,f2,f3,f4,f5⟩:=hf it (by simp);have hl:=rv.length;exact wpAny_pyNext_tuple_end (I.ok.hd hc) st (show s.heap.IsTuple a its.toArray from p) (by simp;lia) fun h' eb=>⟨rfl,I.turned (t':=s.toks) (fun b o hb e=>eb b o hb e) f0 f1 f3 f4 f5⟩
  self:=fun _ _ _ _ _ st h=>wpAny_pyIter_tupleiter st h
theorem Wt{P:aE}{w:az}{K:aw}{tg:ai}(it:ab)(lo:Int)(n:Nat):Turn P w K tg (Itr lo n) [it] it (fun i h=>IsRangeIter h it (lo + (i:Nat) * 1) ((n:Int) - (i:Nat)) 1) where
  mem:=by simp
  obj:=fun i h st b hb=>by
    have e:b=it:=by simpa using hb
    subst e;exact⟨_,st,fun v z=>by
      have z':Data.fields _=Data.cell v:=z;cases z'⟩
  keep:=fun i h h' st k=>k it (by simp) _ st
  item:=by intro X hP hw hK hc i pins s σ H E I hf st hg;subst hP hw hK;obtain⟨f0,f1,f2,f3,f4,f5⟩:=hf it (by simp);have W:=Walks.range (prog:=X.prog) (w:=X.w) (I.ok.hd hc) it lo 1 n;refine W.item i s _ _ hg st fun v h' tk hv st' kk=>?_;obtain⟨t,rfl⟩:=hv;have I1:Inv X pins σ H { s with heap:=h',toks:=tk }:=I.turned (fun b o hb e=>kk b o (by simpa using hb) e) f0 f1 f3 f4 f5;refine⟨_,rfl,Zw (s:={ s with heap:=h',toks:=tk }) (n:="range_iterator") st' rfl rfl (by decide) ⟨.int (lo + i),H,I1,⟨t,?_⟩,⟨rfl,rfl⟩,st',fun b hb=>(hf b hb).1⟩⟩;rw[Int.mul_one]
  done := by
    intro X hP hw hK hc i pins s σ H E I hf st hg;subst hP hw hK;obtain⟨f0,f1,f2,f3,f4,f5⟩:=hf it (by simp);exact wpAny_pyNext_range_end (I.ok.hd hc) st (by have:n<=i:=hg;lia) fun h' eb=>⟨rfl,I.turned (t':=s.toks) (fun b o hb e=>eb b o hb e) f0 f1 f3 f4 f5⟩
  self:=fun _ _ _ _ _ st h=>wpAny_pyIter_rangeiter st h
section
variable{X:Cx}{tg:ai}
def aoX(K:aw)(tl:TE):TI:=fun σ H R=>tl σ H fun x H1=>∃a,x=.ref a/\(∃xs,pO K H1 a xs)/\R (Itl K a) H1
def arC(K:aw)(tl:TE):TI:=fun σ H R=>tl σ H fun x H1=>∃a,x=.ref a/\(∃xs,ni K H1 a xs)/\R (Itt K a) H1
theorem Zx{l:ai}{tl:TE}(hl:PE X l tl):PI X tg l (aoX X.K tl):=by
 intro pins s σ H R I h;refine je (hl pins s σ H _ I h) fun v s1 fH=>?_;obtain⟨x,H1,I1,r1,q1⟩:=fH;obtain⟨a,e,⟨xs,hq⟩,q⟩:=q1;subst e;cases r1;obtain⟨its,rv,p,hz⟩:=I1.list hq;refine qo p.isList ?_;refine⟨s1.heap.objs.size,[s1.heap.objs.size],_,_,H1,rfl,I1.kept (t':=s1.toks) fun b o e=>bX _ e,aaW a _,⟨_,dc _ rfl,rfl,rfl⟩,fun b hb=>?_,q⟩;have e:b=s1.heap.objs.size:=by simpa using hb
 subst e;exact I1.Wr (br _) (I1.hok.fresh (br _))
theorem adb{l:ai}{tl:TE}(hl:PE X l tl):PI X tg l (arC X.K tl):=by
 intro pins s σ H R I h;refine je (hl pins s σ H _ I h) fun v s1 fH=>?_;obtain⟨x,H1,I1,r1,q1⟩:=fH;obtain⟨a,e,⟨xs,hq⟩,q⟩:=q1;subst e;cases r1;obtain⟨its,rv,p,hz⟩:=I1.tuple hq;refine wpAny_pyIter_tuple (show s1.heap.IsTuple a its.toArray from p) ?_;refine⟨s1.heap.objs.size,[s1.heap.objs.size],_,_,H1,rfl,I1.kept (t':=s1.toks) fun b o e=>bX _ e,Ws a _,⟨_,dc _ rfl,rfl,rfl⟩,fun b hb=>?_,q⟩;have e:b=s1.heap.objs.size:=by simpa using hb
 subst e;exact I1.Wr (br _) (I1.hok.fresh (br _))
theorem Qj{pins:List (ab×Obj)}{σ:St}{H:Hp}{s:af}{R:It->Hp->Prop}{E:aa->af->Prop}{lo hi:Int}{t u v:Tok}{tk:Nat}(I:Inv X pins σ H s)(h1:-(2 ^ 62)<=lo)(h2:lo < 2 ^ 62)(h3:-(2 ^ 62)<=hi)(h4:hi < 2 ^ 62)
  (q:R (Itr lo (hi - lo).toNat) H):ag (ah X.prog X.w) X.A (kB (.ref s.heap.objs.size)) (PIE X pins σ tg R) E { s with heap:=s.heap.push { cls:=.type "range",data:=.fields #[.int lo t,.int hi u,.int 1 v] },toks:=tk }:=by
 refine wpAny_pyIter_range (IsRange.new ..) (small_one h1 h2 h3 h4) ?_;have I1:Inv X pins σ H { s with heap:=s.heap.push { cls:=.type "range",data:=.fields #[.int lo t,.int hi u,.int 1 v] },toks:=tk }:=I.kept fun b o e=>bX _ e;refine⟨(s.heap.push { cls:=.type "range",data:=.fields #[.int lo t,.int hi u,.int 1 v] }).objs.size,[(s.heap.push { cls:=.type "range",data:=.fields #[.int lo t,.int hi u,.int 1 v] }).objs.size],_,_,H,rfl,
  I1.kept (t':=tk) fun b o e=>bX _ e,Wt _ lo (hi - lo).toNat,?_,fun b hb=>?_,q⟩
 ·have e1:lo + ((0:Nat):Int) * 1=lo:=by simp
  have e2:(((hi - lo).toNat:Nat):Int) - ((0:Nat):Int)=cy.Range.rangeSize lo hi 1:=by rw[rangeSize_one];split <;> lia
  show IsRangeIter _ _ (lo + ((0:Nat):Int) * 1) ((((hi - lo).toNat:Nat):Int) - ((0:Nat):Int)) 1;rw[e1,e2];exact dc _ rfl
 ·have e:b=(s.heap.push { cls:=.type "range",data:=.fields #[.int lo t,.int hi u,.int 1 v] }).objs.size:=by simpa using hb
  subst e;exact I1.Wr (br _) (I1.hok.fresh (br _))
def aoY(ta:TA):TI:=fun σ H R=>ta σ H fun vs H1=>∃j:Int,vs=[.int j]/\-(2 ^ 62)<=j/\j < 2 ^ 62/\R (Itr 0 j.toNat) H1
def aoZ(ta:TA):TI:=fun σ H R=>ta σ H fun vs H1=>∃i j:Int,vs=[.int i,.int j]/\(-(2 ^ 62)<=i/\i < 2 ^ 62/\-(2 ^ 62)<=j/\j < 2 ^ 62)/\R (Itr i (j - i).toNat) H1
theorem aaX{a:ai}{ta:TA}{p pos:Pos}(hg:Gl X "range") (hm:X.mg "range"=none) (ha:PA X [a] ta) (hs:bo [a] X.env=[(false,ba a X.env)]:=by rfl):PI X tg (.Call (.Name "range" p) [a] [] pos) (aoY ta):=by
 intro pins s σ H R I h;refine Call_ (yM I hg hm boot_range (qq (je (ha pos pins s σ H _ I h) fun us s1 ⟨vs,H1,I1,r1,q1⟩=>?_) hs rfl));obtain⟨j,e,q1,q2,q⟩:=q1;subst e;cases r1 with
 |cons r rr =>
  cases rr;obtain⟨t,rfl⟩:=r;exact call_range_1 (Qj I1 (by lia) (by lia) q1 q2 (by simpa using q))
theorem aaY{a b:ai}{ta:TA}{p pos:Pos}(hg:Gl X "range") (hm:X.mg "range"=none) (ha:PA X [a,b] ta) (hs:bo [a,b] X.env=[(false,ba a X.env),(false,ba b X.env)]:=by rfl) (hs2:bo [b] X.env=[(false,ba b X.env)]:=by rfl) :
  PI X tg (.Call (.Name "range" p) [a,b] [] pos) (aoZ ta):=by
 intro pins s σ H R I h;refine Call_ (yM I hg hm boot_range (qq (je (ha pos pins s σ H _ I h) fun us s1 ⟨vs,H1,I1,r1,q1⟩=>?_) (by rw[hs,hs2]) (by rw[hs2];rfl)));obtain⟨i,j,e,⟨q1,q2,q3,q4⟩,q⟩:=q1;subst e;cases r1 with
 |cons r rr =>
  cases rr with
  |cons r' rr =>
   cases rr;obtain⟨t,rfl⟩:=r;obtain⟨t',rfl⟩:=r';exact call_range_2 (Qj I1 q1 q2 q3 q4 q)
def arD(wi:TI)(g:TG)(tb:TS):TS:=fun D σ H=>wi σ H fun J H1=>∃W:Nat->Nat->St->Hp->Prop,(∃m,W 0 m σ H1)/\∀i m σ H,W i m σ H ->
 (J.stop i H/\D.nx σ H)∨(J.go i H/\∃N:St->Hp->Prop,(∀σ' H',N σ' H'->∃m',m' < m/\W (i + 1) m' σ' H')/\∀x H',J.yld i H x H'->g x σ H' fun σ2 H2=>tb { D with nx:=N,ct:=N,bk:=D.nx } σ2 H2)
def yO(fp:List ab)(h:Heap):List (ab×Obj):=fp.filterMap fun b=>(h.get? b).map fun o=>(b,o)
theorem qy{fp:List ab}{h:Heap}{b:ab}{o:Obj}(hb:b∈fp)(e:h.get? b=some o):(b,o)∈yO fp h:=kb.mpr ⟨b,hb,by rw[e];rfl⟩
theorem aaZ{fp:List ab}{h:Heap}{p:ab×Obj}(hp:p∈yO fp h):p.1∈fp/\h.get? p.1=some p.2:=by
 obtain⟨b,hb,e⟩:=kb.mp hp;cases q:h.get? b with
 |none=>rw[q]at e;cases e
 |some o =>
  rw[q]at e;have e':(b,o)=p:=dq e;subst e';exact⟨hb,q⟩
theorem Inv.pinned{pins:List (ab×Obj)}{σ:St}{H:Hp}{s:af}{fp:List ab}(I:Inv X pins σ H s)(hf:∀b∈fp,qx X pins H b)(ho:∀b∈fp,∃o,s.heap.get? b=some o/\∀v,o.data≠.cell v):Inv X (pins++yO fp s.heap) σ H s :=
 I.Cd fun p hp=>(d9.mp hp).elim (fun z=>I.pin p (fq _ z)) fun z=>by obtain⟨hb,e⟩:=aaZ z;obtain⟨f0,f1,f2,_⟩:=hf p.1 hb;obtain⟨o,e',d⟩:=ho p.1 hb;rw[e]at e';cases e';exact⟨e,f0,f1,f2,d⟩
theorem Inv.wM{pins pl:List (ab×Obj)}{σ:St}{H:Hp}{s:af}(I:Inv X (pins++pl) σ H s):Inv X pins σ H s:=I.Cd fun p hp=>I.pin p (fq _ (l5 _ hp))
theorem CN{iter:ai}{body:List bj}{wi:TI}{g:TG}{tb:TS}{pos:Pos}(hp:md (ah X.prog X.w) X.A X.env X.xe)(hc:X.calm=true)(hi:PI X tg iter wi)(hg:PG X tg g)(hb:Wn X body tb)
  (hs:∀x,hV iter X.env x=pure x:=by intro _;rfl):PS X (.For tg iter body [] pos) (arD wi g tb):=by
 intro pins s σ H D I h;refine wpAny_For (je (hi pins s σ H _ I h) fun v s1 h1=>je h1 fun itv s2 h2=>?_) hs;obtain⟨it,fp,tn,J,H2,e,I2,T,st2,f2,W,⟨m0,w0⟩,turn⟩:=h2;subst e;have stat:∀{H':Hp},(∀b∈fp,H' b=none)->∀b∈fp,qx X pins H' b:=fun hn b hb=>⟨hn b hb,(f2 b hb).2⟩
 refine codeAny_forLoop_any (fun n s'=>∃i σ' H',Inv X pins σ' H' s'/\tn i s'.heap/\(∀b∈fp,H' b=none)/\W i n σ' H') ?_ m0 ⟨0,σ,H2,I2,st2,fun b hb=>(f2 b hb).1,w0⟩;rintro n s3 ⟨i,σ3,H3,I3,st3,fr3,w3⟩;rcases turn i n σ3 H3 w3 with ⟨stop,qn⟩|⟨go,N,hN,step⟩
 ·refine oj hp (je (T.done X rfl rfl rfl hc i pins s3 σ3 H3 X.xe I3 (stat fr3) st3 stop) fun r s4 fH=>?_);obtain⟨hr,I4⟩:=fH;subst hr;exact vn ⟨σ3,H3,I4,qn⟩
 ·refine oj hp (je (T.item X rfl rfl rfl hc i pins s3 σ3 H3 X.xe I3 (stat fr3) st3 go) fun r s4 fH=>?_);obtain⟨u,hr,h4⟩:=fH;subst hr;refine oj hp (je h4 fun _ s5 fH=>?_);obtain⟨x,H5,I5,r5,y5,st5,fr5⟩:=fH;have I5':=I5.pinned (stat fr5) (T.obj _ _ st5);refine oj hp (je (hg _ s5 σ3 H5 x u _ I5' r5 (step x H5 y5)) fun _ s6 fH=>?_);obtain⟨σ6,H6,I6,q6⟩:=fH;refine oj hp (je (hb _ s6 σ6 H6 _ I6 q6) fun f s7 q7=>?_);have again:∀{σ7:St}{H7:Hp},Inv X (pins++yO fp s5.heap) σ7 H7 s7->N σ7 H7->∃m,m < n/\∃i σ' H',Inv X pins σ' H' s7/\tn i s7.heap/\(∀b∈fp,H' b=none)/\W i m σ' H':=fun {σ7 H7} I7 n7=>by obtain⟨m',hm,w7⟩:=hN σ7 H7 n7;refine⟨m',hm,i + 1,σ7,H7,I7.wM,T.keep _ _ _ st5 fun b hb o e=>(I7.pin (b,o) (fq _ (fq _ (qy hb e)))).1,fun b hb=>?_,w7⟩;obtain⟨o,e,d⟩:=T.obj _ _ st5 b hb;exact(I7.pin (b,o) (fq _ (fq _ (qy hb e)))).2.1
  cases f with
  |next=>obtain⟨σ7,H7,I7,n7⟩:=q7;exact again I7 n7
  |cont=>obtain⟨σ7,H7,I7,n7⟩:=q7;exact again I7 n7
  |brk=>obtain⟨σ7,H7,I7,q7⟩:=q7;exact⟨σ7,H7,I7.wM,q7⟩
  |ret v=>obtain⟨x7,σ7,H7,I7,r7,q7⟩:=q7;exact⟨x7,σ7,H7,I7.wM,r7,q7⟩
end
theorem ade{K:aw}{a:ab}{xs:List V}{g:TG}{tb:TS}{D:Ends}{σ:St}{H:Hp}(Pv:Nat->St->Hp->Prop)(h0:Pv 0 σ H)(hl:∀i σ H,i<=xs.length->Pv i σ H->pO K H a xs)
  (hs:∀i x σ H,xs[i]?=some x->Pv i σ H->g x σ H fun σ2 H2=>tb { D with nx:=Pv (i + 1),ct:=Pv (i + 1),bk:=D.nx } σ2 H2) (hd:∀σ H,Pv xs.length σ H->D.nx σ H) :
  ∃W:Nat->Nat->St->Hp->Prop,(∃m,W 0 m σ H)/\∀i m σ H,W i m σ H ->
   ((Itl K a).stop i H/\D.nx σ H)∨((Itl K a).go i H/\∃N:St->Hp->Prop,(∀σ' H',N σ' H'->∃m',m' < m/\W (i + 1) m' σ' H')/\∀x H',(Itl K a).yld i H x H'->g x σ H' fun σ2 H2=>tb { D with nx:=N,ct:=N,bk:=D.nx } σ2 H2):=by
 refine⟨fun i m σ H=>m=xs.length - i/\i<=xs.length/\Pv i σ H,⟨xs.length,by simp,eC _,h0⟩,?_⟩;rintro i m σ H ⟨rfl,hi,p⟩;have q:=hl i σ H hi p;by_cases hlt:i < xs.length
 ·refine .inr ⟨⟨xs,xs[i],q,by simp[hlt]⟩,Pv (i + 1),fun σ' H' p'=>⟨xs.length - (i + 1),by lia,rfl,hlt,p'⟩,fun x H' y=>?_⟩;obtain⟨e,y⟩:=y;subst e;exact hs i x σ _ (y xs q) p
 ·have e:i=xs.length:=by lia
  subst e;exact .inl ⟨⟨xs,q,br _⟩,hd σ H p⟩
theorem ahY{K:aw}{a:ab}{xs:List V}{g:TG}{tb:TS}{D:Ends}{σ:St}{H:Hp}(Pv:Nat->St->Hp->Prop)(h0:Pv 0 σ H)(hl:∀i σ H,i<=xs.length->Pv i σ H->ni K H a xs)
  (hs:∀i x σ H,xs[i]?=some x->Pv i σ H->g x σ H fun σ2 H2=>tb { D with nx:=Pv (i + 1),ct:=Pv (i + 1),bk:=D.nx } σ2 H2) (hd:∀σ H,Pv xs.length σ H->D.nx σ H) :
  ∃W:Nat->Nat->St->Hp->Prop,(∃m,W 0 m σ H)/\∀i m σ H,W i m σ H ->
   ((Itt K a).stop i H/\D.nx σ H)∨((Itt K a).go i H/\∃N:St->Hp->Prop,(∀σ' H',N σ' H'->∃m',m' < m/\W (i + 1) m' σ' H')/\∀x H',(Itt K a).yld i H x H'->g x σ H' fun σ2 H2=>tb { D with nx:=N,ct:=N,bk:=D.nx } σ2 H2):=by
 refine⟨fun i m σ H=>m=xs.length - i/\i<=xs.length/\Pv i σ H,⟨xs.length,by simp,eC _,h0⟩,?_⟩;rintro i m σ H ⟨rfl,hi,p⟩;have q:=hl i σ H hi p;by_cases hlt:i < xs.length
 ·refine .inr ⟨⟨xs,xs[i],q,by simp[hlt]⟩,Pv (i + 1),fun σ' H' p'=>⟨xs.length - (i + 1),by lia,rfl,hlt,p'⟩,fun x H' y=>?_⟩;obtain⟨e,y⟩:=y;subst e;exact hs i x σ _ (y xs q) p
 ·have e:i=xs.length:=by lia
  subst e;exact .inl ⟨⟨xs,q,br _⟩,hd σ H p⟩
theorem abb{lo:Int}{n:Nat}{g:TG}{tb:TS}{D:Ends}{σ:St}{H:Hp}(Pv:Nat->St->Hp->Prop)(h0:Pv 0 σ H)
  (hs:∀i σ H,i < n->Pv i σ H->g (.int (lo + i)) σ H fun σ2 H2=>tb { D with nx:=Pv (i + 1),ct:=Pv (i + 1),bk:=D.nx } σ2 H2) (hd:∀σ H,Pv n σ H->D.nx σ H) :
  ∃W:Nat->Nat->St->Hp->Prop,(∃m,W 0 m σ H)/\∀i m σ H,W i m σ H ->
   ((Itr lo n).stop i H/\D.nx σ H)∨((Itr lo n).go i H/\∃N:St->Hp->Prop,(∀σ' H',N σ' H'->∃m',m' < m/\W (i + 1) m' σ' H')/\∀x H',(Itr lo n).yld i H x H'->g x σ H' fun σ2 H2=>tb { D with nx:=N,ct:=N,bk:=D.nx } σ2 H2):=by
 refine⟨fun i m σ H=>m=n - i/\i<=n/\Pv i σ H,⟨n,by simp,eC _,h0⟩,?_⟩;rintro i m σ H ⟨rfl,hi,p⟩;by_cases hlt:i < n
 ·refine .inr ⟨hlt,Pv (i + 1),fun σ' H' p'=>⟨n - (i + 1),by lia,rfl,hlt,p'⟩,fun x H' y=>?_⟩;obtain⟨e,y⟩:=y;subst e y;exact hs i σ _ hlt p
 ·have e:i=n:=by lia
  subst e;exact .inl ⟨br _,hd σ H p⟩
abbrev R2:=V->V->Hp->VK->Prop
def uU(X:Cx)(f:aa->aa->Sem aa)(r:R2):Prop :=
 ∀(pins:List (ab×Obj)) (s:af) (σ:St) (H:Hp) (x y:V) (v u:aa) (Q:VK),Inv X pins σ H s->RelV x v->RelV y u->r x y H Q ->
  ag (ah X.prog X.w) X.A (f v u) (EP X pins σ Q) X.xe s
def UnR(X:Cx)(f:aa->Sem aa)(r:V->Hp->VK->Prop):Prop :=
 ∀(pins:List (ab×Obj)) (s:af) (σ:St) (H:Hp) (x:V) (v:aa) (Q:VK),Inv X pins σ H s->RelV x v->r x H Q ->
  ag (ah X.prog X.w) X.A (f v) (EP X pins σ Q) X.xe s
def gw(X:Cx)(f:aa)(r:List V->Hp->VK->Prop):Prop :=
 ∀(pins:List (ab×Obj)) (s:af) (σ:St) (H:Hp) (xs:List V) (us:List aa) (Q:VK),Inv X pins σ H s->Vals xs us->r xs H Q ->
  ag (ah X.prog X.w) X.A (call f us) (EP X pins σ Q) X.xe s
def tOp(r:R2)(ta tb:TE):TE:=fun σ H Q=>ta σ H fun x H1=>tb σ H1 fun y H2=>r x y H2 Q
def tUn(r:V->Hp->VK->Prop)(ta:TE):TE:=fun σ H Q=>ta σ H fun x H1=>r x H1 Q
def rI(C:Int->Int->Prop)(g:Int->Int->V):R2:=fun x y H Q=>∃i j,x=.int i/\y=.int j/\C i j/\Q (g i j) H
def rI0(g:Int->Int->V):R2:=fun x y H Q=>∃i j,x=.int i/\y=.int j/\Q (g i j) H
def rU(g:Int->V):V->Hp->VK->Prop:=fun x H Q=>∃i,x=.int i/\Q (g i) H
section
variable{X:Cx}{a b c:ai}{ta tb tc:TE}{pos:Pos}
theorem amb(ha:PE X a ta)(hb:PE X b tb){pins:List (ab×Obj)}{s:af}{σ:St}{H:Hp}{R:V->V->Hp->Prop}(I:Inv X pins σ H s)
  (h:ta σ H fun x H1=>tb σ H1 fun y H2=>R x y H2) {Q:aa->af->Prop}{f:aa->aa->Sem aa}
  (hf:∀v u s2 x y H2,Inv X pins σ H2 s2->RelV x v->RelV y u->R x y H2->ag (ah X.prog X.w) X.A (f v u) Q X.xe s2) :
  ag (ah X.prog X.w) X.A (ba a X.env) (fun v s₁=>ag (ah X.prog X.w) X.A (ba b X.env) (fun u s₂=>ag (ah X.prog X.w) X.A (f v u) Q X.xe s₂) X.xe s₁) X.xe s:=by
 refine je (ha pins s σ H _ I h) fun v s1 fH=>?_;obtain⟨x,H1,I1,r1,q1⟩:=fH;refine je (hb pins s1 σ H1 _ I1 q1) fun u s2 fH=>?_;obtain⟨y,H2,I2,r2,q2⟩:=fH;exact hf v u s2 x y H2 I2 r1 r2 q2
theorem akX{op:Operator}{r:R2}(ho:uU X (hW op) r)(ha:PE X a ta)(hb:PE X b tb):PE X (.BinOp a op b pos) (tOp r ta tb):=by intro pins s σ H Q I h;exact wpAny_BinOp (amb ha hb I h fun v u s2 x y H2 I2 rx ry q=>ho pins s2 σ H2 x y v u Q I2 rx ry q)
theorem apb{op:UnaryOp}{r:V->Hp->VK->Prop}(ho:UnR X (unaryOp op) r)(ha:PE X a ta):PE X (.UnaryOp op a pos) (tUn r ta):=by intro pins s σ H Q I h;exact UnaryOp_ (je (ha pins s σ H _ I h) fun v s1 ⟨x,H1,I1,r1,q1⟩=>ho pins s1 σ H1 x v Q I1 r1 q1)
theorem opI{f:aa->aa->Sem aa}{C:Int->Int->Prop}{g:Int->Int->Int}
  (rule:∀(i j:Int) (t u:Tok) (s:af) (Q:aa->af->Prop) (E:aa->af->Prop),C i j->Q (.int (g i j) s.toks) { s with toks:=s.toks + 1 }->ag (ah X.prog X.w) X.A (f (.int i t) (.int j u)) Q E s) :
  uU X f (rI C fun i j=>.int (g i j)):=by
 intro pins s σ H x y v u Q I rx ry h;obtain⟨i,j,rfl,rfl,hc,q⟩:=h;obtain⟨t,rfl⟩:=rx;obtain⟨t',rfl⟩:=ry;exact rule i j t t' s _ _ hc ⟨.int (g i j),H,I.tok _,⟨_,rfl⟩,q⟩
theorem apc{f:aa->aa->Sem aa}{g:Int->Int->Int}
  (rule:∀(i j:Int) (t u:Tok) (s:af) (Q:aa->af->Prop) (E:aa->af->Prop),Q (.int (g i j) s.toks) { s with toks:=s.toks + 1 }->ag (ah X.prog X.w) X.A (f (.int i t) (.int j u)) Q E s) :
  uU X f (rI0 fun i j=>.int (g i j)):=by
 intro pins s σ H x y v u Q I rx ry h;obtain⟨i,j,rfl,rfl,q⟩:=h;obtain⟨t,rfl⟩:=rx;obtain⟨t',rfl⟩:=ry;exact rule i j t t' s _ _ ⟨.int (g i j),H,I.tok _,⟨_,rfl⟩,q⟩
theorem amc{f:aa->aa->Sem aa}{g:Int->Int->Bool}
  (rule:∀(i j:Int) (t u:Tok) (s:af) (Q:aa->af->Prop) (E:aa->af->Prop),Q (.bool (g i j)) s->ag (ah X.prog X.w) X.A (f (.int i t) (.int j u)) Q E s) :
  uU X f (rI0 fun i j=>.bl (g i j)):=by
 intro pins s σ H x y v u Q I rx ry h;obtain⟨i,j,rfl,rfl,q⟩:=h;obtain⟨t,rfl⟩:=rx;obtain⟨t',rfl⟩:=ry;exact rule i j t t' s _ _ ⟨.bl (g i j),H,I,rfl,q⟩
def adf(i j:Int):Prop:=0<=j/\j<=1000000/\i.natAbs < 2 ^ 64
def Wu(i j:Int):Prop:=(-(2 ^ 64) < i/\i < 2 ^ 64)∨(-(2 ^ 64) < j/\j < 2 ^ 64)
theorem Wu.ok{i j:Int}(h:Wu i j):IntMulOk i j:=by
 rcases h with ⟨h1,h2⟩|⟨h1,h2⟩
 ·exact .of_left (intBits_le_64 h1 h2)
 ·exact .of_right (intBits_le_64 h1 h2)
theorem amd:uU X (hW .Add) (rI0 fun i j=>.int (i + j)):=apc fun _ _ _ _ _ _ _ q=>add_int q
theorem ame:uU X (hW .Sub) (rI0 fun i j=>.int (i - j)):=apc fun _ _ _ _ _ _ _ q=>sub_int q
theorem amf:uU X (hW .Mult) (rI Wu fun i j=>.int (i * j)):=opI fun _ _ _ _ _ _ _ hc q=>mul_int q hc.ok
theorem amg:uU X (hW .Mod) (rI (fun _ j=>0 < j) fun i j=>.int (i % j)):=opI fun i j _ _ _ _ _ hc q=>by have h1:(0:Int) < j:=hc;exact mod_int' (by lia) (by rw[Int.fmod_eq_emod_of_nonneg i (by lia)];exact q)
theorem amh:uU X (hW .Pow) (rI adf fun i j=>.int (i ^ j.toNat)):=opI fun _ _ _ _ _ _ _ hc q=>pow_int_small hc.1 hc.2.1 hc.2.2 q
theorem unI{f:aa->Sem aa}{g:Int->Int}
  (rule:∀(i:Int) (t:Tok) (s:af) (Q:aa->af->Prop) (E:aa->af->Prop),Q (.int (g i) s.toks) { s with toks:=s.toks + 1 }->ag (ah X.prog X.w) X.A (f (.int i t)) Q E s) :
  UnR X f (rU fun i=>.int (g i)):=by
 intro pins s σ H x v Q I rx h;obtain⟨i,rfl,q⟩:=h;obtain⟨t,rfl⟩:=rx;exact rule i t s _ _ ⟨.int (g i),H,I.tok _,⟨_,rfl⟩,q⟩
theorem ami:UnR X (unaryOp .USub) (rU fun i=>.int (-i)):=unI fun _ _ _ _ _ q=>neg_int q
end
section
variable{X:Cx}{a b c:ai}{ta tb tc:TE}{pos:Pos}
theorem adg{pins:List (ab×Obj)}{σ:St}{H:Hp}{s:af}{Q:VK}{k k':Bool}(I:Inv X pins σ H s)(q:Q (.bl k) H)(e:k=k'):EP X pins σ Q (.bool k') s:=by subst e;exact⟨.bl k,H,I,rfl,q⟩
theorem apd:uU X (fx .Lt) (rI0 fun i j=>.bl (decide (i < j))):=amc fun _ _ _ _ _ _ _ q=>lt_int q
theorem ape:uU X (fx .Gt) (rI0 fun i j=>.bl (decide (j < i))):=amc fun _ _ _ _ _ _ _ q=>gt_int q
theorem apf:uU X (fx .GtE) (rI0 fun i j=>.bl (decide (j<=i))):=amc fun _ _ _ _ _ _ _ q=>ge_int q
theorem amj:uU X (fx .Is) (fun x y H Q=>y=.non/\Q (.bl (decide (x=.non))) H):=by
 intro pins s σ H x y v u Q I rx ry h;obtain⟨rfl,q⟩:=h;cases ry;refine is_none_gen (adg I q ?_);cases x <;> first
  | (cases rx;rfl)
  | (obtain⟨t,rfl⟩:=rx;rfl)
theorem Zy:uU X (fx .IsNot) (fun x y H Q=>y=.non/\Q (.bl (!decide (x=.non))) H):=by
 intro pins s σ H x y v u Q I rx ry h;obtain⟨rfl,q⟩:=h;cases ry;refine isnot_none_gen (adg I q ?_);cases x <;> first
  | (cases rx;rfl)
  | (obtain⟨t,rfl⟩:=rx;rfl)
theorem uU.or{f:aa->aa->Sem aa}{r r':R2}(h:uU X f r)(h':uU X f r'):uU X f (fun x y H Q=>r x y H Q∨r' x y H Q):=by
 intro pins s σ H x y v u Q I rx ry q;rcases q with q|q
 ·exact h pins s σ H x y v u Q I rx ry q
 ·exact h' pins s σ H x y v u Q I rx ry q
theorem vC(b:ai){op:kU}(h:op≠.In:=by decide)(h2:op≠.NotIn:=by decide):iA op b=false:=by
 have e1:(op == kU.In)=false:=by cases op <;> first|rfl|exact absurd rfl h
 have e2:(op == kU.NotIn)=false:=by cases op <;> first|rfl|exact absurd rfl h2
 cases b <;> simp[iA,e1,e2]
theorem ahZ{op:kU}{r:R2}(ho:uU X (fx op) r)(ha:PE X a ta)(hb:PE X b tb)(hm:iA op b=false):PE X (.Compare a [op] [b] pos) (tOp r ta tb):=by intro pins s σ H Q I h;exact wpAny_Compare1 (amb ha hb I h fun v u s2 x y H2 I2 rx ry q=>ho pins s2 σ H2 x y v u Q I2 rx ry q) hm
def apg(t:TE):TT:=fun σ H Q=>t σ H fun x H'=>∃k,x=.bl k/\Q k H'
theorem aia{op:kU}{r:R2}(ho:uU X (fx op) r)(ha:PE X a ta)(hb:PE X b tb)(hm:iA op b=false):PT X (.Compare a [op] [b] pos) (apg (tOp r ta tb)):=by
 intro pins s σ H Q I h;refine wpAny_isTrue_Compare1 (je (ha pins s σ H _ I h) fun v s1 ⟨x,H1,I1,r1,q1⟩=>je (hb pins s1 σ H1 _ I1 q1) fun u s2 ⟨y,H2,I2,r2,q2⟩ =>
  je (ho pins s2 σ H2 x y v u _ I2 r1 r2 q2) fun c s3 ⟨z,H3,I3,r3,k,e,q3⟩=>?_) hm
 subst e;cases r3;exact l8 ⟨H3,I3,q3⟩
theorem CP:(sizeLine:Nat) < 2 ^ 63:=by rw[d8];decide
theorem Zz{x:V}{us:List aa}(r:Vals [x] us):∃u,us=[u]/\RelV x u:=by
 cases r with
 |cons r1 r2=>cases r2;exact⟨_,rfl,r1⟩
theorem adh{x y:V}{us:List aa}(r:Vals [x,y] us):∃u w',us=[u,w']/\RelV x u/\RelV y w':=by
 cases r with
 |cons r1 r2 =>
  cases r2 with
  |cons r3 r4=>cases r4;exact⟨_,_,rfl,r1,r3⟩
theorem adi:gw X (.builtin "abs") (fun xs H Q=>∃i,xs=[.int i]/\Q (.int (if i < 0 then-i else i)) H):=by
 intro pins s σ H xs us Q I r h;obtain⟨i,rfl,q⟩:=h;obtain⟨u,rfl,t,rfl⟩:=Zz r;exact call_abs_int fun u tk=>⟨.int (if i < 0 then-i else i),H,I.tok _,⟨_,rfl⟩,q⟩
theorem abd(hc:X.calm=true):gw X (.builtin "max") (fun xs H Q=>∃i j,xs=[.int i,.int j]/\Q (.int (if j > i then j else i)) H):=by
 intro pins s σ H xs us Q I r h;obtain⟨i,j,rfl,q⟩:=h;obtain⟨u,w',rfl,⟨t,rfl⟩,⟨t',rfl⟩⟩:=adh r;refine max_two_ints (I.ok.hd hc) fun h' tk k=>⟨_,H,I.kept k,?_,q⟩
 by_cases hj:j > i
 ·rw[if_pos hj,if_pos hj];exact⟨_,rfl⟩
 ·rw[if_neg hj,if_neg hj];exact⟨_,rfl⟩
theorem abe(hc:X.calm=true):gw X (.builtin "min") (fun xs H Q=>∃i j,xs=[.int i,.int j]/\Q (.int (if j < i then j else i)) H):=by
 intro pins s σ H xs us Q I r h;obtain⟨i,j,rfl,q⟩:=h;obtain⟨u,w',rfl,⟨t,rfl⟩,⟨t',rfl⟩⟩:=adh r;refine min_two_ints (I.ok.hd hc) fun h' tk k=>⟨_,H,I.kept k,?_,q⟩
 by_cases hj:j < i
 ·rw[if_pos hj,if_pos hj];exact⟨_,rfl⟩
 ·rw[if_neg hj,if_neg hj];exact⟨_,rfl⟩
end
structure atQ (h:Heap)(x dx C:ab)(mA:Str->Option aa):Prop where
 obj:h.get? x=some (PySem.W.instObj C dx)
 ns:h.Ns1 dx mA
 ne:dx≠x
section
variable{prog:aE}{w:az}{A:a_}{E:aa->af->Prop}{s:af}{K:aw}{x dx C f:ab}{mA:Str->Option aa}{name:Str}{v:aa}
end
section
variable{P:aE}{w:az}{H H':Hp}{h h':Heap}{a C dx:ab}{fs fs':List (Str×V)}
end
structure Cls (K:aw)(C:ab):Prop where
 pg:PySem.W.plainGet K C Str.empty=true
 hd:PySem.W.hasDictIn K C=true
 po:PySem.W.plainOver K C=true
 sa:om K (.ref C) "__setattr__"=some (some (.builtin "object.__setattr__"))
structure Con (K:aw)(C:ab)(f:Str)(v:V)(u:aa):Prop where
 at_:om K (.ref C) f=some (some u)
 rel:RelV v u
 get:PySem.W.specialIn K u "__get__"=some none
 cp:PySem.W.copiedNames.contains f=false
structure Meth (K:aw)(C:ab)(m:Str)(f:ab):Prop where
 at_:om K (.ref C) m=some (some (.ref f))
 fn:PySem.W.isFn K (.ref f)=true
 kp:kc K (.ref f)=true
section
variable{X:Cx}{pins:List (ab×Obj)}{σ:St}{H:Hp}{s:af}{a C dx:ab}{fs:List (Str×V)}{f:Str}{v:V}{A:a_}{E:aa->af->Prop}
end
section
variable{X:Cx}{o e value:ai}{f:Str}{pos pos' tpos:Pos}{ta tv:TE}
end
section
variable{X:Cx}{pins:List (ab×Obj)}{σ:St}{H:Hp}{s:af}{A:a_}{E:aa->af->Prop}{Q:aa->af->Prop}{c:aa}{b:Bool}
inductive CQ (K:aw) (H:Hp):V->aa->Prop where
 |non:CQ K H .non (.type "NoneType")
 |bl (x:Bool):CQ K H (.bl x) (.type "bool")
 |int (i:Int):CQ K H (.int i) (.type "int")
 |str (x:Str):CQ K H (.str x) (.type "str")
 |flt (x:UInt64):CQ K H (.flt x) (.type "float")
 |lst {a:ab}{xs:List V}(e:H a=some (.lst xs)):CQ K H (.ref a) (.type "list")
 |Ak {a:ab}{o:Obj}{xs:List V}(e:H a=some (.Ak o (.lst xs))):CQ K H (.ref a) (.type "list")
 |tup {a:ab}{xs:List V}(e:H a=some (.tup xs)):CQ K H (.ref a) (.type "tuple")
 |dK {a:ab}{kvs:List (Qc×V)}(e:H a=some (.dK kvs)):CQ K H (.ref a) (.type "dict")
 |dT {a:ab}{kvs:List (List Qc×V)}(e:H a=some (.dT kvs)):CQ K H (.ref a) (.type "dict")
 |ins {a C dx:ab}{fs:List (Str×V)}(e:H a=some (.ins C dx fs)) (cl:Cls K C) (ha:om K (.ref C) "__class__"=some (some (.builtin "object.__class__")))
   (hn:PySem.W.specialIn K (.builtin "object.__class__") "__get__"=some (some (.builtin "getset_descriptor.__get__"))) (htk:PySem.W.takesIn K (.builtin "object.__class__")=some true)
   (hm:PySem.W.mroIn K C (.type "object")=some true):CQ K H (.ref a) (.ref C)
end
structure pB (k:Nat)(A:a_):Prop where
 hd:A.handled=none
 dp:A.depth + 3 * k + 5 < vw
 un:A.units + 16 * k + 200 < be
theorem pB.mono{j k:Nat}{A:a_}(r:pB k A)(h:j<=k):pB j A:=⟨r.hd,by have:=r.dp;lia,by have:=r.un;lia⟩
theorem pB.deeper{k:Nat}{A:a_}(r:pB (k + 1) A)(env:Env):pB k (A.deeper env) :=
 ⟨r.hd,by have:=r.dp;show A.depth + 1 + 3 * k + 5 < _;lia,by have:=r.un;show A.units + 3 + 16 * k + 200 < _;lia⟩
theorem pB.depth{k:Nat}{A:a_}(r:pB k A):A.depth < vw:=by have:=r.dp;lia
def amk:TA:=fun _ H Q=>Q [] H
def adk(ta:TE)(tr:TA):TA:=fun σ H Q=>ta σ H fun x H1=>tr σ H1 fun xs H2=>Q (x::xs) H2
section
variable{X:Cx}{e:ai}{es:List ai}{te:TE}{t:TA}{pos:Pos}
theorem jX:PA X [] amk:=fun _ _ _ _ H Q I h=>Calls.spliced_nil ⟨[],H,I,.nil,h⟩
theorem iC(ha:PE X e te)(hr:PA X es t)(hs:bo (e::es) X.env=(false,ba e X.env)::bo es X.env:=by rfl):PA X (e::es) (adk te t):=by
 intro pos pins s σ H Q I h;rw[hs];show ag _ _ (spliced ((false,ba e X.env)::d6 pos (bo es X.env))) _ _ s;refine Calls.spliced_cons (je (ha pins s σ H _ I h) fun u s1 fH=>?_);obtain⟨x,H1,I1,r1,q1⟩:=fH;exact je (hr pos pins s1 σ H1 _ I1 q1) fun us s2 ⟨xs,H2,I2,r2,q2⟩=>⟨x::xs,H2,I2,.cons r1 r2,q2⟩
def arG(t:TA):TE:=fun σ H Q=>t σ H fun xs H1=>xs.length<=sizeLine/\∀p,H1 p=none->Q (.ref p) (upd H1 p (.tup xs))
def arH(t:TA):TE:=fun σ H Q=>t σ H fun xs H1=>xs.length<=sizeLine/\∀p,H1 p=none->Q (.ref p) (upd H1 p (.lst xs))
theorem aml{x1}(h:PA X es t):PE X (.Tuple es x1 pos) (arG t):=by intro pins s σ H Q I hq;refine wpAny_Tuple_spliced (je (h pos pins s σ H _ I hq) fun us s1 ⟨xs,H1,I1,r,z,q⟩=>⟨by rw[<- r.length];exact z,?_⟩);have hf:H1 s1.heap.objs.size=none:=I1.hok.fresh (br _);refine⟨.ref s1.heap.objs.size,upd H1 s1.heap.objs.size (.tup xs),I1.laid (t':=s1.toks) (fun b u e=>bX _ e) (br _) ?_,rfl,q _ hf⟩;exact⟨z,us,r,⟨_,dc _ rfl,rfl,_,rfl⟩⟩
theorem adl(h:PA X es t):PE X (.List es pos) (arH t):=by intro pins s σ H Q I hq;refine wpAny_List_spliced (je (h pos pins s σ H _ I hq) fun us s1 ⟨xs,H1,I1,r,z,q⟩=>⟨by rw[<- r.length];exact z,?_⟩);have hf:H1 s1.heap.objs.size=none:=I1.hok.fresh (br _);refine⟨.ref s1.heap.objs.size,upd H1 s1.heap.objs.size (.lst xs),I1.laid (t':=s1.toks) (fun b u e=>bX _ e) (br _) ?_,rfl,q _ hf⟩;exact⟨z,us,0,r,dc _ rfl⟩
end
abbrev Sp:=List V->Hp->VK->XK->Prop
abbrev CXT:=List Env->Hp->af->XK->aa->af->Prop
structure aib (P:aE)(w:az)(K:aw)(mg:Str->Option aa)(base:Heap)(A:a_)(outer:List Env)(s:af)(H:Hp):Prop where
 frames:A.frames=some outer
 mod:Mod K mg base
 bs:∀b o,base.get? b=some o->s.heap.get? b=some o/\H b=none
 bsz:base.objs.size<=s.heap.objs.size
 CK:s.heap.FunFrames base outer
 frf:∀b∈pP outer,H b=none
 hok:yL P w H s.heap
 bare:kS s.gens
def CE(outer:List Env)(P:aE)(w:az)(H:Hp)(s:af)(Q:VK)(u:aa)(s':af):Prop :=
 ∃v H',s'.os=s.os/\kS s'.gens/\Un (pP outer) [] H H' s.heap s'.heap/\yL P w H' s'.heap/\RelV v u/\Q v H'
def CR(CX:CXT)(outer:List Env)(P:aE)(w:az)(H:Hp)(s:af)(Q:VK)(E:XK)(r:Result)(s':af):Prop :=
 match r with
 | .ok (.ret u)=>CE outer P w H s Q u s'
 | .ok _=>False
 | .error e=>CX outer H s E e s'
structure Wv (P:aE)(w:az)(K:aw)(mg:Str->Option aa)(base:Heap)(CX:CXT)(k:Nat)(f:ab)(fd:cq)(ps:List Str)(sp:Sp):Prop where
 len:∀vs H Q E,sp vs H Q E->vs.length=ps.length
 run:∀(A:a_) (outer:List Env) (s:af) (H:Hp) (args:Args) (us:List aa) (vs:List V) (Q:VK) (E:XK),pB k A->aib P w K mg base A outer s H->me s fd args (ps.zip us)->Vals vs us->sp vs H Q E ->
  f7 (ah P w) A (.call (.ref f) args) (CR CX outer P w H s Q E) s
section
variable{X:Cx}{pins:List (ab×Obj)}{σ:St}{H:Hp}{s s':af}
theorem Inv.env0(I:Inv X pins σ H s):aib X.prog X.w X.K X.mg X.base X.A X.stack s H :=
 ⟨I.ok.frames,I.ok.mod,I.bs,cz I.ok.bsz I.sz,I.stack,I.Ca,I.hok,I.bare⟩
theorem Inv.after{Q:VK}{u:aa}(I:Inv X pins σ H s)(h:CE X.stack X.prog X.w H s Q u s'):EP X pins σ Q u s':=by obtain⟨v,H',os,bare,un,hok,r,q⟩:=h;obtain⟨hh,g,d,t,os'⟩:=s';obtain rfl:os'=s.os:=os;exact⟨v,H',I.call (h':=hh) (g':=g) (d':=d) (t':=t) (ch:=[]) un hok bare (fun b z=>absurd z (by simp)),r,q⟩
end
def Binds(K:aw)(fd:cq)(ps:List Str)(ds:List aa):Prop :=
 ∀(s:af) (us:List aa),K.In s.heap->(us++ds).length=ps.length->me s fd ⟨us,[]⟩ (ps.zip (us++ds))
theorem Binds.all{K:aw}{fd:cq}{ps:List Str}(h:∀us:List aa,us.length=ps.length->bindArgs fd ⟨us,[]⟩=pure (ps.zip us)):Binds K fd ps []:=fun s us _ hl=>by rw[kC]at hl ⊢;exact .of_eq (h us hl)
section
variable{X:Cx}{CX:CXT}{k:Nat}{f C:ab}{fd:cq}{ps:List Str}{sp:Sp}{dvs:List V}{ds:List aa}{E:XK}{x m:Str}{p pos apos:Pos}{e o:ai}{es:List ai}{ta:TE}{t:TA}
structure Mk (K:aw)(C f:ab):Prop where
 makes:PySem.W.makesIn K C=true
 init:om K (.ref C) "__init__"=some (some (.ref f))
 fn:PySem.W.isFn K (.ref f)=true
 kp:kc K (.ref C)=true
end
section
variable{X:Cx}{CX:CXT}{k:Nat}{f C:ab}{fd:cq}{ps ks:List Str}{sp:Sp}{E:XK}{x m:Str}{p pos apos kpos:Pos}{e o:ai}{es:List ai}{kws:List kd}{te ta:TE}{t tk:TA}{nm:Option Str}
structure arI (K:aw)(fd:cq)(ps ks:List Str)(g:List aa->List aa->List aa)(gV:List V->List V->List V):Prop where
 to:∀(s:af) (us ws:List aa),K.In s.heap->(g us ws).length=ps.length->me s fd ⟨us,ks.zip ws⟩ (ps.zip (g us ws))
 rel:∀{vs:List V}{us:List aa}{zs:List V}{ws:List aa},Vals vs us->Vals zs ws->Vals (gV vs zs) (g us ws)
variable{g:List aa->List aa->List aa}{gV:List V->List V->List V}
end
structure bR (N P:List Str)(sc:Scope):Prop where
 kind:sc.kind=.function
 co:sc.isCoroutine=false
 gen:sc.isGenerator=false
 nd:N.Nodup
 pre:N.take P.length=P
 par:∀x∈P,sc.names.lookup x=some .local∨sc.names.lookup x=some .cell
 amm:∀y∈sc.names,y.2≠.free
theorem HW{kindOf:Str->Option eK}{x:Str}:∀{binds:List (Str×aa)}{m:Str->Option aa},(∀v,(x,v)∉binds)->kD kindOf binds m x=m x
 | [],_,_=>rfl
 | (n,v)::r,m,h=>by
  unfold kD;rw[HW fun w hw=>h w (dQ _ hw)];split
  ·have:x≠n:=by rintro rfl;exact h v dA
   simp[this]
  ·rfl
theorem HX{kindOf:Str->Option eK}{x:Str}:∀{binds:List (Str×aa)}{m:Str->Option aa},(∀v,(x,v)∉binds)->kF kindOf binds m x=m x
 | [],_,_=>rfl
 | (n,v)::r,m,h=>by
  unfold kF;rw[HX fun w hw=>h w (dQ _ hw)];split
  ·rfl
  ·have:x≠n:=by rintro rfl;exact h v dA
   simp[this]
theorem HY{kindOf:Str->Option eK}{x:Str}{v:aa}:∀{P:List Str}{vs:List aa}{i:Nat}{m:Str->Option aa},P.Nodup->P[i]?=some x->vs[i]?=some v->kindOf x=some .local ->
  kD kindOf (P.zip vs) m x=some v
 | [],_,_,_,_,h,_,_=>by simp at h
 |_::_,[],_,_,_,_,h,_=>by simp at h
 |p::P,w::vs,0,m,nd,h1,h2,hk=>by simp at h1 h2;subst h1;subst h2;show kD kindOf ((p,w)::P.zip vs) m p=_;unfold kD;rw[HW fun v hv=>(eQ.mp nd).1 (vx hv).1,if_pos hk];simp
 |p::P,w::vs,i + 1,m,nd,h1,h2,hk=>by show kD kindOf ((p,w)::P.zip vs) m x=_;unfold kD;exact HY (i:=i) (eQ.mp nd).2 (by simpa using h1) (by simpa using h2) hk
theorem Ia{kindOf:Str->Option eK}{x:Str}{v:aa}:∀{P:List Str}{vs:List aa}{i:Nat}{m:Str->Option aa},P.Nodup->P[i]?=some x->vs[i]?=some v->kindOf x≠some .local ->
  kF kindOf (P.zip vs) m x=some v
 | [],_,_,_,_,h,_,_=>by simp at h
 |_::_,[],_,_,_,_,h,_=>by simp at h
 |p::P,w::vs,0,m,nd,h1,h2,hk=>by simp at h1 h2;subst h1;subst h2;show kF kindOf ((p,w)::P.zip vs) m p=_;unfold kF;rw[HX fun v hv=>(eQ.mp nd).1 (vx hv).1,if_neg hk];simp
 |p::P,w::vs,i + 1,m,nd,h1,h2,hk=>by show kF kindOf ((p,w)::P.zip vs) m x=_;unfold kF;exact Ia (i:=i) (eQ.mp nd).2 (by simpa using h1) (by simpa using h2) hk
def start(N:List Str)(vs:List V):St:=vs.map some++i7 (N.length - vs.length) none
def yP(CX:CXT)(P:aE)(w:az)(K:aw)(mg:Str->Option aa)(base:Heap)(N:List Str)(qual:Str)(scope:Scope)(f:ab)(cd:aa)(A:a_)(outer:List Env)(s:af)(H:Hp)(E:XK):Cx where
 prog:=P
 w:=w
 K:=K
 mg:=mg
 base:=base
 A:=A.deeper (kG qual scope s.heap.objs.size f cd)
 N:=N
 s₀:=s
 H₀:=H
 env:=kG qual scope s.heap.objs.size f cd
 outer:=outer
 stack:=kG qual scope s.heap.objs.size f cd::outer
 ex:=[]
 calm:=true
 fn:=fun _=>true
 pn:=[]
 xe:=fun e s'=>ag (ah P w) (A.deeper (kG qual scope s.heap.objs.size f cd)) (leaving (kG qual scope s.heap.objs.size f cd) e) (fun _ s''=>CX outer H s E e s'') (fun e' s''=>CX outer H s E e' s'') s'
theorem Qk{sc:Scope}{n:Nat}{x:Str}(h:sc.names.lookup x=some .cell):∃c,(cellsFrom n sc.names []).lookup x=some c:=by have q:=PySem.W.cellsFrom_some sc.names n [] (.inl h);exact Option.isSome_iff_exists.mp q
theorem abf{CX:CXT}{P:aE}{w:az}{K:aw}{mg:Str->Option aa}{base:Heap}{N ps:List Str}{qual:Str}{scope:Scope}{f:ab}{cd:aa}{A:a_}{outer:List Env}{s s1:af}{H:Hp}{E:XK}{us:List aa}{vs:List V}
  (S:bR N ps scope) (hd:A.handled=none) (e0:aib P w K mg base A outer s H) (hl:vs.length=ps.length) (r:Vals vs us)
  (x:InCallC s s.heap.objs.size (kD (kG qual scope s.heap.objs.size f cd).kindOf (ps.zip us) fun _=>none) (cellsFrom (s.heap.objs.size + 1) scope.names []) (kF (kG qual scope s.heap.objs.size f cd).kindOf (ps.zip us) fun _=>none) s1) :
  Inv (yP CX P w K mg base N qual scope f cd A outer s H E) [] (start N vs) H s1:=by
 have hpl:ps.length<=N.length:=by have:=congrArg f9 S.pre;rw[ke]at this;lia
 obtain⟨h1,tk,rfl,hk⟩:=x.done;have noA:∀b:ab,b∉(yP CX P w K mg base N qual scope f cd A outer s H E).ex:=fun b z=>absurd (show b∈([]:List ab) from z) (by simp);refine⟨⟨e0.mod,S.kind,rfl,rfl,br _,fun y z c h1 h2=>?_,fun y hy=>?_,fun y c _ h=>?_,fun _=>hd,a_.frames_deeper e0.frames,.inr ⟨rfl,rfl⟩,fun b z=>absurd z (noA b),e0.bs,e0.bsz,fun b _ _=>noA b,fun b z=>absurd z (noA b),e0.CK,e0.frf⟩,
  rfl,e0.bare,Un.kept hk,⟨_,x.toInCall.ns,fun i y v h1 h2 h3=>?_⟩,fun y c h=>⟨_,x.cell y c h⟩,e0.hok.fresh (br _),fun y c h=>?_,fun p hp=>absurd (show p∈([]:List (ab×Obj)) from hp) (by simp),e0.hok.kept hk,?_⟩
 ·exact name_of_addr x.apart (hZ h1) (hZ h2)
 ·have hy:scope.names.lookup y=some .cell∨scope.names.lookup y=some .free:=hy;rcases hy with hy|hy
  ·exact Qk hy
  ·exact absurd rfl (S.amm _ (hZ hy))
 ·exact gL (x.above y c (hZ h))
 ·have hi:i < vs.length:=by
   unfold start at h2;by_cases hi:i < vs.length
   ·exact hi
   ·rw[i8 (by simpa using hi)]at h2;rw[mf]at h2;split at h2 <;> cases h2
  have ha:vs[i]?=some v:=by
   unfold start at h2;rw[i9 (by simpa using hi),cE]at h2;cases e:vs[i]? with
   |none=>rw[e]at h2;cases h2
   |some a=>rw[e]at h2;cases h2;rfl
  obtain⟨u,hu,rv⟩:=r.get ha;have hp:ps[i]?=some y:=by rw[<- S.pre,mh (by lia)];exact h1
  have ndP:ps.Nodup:=by rw[<- S.pre];exact S.nd.sublist (ml _ _)
  refine⟨u,rv,?_⟩;rcases S.par y (kg hp) with k|k
  ·exact .inl ⟨k,HY ndP hp hu k⟩
  ·obtain⟨c,e⟩:=Qk (n:=s.heap.objs.size + 1) k;refine .inr ⟨.inl k,c,e,?_⟩;have q:=x.cell y c e;rw[Ia ndP hp hu (by show scope.names.lookup y≠_;rw[k];decide)]at q;exact q
 ·exact e0.hok.fresh (gL (x.above y c (hZ h)))
 ·unfold start;show _=N.length;rw[eR,cb,oo];lia
theorem ala{CX:CXT}{P:aE}{w:az}{K:aw}{mg:Str->Option aa}{base:Heap}{k:Nat}{f:ab}{name qual:Str}{params:mn}{body:List bj}{scope:Scope}{dV kV doc pm cdv ct oc:aa}{an od:Option ab}
  {osl:Array (Option aa)}{N ps:List Str}{sp:Sp}(lk:K.lookup f=some ⟨oc,od,.func (gi name qual params body scope dV kV doc pm an cdv ct),osl⟩) (hcd:mo K cdv qual=true) (S:bR N ps scope)
  (len:∀vs H Q E,sp vs H Q E->vs.length=ps.length)
  (hbody:∀(A:a_) (outer:List Env) (s:af) (H:Hp) (vs:List V) (Q:VK) (E:XK),pB k (A.deeper (kG qual scope s.heap.objs.size f cdv))->sp vs H Q E ->
   ∃t,Wn (yP CX P w K mg base N qual scope f cdv A outer s H E) body t/\t { nx:=fun _ H'=>Q .non H',rt:=Q } (start N vs) H) :
  Wv P w K mg base CX (k + 1) f (gi name qual params body scope dV kV doc pm an cdv ct) ps sp:=by
 refine⟨len,fun A outer s H args us vs Q E hr e0 hb r hsp=>?_⟩;have hl:=len _ _ _ _ hsp;have KX:K.In s.heap:=e0.mod.kin.keeps fun b o e=>(e0.bs b o e).1;have lim:s.heap.NoLimit:=e0.mod.nolimit.keeps fun b o e=>(e0.bs b o e).1;have hkind:∀y∈ps.zip us,scope.names.lookup y.1=some .local∨(scope.names.lookup y.1=some .cell/\((cellsFrom (s.heap.objs.size + 1) scope.names []).lookup y.1).isSome=true):=fun⟨n,v⟩ hy=>by
  rcases S.par n (vx hy).1 with q|q
  ·exact .inl q
  ·exact .inr ⟨q,PySem.W.cellsFrom_some _ _ _ (.inl q)⟩
 refine codeAny_call_function hr.depth (KX _ _ lk) rfl S.co S.gen rfl (PySem.W.codeRec_of KX hcd) (hb _ _ _ _ ?_);refine wpAny_newFunctionEnv_cells S.kind hkind fun env he s1 x=>?_;subst he;refine⟨lim.keeps x.toInCall.keep,codeAny_func ?_⟩;obtain⟨t,ht,hq⟩:=hbody A outer s H vs Q E (hr.deeper _) hsp;have I:Inv (yP CX P w K mg base N qual scope f cdv A outer s H E) [] (start N vs) H s1:=abf S hr.hd e0 hl r x;refine eD (ht [] s1 (start N vs) H _ I hq) (fun fl s' hs=>?_) fun e s' hs=>hs;have dZ:∀{σ':St}{H':Hp}{v:V}{u:aa},Inv (yP CX P w K mg base N qual scope f cdv A outer s H E) [] σ' H' s'->RelV v u->Q v H'->CE outer P w H s Q u s' :=
  fun {σ' H' v u} J rv q=>⟨v,H',J.os,J.bare,J.base,J.hok,rv,q⟩
 cases fl with
 |ret u =>
  obtain⟨v,σ',H',J,rv,q⟩:=hs;exact dZ J rv q
 |next =>
  obtain⟨σ',H',J,q⟩:=hs;exact dZ (v:=V.non) (u:=aa.none) J rfl q
 |brk =>
  obtain⟨_,_,_,q⟩:=hs;exact i_ q
 |cont =>
  obtain⟨_,_,_,q⟩:=hs;exact i_ q
section
variable{X:Cx}{x:Str}{p pos:Pos}{e:ai}{es:List ai}{t:TA}{id T:String}{r:List V->Hp->VK->Prop}
def tCB(r:List V->Hp->VK->Prop)(t:TA):TE:=fun σ H Q=>t σ H fun vs H1=>r vs H1 Q
theorem wN(hc:gw X (.builtin id) r) (hg:Gl X x) (hm:X.mg x=none) (hv:kR x=some (.builtin id)) (ha:PA X (e::es) t) (hn:x≠"__name__":=by decide) (hdb:(x == ("__debug__":Str))=false:=by decide)
  (he:bo (e::es) X.env=(false,ba e X.env)::bo es X.env:=by rfl) (hpl:(d6 pos (bo es X.env)).any (·.1)=false:=by rfl):PE X (.Call (.Name x p) (e::es) [] pos) (tCB r t):=by
 intro pins s σ H Q I h;refine qr (yM I hg hm hv ?_ hn hdb);exact PyProof.Rows.callWith_builtin1 (je (ha pos pins s σ H _ I h) fun us s1 ⟨vs,H1,I1,r1,q1⟩=>hc pins s1 σ H1 vs us Q I1 r1 q1) he hpl
theorem uo(hc:gw X (.type T) r) (hg:Gl X x) (hm:X.mg x=none) (hv:kR x=some (.type T)) (ha:PA X (e::es) t) (hn:x≠"__name__":=by decide) (hdb:(x == ("__debug__":Str))=false:=by decide)
  (he:bo (e::es) X.env=(false,ba e X.env)::bo es X.env:=by rfl) (hpl:(d6 pos (bo es X.env)).any (·.1)=false:=by rfl):PE X (.Call (.Name x p) (e::es) [] pos) (tCB r t):=by
 intro pins s σ H Q I h;refine qr (yM I hg hm hv ?_ hn hdb);exact qq (je (ha pos pins s σ H _ I h) fun us s1 ⟨vs,H1,I1,r1,q1⟩=>hc pins s1 σ H1 vs us Q I1 r1 q1) he hpl
end
end L2
namespace HT
open PySem PyProof.Rows
section
open PySem.SeqAt
open PySem.AutoSeq1 (wpAny_loadPart')
open PySem.MeetsSeq PySem.MeetsSeq2 PySem.MeetsSeq3
end
section
variable{prog:aE}{w:az}{A:a_}{E:aa->af->Prop}{s:af}
def Qe(n d:Nat):Option Int->Nat
 |none=>d
 |some v=>if v < 0 then (v + (n:Int)).toNat else min v.toNat n
end
end HT
namespace L2
open PySem PySem.Spec PyProof.Rows
abbrev TO:=St->Hp->(Option Int->Hp->Prop)->Prop
def PO(X:Cx)(e:Option ai)(t:TO):Prop :=
 ∀(pins:List (ab×Obj)) (s:af) (σ:St) (H:Hp) (Q:Option Int->Hp->Prop),Inv X pins σ H s->t σ H Q ->
  ag (ah X.prog X.w) X.A (evalPart e X.env) (fun u s'=>∃o H',Inv X pins σ H' s'/\IsPart u o/\Q o H') X.xe s
def aph(t:TE):TO:=fun σ H Q=>t σ H fun x H1=>∃i,x=.int i/\Q (some i) H1
theorem CT{ns:List Int}:∀{us:List aa},Vals (ns.map V.int) us->oq us ns:=by
 induction ns with
 |nil=>intro us r;rw[ki]at r;cases r;exact .nil
 |cons n ns ih =>
  intro us r;rw[ck]at r;cases r with
  |cons r1 r2 =>
   obtain⟨t,e⟩:=r1;subst e;exact .cons n t (ih r2)
section
variable{X:Cx}{e:ai}{te:TE}{lo hi:Option ai}{tl th:TO}{pos p2:Pos}
theorem aic(h:PE X e te):PO X (some e) (aph te):=by intro pins s σ H Q I hw;rw[evalPart_some];refine je (h pins s σ H _ I hw) fun u s1 fH=>?_;obtain⟨x,H1,I1,r1,q1⟩:=fH;obtain⟨i,rfl,q⟩:=q1;obtain⟨t,rfl⟩:=r1;exact⟨some i,H1,I1,.int i t,q⟩
def SlR(X:Cx)(r:V->Option Int->Option Int->Hp->VK->Prop):Prop :=
 ∀(pins:List (ab×Obj)) (s:af) (σ:St) (H:Hp) (x:V) (v vl vu:aa) (lo hi:Option Int) (sl:ab) (Q:VK),Inv X pins σ H s->RelV x v->s.heap.IsSliceOf sl vl vu .none->IsPart vl lo->IsPart vu hi->r x lo hi H Q ->
  ∃T id,typeLookup (.type T) "__getitem__"=pure (some (.builtin id))/\s.TypeIs v T/\ag (ah X.prog X.w) X.A (getItem v (.ref sl)) (EP X pins σ Q) X.xe s
def tSl(r:V->Option Int->Option Int->Hp->VK->Prop)(te:TE)(tl th:TO):TE:=fun σ H Q=>te σ H fun x H1=>tl σ H1 fun l H2=>th σ H2 fun u H3=>r x l u H3 Q
theorem adn{r:V->Option Int->Option Int->Hp->VK->Prop}(hr:SlR X r)(he:PE X e te)(hl:PO X lo tl)(hu:PO X hi th):PE X (.Subscript e (.Slice lo hi none p2) pos) (tSl r te tl th):=by intro pins s σ H Q I h;refine Subscript_ (je (he pins s σ H _ I h) fun v s1 fH=>?_);obtain⟨x,H1,I1,r1,q1⟩:=fH;refine wpAny_Slice (je (hl pins s1 σ H1 _ I1 q1) fun vl s2 ⟨l,H2,I2,pl,q2⟩=>je (hu pins s2 σ H2 _ I2 q2) fun vu s3 fH=>?_);obtain⟨u,H3,I3,pu,q3⟩:=fH;rw[evalPart_none];refine ar ?_;have I4:Inv X pins σ H3 { s3 with heap:=s3.heap.push { cls:=.type "slice",data:=.fields #[vl,vu,.none] } }:=I3.kept (t':=s3.toks) fun b ob q=>bX _ q;obtain⟨T,id,hT,ht,hg⟩:=hr pins { s3 with heap:=s3.heap.push { cls:=.type "slice",data:=.fields #[vl,vu,.none] } } σ H3 x v vl vu l u s3.heap.objs.size Q I4 r1 (Heap.IsSliceOf.new ..) pl pu q3;show ag (ah X.prog X.w) X.A (subscriptTail e (.Slice lo hi none p2) v (.ref s3.heap.objs.size)) (EP X pins σ Q) X.xe { s3 with heap:=s3.heap.push { cls:=.type "slice",data:=.fields #[vl,vu,.none] } };exact tail_any (ops:=[.ref s3.heap.objs.size,v]) ht hT hg (by with_unfolding_all rfl)
def Ww(xs:List V)(lo hi:Option Int):List V:=(xs.drop (HT.Qe xs.length 0 lo)).take (HT.Qe xs.length xs.length hi - HT.Qe xs.length 0 lo)
theorem Ql(xs:List V)(lo hi:Option Int):(Ww xs lo hi).length<=xs.length:=by unfold Ww;rw[ke,mv];lia
end
def JK(n:Nat)(i:Int):Option Nat:=if 0<=i then (if i < n then some i.toNat else none) else if-(n:Int)<=i then some (i + n).toNat else none
def CV{α:Type}(xs:List α)(i:Int):Option α:=(JK xs.length i).bind fun j=>xs[j]?
theorem JL{n:Nat}{i:Int}{j:Nat}(h:JK n i=some j):ot i n=some j/\j < n/\-(n:Int)<=i/\i < n:=by
 unfold JK at h;by_cases h0:0<=i
 ·rw[if_pos h0]at h;by_cases h1:i < n
  ·rw[if_pos h1]at h;have e:i.toNat=j:=dq h;exact⟨by rw[vy h0 h1,e],by lia,by lia,h1⟩
  ·rw[if_neg h1]at h;cases h
 ·rw[if_neg h0]at h;by_cases h1:-(n:Int)<=i
  ·rw[if_pos h1]at h;have e:(i + n).toNat=j:=dq h;exact⟨by rw[seqIndex_neg (by lia) h1,e],by lia,h1,by lia⟩
  ·rw[if_neg h1]at h;cases h
theorem JM{α:Type}{xs:List α}{i:Int}{v:α}(h:CV xs i=some v):∃j,ot i xs.length=some j/\xs[j]?=some v/\j < xs.length/\-(xs.length:Int)<=i/\i < xs.length:=by
 unfold CV at h;cases e:JK xs.length i with
 |none=>rw[e]at h;cases h
 |some j =>
  rw[e]at h;obtain⟨h1,h2,h3,h4⟩:=JL e;exact⟨j,h1,h,h2,h3,h4⟩
theorem aie{α:Type}{xs:List α}{j:Nat}{v:α}(h:xs[j]?=some v):CV xs (j:Int)=some v:=by
 have hj:j < xs.length:=(eB.mp h).1;have e:JK xs.length (j:Int)=some j:=by unfold JK;rw[if_pos (by lia),if_pos (by lia)];simp
 unfold CV;rw[e];exact h
def JN(b:ai):Prop:=∀o i,subscripted b false o i=operate [o,i] (getItem o i)
def IxR(X:Cx)(r:R2):Prop :=
 ∀(value slice:ai) (pins:List (ab×Obj)) (s:af) (σ:St) (H:Hp) (x y:V) (v u:aa) (Q:VK),Inv X pins σ H s->RelV x v->RelV y u->r x y H Q ->
  subscripted slice false v u=operate [v,u] (getItem v u)->ag (ah X.prog X.w) X.A (subscriptTail value slice v u) (EP X pins σ Q) X.xe s
def MtR(X:Cx)(id:String)(r:V->List V->Hp->VK->Prop):Prop :=
 ∀(pins:List (ab×Obj)) (s:af) (σ:St) (H:Hp) (x:V) (xs:List V) (v:aa) (us:List aa) (Q:VK),Inv X pins σ H s->RelV x v->Vals xs us->r x xs H Q ->
  ag (ah X.prog X.w) X.A (call (.builtin id) (v::us)) (EP X pins σ Q) X.xe s
section
variable{X:Cx}{a b:ai}{ta tb:TE}{pos:Pos}
theorem IxR.or{r r':R2}(h:IxR X r)(h':IxR X r'):IxR X (fun x y H Q=>r x y H Q∨r' x y H Q):=by
 intro value slice pins s σ H x y v u Q I rx ry q hs;rcases q with q|q
 ·exact h value slice pins s σ H x y v u Q I rx ry q hs
 ·exact h' value slice pins s σ H x y v u Q I rx ry q hs
theorem alb{r:R2}(hr:IxR X r)(ha:PE X a ta)(hb:PE X b tb)(hs:JN b):PE X (.Subscript a b pos) (tOp r ta tb):=by intro pins s σ H Q I h;exact Subscript_ (amb ha hb I h fun v u s2 x y H2 I2 rx ry q=>hr a b pins s2 σ H2 x y v u Q I2 rx ry q (hs _ _))
def apj(K:aw):R2:=fun x y H Q=>∃p xs i v,x=.ref p/\y=.int i/\pO K H p xs/\CV xs i=some v/\Q v H
def apk(K:aw):R2:=fun x y H Q=>∃p xs i v,x=.ref p/\y=.int i/\ni K H p xs/\CV xs i=some v/\Q v H
def apl:R2:=fun x y H Q=>∃z i c,x=.str z/\y=.int i/\z.length<=sizeLine/\CV z.cps.toList i=some c/\Q (.str ⟨#[c]⟩) H
theorem aif:IxR X (apj X.K):=by
 intro value slice pins s σ H x y v u Q I rx ry h hs;obtain⟨p,xs,i,z,rfl,rfl,hq,he,q⟩:=h;cases rx;obtain⟨t,rfl⟩:=ry;obtain⟨its,r,pl,hz⟩:=I.list hq;obtain⟨j,h1,h2,h3,h4,h5⟩:=JM he;obtain⟨w,ew,rw'⟩:=r.get h2;have hl:=r.length;have hn:=CP;have dZ:EP X pins σ Q w s:=⟨z,H,I,rw',q⟩
 by_cases h0:0<=i
 ·have hj:i.toNat=j:=by rw[vy h0 h5]at h1;exact dq h1
  exact item_listR pl.isList h0 (by lia) (by rw[hj];simpa using ew) dZ hs
 ·have hj:(i + (its.toArray.size:Int)).toNat=j:=by rw[seqIndex_neg (by lia) h4]at h1;rw[cK,<- hl];exact dq h1
  exact subscriptTail_builtinR (x:=w) pl.isList.typeIs slot_list_getitem.lookup
   (wpAny_getItem_list_neg (Q:=fun r s'=>r=w/\EP X pins σ Q r s') pl.isList (by lia) (by rw[cK] <;> lia) (by lia) (by rw[hj];simpa using ew) ⟨rfl,dZ⟩) hs
theorem adp:IxR X (apk X.K):=by
 intro value slice pins s σ H x y v u Q I rx ry h hs;obtain⟨p,xs,i,z,rfl,rfl,hq,he,q⟩:=h;cases rx;obtain⟨t,rfl⟩:=ry;obtain⟨its,r,pl,hz⟩:=I.tuple hq;obtain⟨j,h1,h2,h3,h4,h5⟩:=JM he;obtain⟨w,ew,rw'⟩:=r.get h2;have hl:=r.length;have hn:=CP;have dZ:EP X pins σ Q w s:=⟨z,H,I,rw',q⟩
 exact subscriptTail_builtinR (x:=w) pl.typeIs slot_tuple_getitem.lookup
  (getItem_tuple (j:=j) (Q:=fun r s'=>r=w/\EP X pins σ Q r s') pl (by lia) (by lia) (by rw[cK,<- hl];exact h1) (by simpa using ew) ⟨rfl,dZ⟩) hs
theorem amn:IxR X apl:=by
 intro value slice pins s σ H x y v u Q I rx ry h hs;obtain⟨z,i,c,rfl,rfl,hz,he,q⟩:=h;obtain⟨t,rfl⟩:=rx;obtain⟨t',rfl⟩:=ry;obtain⟨j,h1,h2,h3,h4,h5⟩:=JM he;have hl:z.cps.toList.length=z.length:=by simp[Str.length]
 rw[hl]at h1 h4 h5;have hn:=CP;exact tail_any (typeIs_str s z t) slot_str_getitem.lookup (getItem_str (c:=c) (by
  have e1:decide (i < -(2 ^ 63:Int))=false:=decide_eq_false (by lia);have e2:decide (i ≥ 2 ^ 63)=false:=decide_eq_false (by lia);rw[e1,e2,Bool.or_false]) (by rw[h1];simpa using h2) ⟨.str ⟨#[c]⟩,H,I.tok _,⟨_,rfl⟩,q⟩) hs
def rIx(K:aw):R2:=fun x y H Q=>apj K x y H Q∨apk K x y H Q∨apl x y H Q
theorem amo:IxR X (rIx X.K):=aif.or (adp.or amn)
theorem Wx(its:List aa)(n j:Nat)(u:aa):di (·.setIfInBounds j u) { cls:=.type "list",data:=.seq its.toArray n }={ cls:=.type "list",data:=.seq (its.set j u).toArray n }:=by simp[di]
theorem Inv.lst{pins:List (ab×Obj)}{σ:St}{H:Hp}{s:af}{p:ab}{xs:List V}(I:Inv X pins σ H s)(h:H p=some (.lst xs)) :
  ∃(its:List aa) (n:Nat),Vals xs its/\s.heap.get? p=some { cls:=.type "list",data:=.seq its.toArray n }/\xs.length<=sizeLine:=by
 obtain⟨z,its,n,r,e⟩:=I.hok p _ h;exact⟨its,n,r,e,z⟩
theorem Inv.amq{pins:List (ab×Obj)}{σ:St}{H:Hp}{s:af}{p:ab}{xs ys:List V}{its its':List aa}{n n':Nat}{f:Obj->Obj}(I:Inv X pins σ H s)(h:H p=some (.lst xs))
  (ho:s.heap.get? p=some { cls:=.type "list",data:=.seq its.toArray n }) (hf:f { cls:=.type "list",data:=.seq its.toArray n }={ cls:=.type "list",data:=.seq its'.toArray n' }) (r:Vals ys its') (hz:ys.length<=sizeLine) (t:Nat) :
  Inv X pins σ (upd H p (.lst ys)) { s with heap:=s.heap.update p f,toks:=t }:=by
 have e:(s.heap.update p f).get? p=some { cls:=.type "list",data:=.seq its'.toArray n' }:=by rw[fy f ho (by rw[hf] <;> rfl),hf]
 refine I.write (x:=p) (e:=p) (by rw[h];trivial) (.inl rfl) (fun b u hb q=>(eS _ _ (de hb)).trans q) ⟨_,e⟩ ?_;exact⟨hz,its',n',r,e⟩
def apm:V->V->V->Hp->(Hp->Prop)->Prop:=fun o i v H Q=>∃p xs k j,o=.ref p/\i=.int k/\H p=some (.lst xs)/\JK xs.length k=some j/\Q (upd H p (.lst (xs.set j v)))
theorem adq:alY X apm:=by
 intro pins s σ H o i v ov iv u Q I ro ri rv h;obtain⟨p,xs,k,j,rfl,rfl,hp,hj,q⟩:=h;cases ro;obtain⟨t,rfl⟩:=ri;obtain⟨its,n,r,ho,hz⟩:=I.lst hp;obtain⟨h1,h2,h3,h4⟩:=JL hj;have hl:=r.length;have hn:=CP;have I':Inv X pins σ (upd H p (.lst (xs.set j v))) { s with heap:=s.heap.update p (di (·.setIfInBounds j u)) } :=
  I.amq hp ho (Wx its n j u) (r.set rv j) (by rw[qs];exact hz) s.toks
 by_cases h0:0<=k
 ·have hk:k.toNat=j:=by rw[vy h0 h4]at h1;exact dq h1
  exact PySem.W.ki_setAt ho h0 (by lia) (by rw[cK,<- hl];exact h4) (by rw[hk];exact⟨_,I',q⟩)
 ·have hk:(k + (its.toArray.size:Int)).toNat=j:=by rw[seqIndex_neg (by lia) h3]at h1;rw[cK,<- hl];exact dq h1
  exact PySem.W.ki_setBack ho (by lia) (by rw[cK,<- hl];exact h3) (by lia) (by rw[hk];exact⟨_,I',q⟩)
theorem JQ(lo hi:Option Int)(n:Nat):(kX lo hi none n).1=((HT.Qe n 0 lo:Nat):Int)/\(kX lo hi none n).2.1=((HT.Qe n n hi:Nat):Int)/\(kX lo hi none n).2.2=1:=by
 refine⟨?_,?_,rfl⟩
 ·cases lo with
  |none=>simp[kX,HT.Qe]
  |some i =>
   simp only[kX,HT.Qe,Option.getD_none,show(1:Int) > 0 by decide,if_true];by_cases h:i < 0
   ·simp only[h,if_true] <;> lia
   ·simp only[h,if_false] <;> lia
 ·cases hi with
  |none=>simp[kX,HT.Qe]
  |some i =>
   simp only[kX,HT.Qe,Option.getD_none,show(1:Int) > 0 by decide,if_true];by_cases h:i < 0
   ·simp only[h,if_true] <;> lia
   ·simp only[h,if_false] <;> lia
theorem Ge(its:List aa)(lo hi:Option Int):slicePick its.toArray lo hi none=((its.drop (HT.Qe its.length 0 lo)).take (HT.Qe its.length its.length hi - HT.Qe its.length 0 lo)).toArray:=by obtain⟨h1,h2,h3⟩:=JQ lo hi its.toArray.size;unfold slicePick;rw[h1,h2,h3];simp only[sliceRange_one,pick_run,cK] <;> rfl
def apn(K:aw):V->Option Int->Option Int->Hp->VK->Prop:=fun x lo hi H Q=>∃a xs,x=.ref a/\pO K H a xs/\∀p,H p=none->Q (.ref p) (upd H p (.lst (Ww xs lo hi)))
theorem aii:SlR X (apn X.K):=by intro pins s σ H x v vl vu lo hi sl Q I rx hs pl pu h;obtain⟨a,xs,rfl,hx,q⟩:=h;cases rx;obtain⟨its,r,ht,hz⟩:=I.list hx;have hlen:=r.length;refine⟨"list",_,slot_list_getitem.lookup,ht.isList.typeIs,?_⟩;refine wpAny_getItem_list_slice ht.isList hs pl pu .none (by simp) ?_ (by rw[cK] <;> lia);rw[Ge,<- hlen];refine⟨.ref s.heap.objs.size,_,I.laid (t':=s.toks) (o:=.lst (Ww xs lo hi)) (fun b ob q=>bX _ q) (br _) ?_,rfl,q _ (I.hok.fresh (br _))⟩;exact⟨cz (Ql xs lo hi) hz,_,0,(r.drop (HT.Qe xs.length 0 lo)).take (HT.Qe xs.length xs.length hi - HT.Qe xs.length 0 lo),dc _ rfl⟩
theorem JR:gw X (.builtin "len") (fun xs H Q=>∃p ys,xs=[.ref p]/\(pO X.K H p ys∨ni X.K H p ys)/\Q (.int ys.length) H):=by
 intro pins s σ H xs us Q I r h;obtain⟨p,ys,rfl,hq,q⟩:=h;obtain⟨u,rfl,rx⟩:=Zz r;cases rx;have hn:=CP;rcases hq with hq|hq
 ·obtain⟨its,r',pl,hz⟩:=I.list hq;have hlen:=r'.length;exact Calls.call_len_list pl.isList (by simp only[cK] <;> lia) ⟨.int ys.length,H,I.tok _,⟨s.toks + 1,by rw[cK,hlen]⟩,q⟩
 ·obtain⟨its,r',pl,hz⟩:=I.tuple hq;have hlen:=r'.length;exact len_tuple pl (by simp only[cK] <;> lia) ⟨.int ys.length,H,I.tok _,⟨s.toks + 1,by rw[cK,hlen]⟩,q⟩
theorem wO:gw X (.type "list") (fun xs H Q=>∃p ys,xs=[.ref p]/\(pO X.K H p ys∨ni X.K H p ys)/\∀l,H l=none->Q (.ref l) (upd H l (.lst ys))):=by
 intro pins s σ H xs us Q I r h;obtain⟨p,ys,rfl,hq,q⟩:=h;obtain⟨u,rfl,rx⟩:=Zz r;cases rx;have dZ:∀(its:List aa),Vals ys its->ys.length<=sizeLine->∀(h':Heap) (c':Nat),(∀b o',s.heap.get? b=some o'->h'.get? b=some o') ->
   h'.get? s.heap.objs.size=some { cls:=.type "list",dict:=none,data:=.seq its.toArray c',slots:=#[] }->EP X pins σ Q (.ref s.heap.objs.size) { s with heap:=h' }:=fun its r' hz h' c' kp e =>
  ⟨.ref s.heap.objs.size,_,I.laid (t':=s.toks) kp (br _) (show dY X.prog X.w _ h' _ (.lst ys) from⟨hz,its,c',r',e⟩),rfl,q _ (I.hok.fresh (br _))⟩
 rcases hq with hq|hq
 ·obtain⟨its,r',pl,hz⟩:=I.list hq;have hlen:=r'.length;obtain⟨o,ho,hc,n,hd⟩:=pl.isList;exact call_list_seq p (.inl rfl) ho hc hd (fun h' c' kp e=>dZ its r' hz h' c' kp e) (by simp only[cK] <;> lia)
 ·obtain⟨its,r',pl,hz⟩:=I.tuple hq;have hlen:=r'.length;obtain⟨o,ho,hc,n,hd⟩:=pl;exact call_list_seq p (.inr rfl) ho hc hd (fun h' c' kp e=>dZ its r' hz h' c' kp e) (by simp only[cK] <;> lia)
theorem Gf:gw X (.type "tuple") (fun xs H Q=>∃p ys,xs=[.ref p]/\((pO X.K H p ys/\∀l,H l=none->Q (.ref l) (upd H l (.tup ys)))∨(ni X.K H p ys/\Q (.ref p) H))):=by
 intro pins s σ H xs us Q I r h;obtain⟨p,ys,rfl,h⟩:=h;obtain⟨u,rfl,rx⟩:=Zz r;cases rx;rcases h with ⟨hq,q⟩|⟨hq,q⟩
 ·obtain⟨its,r',pl,hz⟩:=I.list hq;have hlen:=r'.length;refine call_tuple_list pl.isList (fun h' kp=>?_) (by simp only[cK] <;> lia);have I1:Inv X pins σ H { s with heap:=h' }:=I.kept (t':=s.toks) kp;have I2:Inv X pins σ (upd H h'.objs.size (.tup ys)) { s with heap:=h'.push { cls:=.type "tuple",data:=.seq its.toArray } } :=
   I1.laid (t':=s.toks) (fun b o e=>bX _ e) (br _) (show dY X.prog X.w _ _ _ (.tup ys) from⟨hz,its,r',IsTup.new _ _⟩)
  exact⟨.ref h'.objs.size,_,I2,rfl,q _ (I1.hok.fresh (br _))⟩
 ·obtain⟨its,r',pl,hz⟩:=I.tuple hq;exact call_tuple_same pl ⟨.ref p,H,I,rfl,q⟩
def tyV(K:aw)(T:String)(x:V)(H:Hp):Prop:=match x with
 | .str _=>T="str"
 | .int _=>T="int"
 | .ref p=>(T="list"/\∃xs,pO K H p xs)∨(T="tuple"/\∃o,K.lookup p=some o/\o.cls=.type "tuple"/\o.dict=none) ∨
   (T="dict"/\((∃kvs,H p=some (.dK kvs))∨∃kvs,H p=some (.dT kvs)))∨(T="set"/\∃S n,H p=some (.set S n))
 |_=>False
theorem amr{pins:List (ab×Obj)}{σ:St}{H:Hp}{s:af}{T:String}{x:V}{v:aa}(I:Inv X pins σ H s)(r:RelV x v)(ty:tyV X.K T x H) :
  s.TypeIs v T/\∀a,v=.ref a->∃ob,s.heap.get? a=some ob/\ob.dict=none:=by
 cases x with
 |str z =>
  obtain⟨t,rfl⟩:=r;cases (show T="str" from ty);exact⟨typeIs_str s z t,fun _ e=>nomatch e⟩
 |int i =>
  obtain⟨t,rfl⟩:=r;cases (show T="int" from ty);exact⟨typeIs_int s i t,fun _ e=>nomatch e⟩
 |ref p =>
  cases r;rcases ty with ⟨rfl,xs,hq⟩|⟨rfl,o,hk,hc,hd⟩|⟨rfl,hk⟩|⟨rfl,S,n,hk⟩
  ·obtain⟨its,_,pl,_⟩:=I.list hq;refine⟨pl.isList.typeIs,fun a e=>?_⟩;cases e;obtain⟨o,n,e,c,hd,_⟩:=pl;exact⟨o,e,hd⟩
  ·refine⟨⟨o,I.kIn p o hk,hc⟩,fun a e=>?_⟩;cases e;exact⟨o,I.kIn _ o hk,hd⟩
  ·have z:∃o,s.heap.get? p=some o/\o.ExactDict:=by
    rcases hk with ⟨kvs,hk⟩|⟨kvs,hk⟩
    ·obtain⟨_,_,_,_,o,_,_,e,ex,_⟩:=I.hok p _ hk;exact⟨o,e,ex⟩
    ·obtain⟨_,_,_,_,o,_,_,e,ex,_⟩:=I.hok p _ hk;exact⟨o,e,ex⟩
   obtain⟨o,e,ex⟩:=z;refine⟨⟨o,e,ex.1⟩,fun a e2=>?_⟩;cases e2;exact⟨o,e,ex.2.1⟩
  ·obtain⟨o,_,_,_,e,ex,_⟩:=I.hok p _ hk;refine⟨⟨o,e,ex.1⟩,fun a e2=>?_⟩;cases e2;exact⟨o,e,ex.2.1⟩
 |_=>exact i_ ty
def tBM(K:aw)(T:String)(r:V->List V->Hp->VK->Prop)(to:TE)(t:TA):TE:=fun σ H Q=>to σ H fun x H1=>tyV K T x H1/\t σ H1 fun xs H2=>r x xs H2 Q
variable{o e:ai}{es:List ai}{to:TE}{t:TA}{name:Str}{apos cpos:Pos}{T id:String}{r:V->List V->Hp->VK->Prop}
theorem adt(pa:PlainAttrs T) (slot:Slot T name id) (hty:typeOf (.builtin id)=pure (.type "method_descriptor")) (hm:MtR X id r) (ho:PE X o to) (ha:PA X (e::es) t)
  (hbase:k0 o name X.env (ba o X.env)=ba o X.env:=by rfl)
  (hfew:((d6 cpos (bo (e::es) X.env)).all (fun x=>!x.1) && (ja cpos (jb [] X.env)).all (fun x=>x.1.isSome)
   && decide ((e::es).length + ([]:List kd).length + (if ([]:List kd).isEmpty then 0 else 1) < 30))=true:=by rfl)
  (hline:(apos.endLine == cpos.line)=true:=by rfl) (hs:bo (e::es) X.env=(false,ba e X.env)::bo es X.env:=by rfl) (hplain:(d6 cpos (bo es X.env)).any (·.1)=false:=by rfl) :
  PE X (.Call (.Attribute o name apos) (e::es) [] cpos) (tBM X.K T r to t):=by
 intro pins s σ H Q I h;refine vz hbase hfew hline rfl (je (ho pins s σ H _ I h) fun v s1 fH=>?_);obtain⟨x,H1,I1,r1,ty,q1⟩:=fH;obtain⟨h1,h2⟩:=amr I1 r1 ty;refine⟨T,id,pa,slot,hty,h1,h2,?_⟩;have hA:=ha cpos pins s1 σ H1 _ I1 q1;rw[hs]at hA ⊢;refine vE (by show(false || (d6 cpos (bo es X.env)).any (·.1))=false;rw[hplain] <;> rfl) (vF ?_);exact je hA fun us s2 ⟨vs,H2,I2,r2,q2⟩=>hm pins s2 σ H2 x vs v us Q I2 r1 r2 q2
end
def MtM(X:Cx)(id:String)(r:V->List V->Hp->VK->Prop):Prop :=
 ∀(pins:List (ab×Obj)) (s:af) (σ:St) (H:Hp) (x:V) (xs:List V) (v:aa) (us:List aa) (Q:VK),Inv X pins σ H s->RelV x v->Vals xs us->r x xs H Q ->
  ag (ah X.prog X.w) X.A (call (.builtin id) (v::us)) (EP X pins σ Q) X.xe s
theorem Vals.one:∀{x:V}{us:List aa},Vals [x] us->∃u,us=[u]/\RelV x u
 |_,_,.cons r .nil=>⟨_,rfl,r⟩
theorem Vals.eraseIdx:∀{xs:List V}{us:List aa}(i:Nat),Vals xs us->Vals (xs.eraseIdx i) (us.eraseIdx i)
 |_,_,_,.nil=>.nil
 |_,_,0,.cons _ t=>t
 |_,_,i + 1,.cons r t=>.cons r (Vals.eraseIdx i t)
theorem Ib{α:Type}:∀(l:List α) (i:Nat),(l.eraseIdx i).length<=l.length
 | [],_=>br _
 |_::_,0=>ox _
 |_::r,i + 1=>vS (Ib r i)
section
variable{X:Cx}{pins:List (ab×Obj)}{σ:St}{H:Hp}{s:af}{l b:ab}{xs ys zs:List V}
theorem Inv.ams{its its':List aa}{n:Nat}{f:Array aa->Array aa}{t':Nat}(I:Inv X pins σ H s)(hH:H l=some (.lst xs))
  (e:s.heap.get? l=some { cls:=.type "list",data:=.seq its.toArray n }) (hf:f its.toArray=its'.toArray) (hv:Vals ys its') (hz:ys.length<=sizeLine) :
  Inv X pins σ (upd H l (.lst ys)) { s with heap:=s.heap.update l (di f),toks:=t' }:=by
 have q:=PySem.IsL.update e f;rw[hf]at q;refine I.write (x:=l) (e:=l) (by rw[hH];exact trivial) (.inl rfl) (fun b' u hb hu=>(eS s.heap (di f) (de hb)).trans hu) ⟨_,q⟩ ?_;exact⟨hz,its',_,hv,q⟩
theorem Inv.apo{its:List aa}{t':Nat}(I:Inv X pins σ H s)(hv:Vals ys its)(hz:ys.length<=sizeLine) :
  Inv X pins σ (upd H s.heap.objs.size (.lst ys)) { s with heap:=s.heap.push { cls:=.type "list",data:=.seq its.toArray },toks:=t' } :=
 I.laid (fun _ _ q=>bX _ q) (br _) ⟨hz,its,0,hv,dc _ rfl⟩
theorem Inv.fresh(I:Inv X pins σ H s):H s.heap.objs.size=none:=I.hok.fresh (br _)
theorem Inv.amt(I:Inv X pins σ H s)(hH:H l=some (.lst xs)):xs.length<=sizeLine/\∃(its:List aa) (n:Nat),Vals xs its/\xs.length=its.length/\s.heap.get? l=some { cls:=.type "list",data:=.seq its.toArray n }:=by obtain⟨z,its,n,r,e⟩:=I.hok l _ hH;exact⟨z,its,n,r,r.length,e⟩
theorem adu{n:Nat}(h:n<=sizeLine):qv n=false:=by unfold qv;exact decide_eq_false (by lia)
end
section
variable{X:Cx}
def ZC:V->List V->Hp->VK->Prop:=fun x vs H Q=>∃l xs y,x=.ref l/\vs=[y]/\H l=some (.lst xs)/\xs.length < sizeLine/\Q .non (upd H l (.lst (xs++[y])))
theorem Ie:MtM X "list.append" ZC:=by intro pins s σ H x vs v us Q I rx rv h;obtain⟨l,xs,y,rfl,rfl,hH,hz,q⟩:=h;cases rx;obtain⟨u,rfl,ru⟩:=rv.one;obtain⟨z,its,n,r,hl,e⟩:=I.amt hH;refine call_meets F.slot_list_append ⟨_,e,rfl⟩ F.entry_list_append (F.args_list_append_2 _ _) (PySem.list_append l its.toArray n u (by rw[cK];lia)) ⟨e,?_⟩;refine⟨.non,_,I.ams (its':=its++[u]) hH e (by simp) (r.append (.cons ru .nil)) ?_,rfl,q⟩;rw[eR,List.length_singleton];lia
def amu:V->List V->Hp->VK->Prop:=fun x vs H Q=>∃l xs i k y,x=.ref l/\vs=[.int i]/\H l=some (.lst xs)/\-(2 ^ 63)<=i/\i < 2 ^ 63/\ot i xs.length=some k/\xs[k]?=some y/\Q y (upd H l (.lst (xs.eraseIdx k)))
theorem adw:MtM X "list.pop" amu:=by
 intro pins s σ H x vs v us Q I rx rv h;obtain⟨l,xs,i,k,y,rfl,rfl,hH,h1,h2,hk,hy,q⟩:=h;cases rx;obtain⟨u,rfl,ru⟩:=rv.one;obtain⟨t,rfl⟩:=ru;obtain⟨z,its,n,r,hl,e⟩:=I.amt hH;obtain⟨w,hw,rw'⟩:=r.get hy;refine call_meets F.slot_list_pop ⟨_,e,rfl⟩ F.entry_list_pop (F.args_list_pop_2 _ _)
  (MeetsSeq.list_pop_at l its.toArray n i t k w (fitsIndex_both h1 h2) (by rw[cK,<- hl];exact hk) (by rw[<- h_];exact hw) (by rw[cK];lia)) ⟨e,?_⟩
 refine⟨y,_,I.ams (its':=its.eraseIdx k) hH e ?_ (r.eraseIdx k) ?_,rw',q⟩
 ·show its.toArray.eraseIdxIfInBounds k=(its.eraseIdx k).toArray;rw[List.eraseIdxIfInBounds_toArray]
 ·have:=Ib xs k;lia
end
section
variable{prog:aE}{w:az}{A:a_}{E:aa->af->Prop}{s:af}
end
section
variable{X:Cx}
end
end L2
namespace Att
open PySem PySem.W PySem.Calls PyProof.Rows
theorem Bj{P:Params}{h:Heap}:∀(ns:List Int) (vs:List aa),WellAll P h vs (ns.map WData.int)->oq vs ns:=by
 intro ns
 induction ns with
 |nil =>
  intro vs w;rw[ki]at w;cases w;exact .nil
 |cons n ns ih =>
  intro vs w;rw[ck]at w;cases w with
  |cons a b =>
   cases a;exact .cons _ _ (ih _ b)
theorem abg{l:mw}{n:Nat}(hn:l.most=some n){P:Params}{h:Heap}{args:List WData}{vals:List aa}
  (hpre:l.row.toRowW.claim.pre args=true) (hwl:WellAll P h vals args) :
  ∃a vs ns,vals=[aa.ref a]/\args=[WData.list (ns.map WData.int)]/\h.get? a=some { cls:=.type "list",data:=.seq vs.toArray }/\oq vs ns/\ns.length<=n:=by
 have hsh:WShape.hasAll [] args [.list .int]=true:=(pre_splitW hpre).1;have hc:l.pre.holds [] { args:=args }=true:=(pre_splitW hpre).2;obtain⟨d,r,rfl,h1,h2⟩:=hasAllW_cons hsh;obtain rfl:=hasAllW_nil h2;obtain⟨xs,rfl,h3⟩:=hasW_list h1;obtain⟨ns,rfl⟩:=items_int h3;have hlen:ns.length<=n:=by
  unfold mw.pre at hc;have h4:(WTm.not (.lt (.lit (.int (n:Int))) (.len (.arg 0)))).holds [] { args:=[.list (ns.map .int)] }=true:=by have h4:=(holds_andW hc).1;rw[hn]at h4;exact h4
  have h5:=condW_of h4 (w_not (w_lt w_lit (w_len_list (w_arg rfl))));rw[cb]at h5;refine Nat.le_of_not_lt fun q=>?_;have q':(n:Int) < ((ns.length:Nat):Int):=by lia
  first
   | (rw[decide_eq_true q']at h5;exact absurd h5 (by decide))
   | (simp at h5;lia)
 cases hwl with
 |cons w1 w2 =>
  cases w2;cases w1 with
  |list ho hall=>exact⟨_,_,ns,rfl,rfl,ho,Bj ns _ hall,hlen⟩
theorem abh(l:mw)(args:List WData):l.row.toRowW.claim.post args (.bool true) args=true :=
 postW_of (r:=l.row.toRowW) (X:=(true == true))
  (show WShape.has [] (.bool true) .bool=true by first|rfl|decide|simp[WShape.has,WShape.arms,WShape.armsAll])
  (show(WTm.eq .res (.lit (.bool true))).value [] { args:=args,res:=some (.bool true),after:=args }=some (.bool (true == true)) from w_eq_bool (w_res rfl) w_lit) rfl
theorem Qm{l:mw}{n:Nat}{q:aE}{loose:List Str}{XP:(Str->Option aa)->Heap->Prop}{YP:az->Heap->Prop}{d:DefRec}
  (hn:l.most=some n) (hdf:d.params.defaults=[])
  (call:∀(w:az) (s₀ s₁:af) (mg mb:Str->Option aa) (fa:ab) (o:Obj) (pm cd doc:aa) (a:ab) (vs:List aa) (ns:List Int),
   Ground q loose [] XP w s₀ mg mb s₁.heap->YP w s₁.heap ->
   s₁.heap.get? fa=some o->o.data=.func (docDef d.name d.params d.body d.scope pm cd doc)->s₁.heap.CodeRec cd d.name->mg d.name=some (.ref fa) ->
   s₁.heap.get? a=some { cls:=.type "list",data:=.seq vs.toArray }->oq vs ns->ns.length<=n->s₁.gens=#[] ->
   f7 (ah l.prog w) my (.call (.ref fa) ⟨[.ref a],[]⟩) (fun r s'=>r=.ok (.ret (.bool true))/\OldK s₁.heap s'.heap/\s'.os=s₁.os/\kS s'.gens) s₁) :
  WalkO q loose XP YP l.row.toRowW d [] (fun f vs=>PySem.call f vs):=by
 intro w s₀ s₁ mg mb G Y fa o pm cd doc dV kV ho hd hcd hD hmg hg args vals as hpre hlay hrd hwl hlo;obtain rfl:dV=.none:=Dflts.none hD hdf;obtain rfl:kV=.none:=Dflts.noKw hD;obtain⟨a,vs,ns,rfl,rfl,hobj,hints,hlen⟩:=abg hn hpre hwl;refine enter_call (oy (call w s₀ s₁ mg mb fa o pm cd doc a vs ns G Y ho (fd_plain hd) hcd hmg hobj hints hlen hg) fun r s' hq=>?_);obtain⟨rfl,h2,h3,h4⟩:=hq;exact⟨.inl ⟨.bool true,.bool true,[],rfl,fun _=>rfl,.bool true,abh l _,fun _=>⟨qA.nil,fun _ hm=>(nomatch hm)⟩⟩,h2,h3,h4⟩
section
variable{prog:aE}{w:az}{A:a_}{E:aa->af->Prop}{s:af}{K:Frag}
def arL(h:Heap)(L d:ab):List (ab×Obj):=(cn h.objs.size).filterMap fun a=>if a=L∨a=d then none else (h.get? a).map fun o=>(a,o)
end
end Att
namespace L2
open PySem PySem.Spec PyProof.Rows
theorem uq:∀{vs:List aa}{ns:List Int},oq vs ns->Vals (ns.map V.int) vs
 |_,_,.nil=>.nil
 |_,_,.cons n t h=>.cons ⟨t,rfl⟩ (uq h)
abbrev KOf{K:aw}{h:Heap}(_:K.In h):aw:=K
def bK(s:bj):mn:=match s with
 | .FunctionDef _ a _ _ _ _ _ _ _ _=>a
 |_=>{ posonlyargs:=[],args:=[],vararg:=none,kwonlyargs:=[],kw_defaults:=[],kwarg:=none,defaults:=[] }
def bG(s:bj):List bj:=match s with
 | .FunctionDef _ _ b _ _ _ _ _ _ _=>b
 |_=>[]
def aG(s:bj):Scope:=match s with
 | .FunctionDef _ _ _ _ _ _ sc _ _ _=>sc
 |_=>{ kind:=.function,names:=[],isGenerator:=false,isCoroutine:=false }
structure ur (K:aw)(x qual:Str)(st:bj)(f:ab)(fd:cq):Prop where
 ex:∃(oc:aa) (od:Option ab) (kV doc pm:aa) (an:Option ab) (cdv ct:aa) (osl:Array (Option aa)),
  fd=gi x qual (bK st) (bG st) (aG st) .none kV doc pm an cdv ct/\K.lookup f=some ⟨oc,od,.func fd,osl⟩/\mo K cdv qual=true
 kp:kc K (.ref f)=true
section
variable{P:aE}{w:az}{K:aw}{mg:Str->Option aa}{base:Heap}
theorem ur.binds{x qual:Str}{st:bj}{f:ab}{fd:cq}{ps:List Str}(F:ur K x qual st f fd)
  (h:∀(kV doc pm:aa) (an:Option ab) (cdv ct:aa) (us:List aa),us.length=ps.length->bindArgs (gi x qual (bK st) (bG st) (aG st) .none kV doc pm an cdv ct) ⟨us,[]⟩=pure (ps.zip us)):Binds K fd ps []:=by
 obtain⟨oc,od,kV,doc,pm,an,cdv,ct,osl,rfl,lk,hcd⟩:=F.ex;exact .all (h kV doc pm an cdv ct)
theorem cV{x qual:Str}{st:bj}{f:ab}{oc:aa}{od an:Option ab}{osl:Array (Option aa)}{kV doc pm cdv ct:aa}(l:K.lookup f=some ⟨oc,od,.func (gi x qual (bK st) (bG st) (aG st) .none kV doc pm an cdv ct),osl⟩)
  (c:mo K cdv qual=true) (k:kc K (.ref f)=true):ur K x qual st f (gi x qual (bK st) (bG st) (aG st) .none kV doc pm an cdv ct):=⟨⟨oc,od,kV,doc,pm,an,cdv,ct,osl,rfl,l,c⟩,k⟩
end
theorem abj{n:Nat}(h:n<=1000):n < sizeLine:=jn h (by decide)
section
variable{X:Cx}
theorem pv(i:Nat) {x:Str}{pos:Pos}(hN:X.N[i]?=some x:=by rfl) (hv:Vis X.env.scope x:=by first|exact Or.inl rfl|exact Or.inr (Or.inl rfl)|exact Or.inr (Or.inr rfl)) (hd:(x == ("__debug__":Str))=false:=by decide)
  (hcd:(x == ("__classdict__":Str))=false:=by decide):PE X (.Name x pos) (JF i):=nH hN hv hd hcd
end
def Same(H H':Hp):Prop:=∀b o,H b=some o->H' b=some o
theorem Same.refl(H:Hp):Same H H:=fun _ _ h=>h
theorem Same.trans{H H1 H2:Hp}(a:Same H H1)(b:Same H1 H2):Same H H2:=fun c o h=>b c o (a c o h)
theorem Same.free{H H':Hp}(e:Same H H'){l:ab}(h:H' l=Option.none):H l=Option.none:=by
 cases q:H l with
 |none=>rfl
 |some o =>
  rw[e l o q]at h;cases h
theorem Same.seq{K:aw}{H H':Hp}{a:ab}{xs:List V}(e:Same H H')(h:pO K H a xs):pO K H' a xs:=by
 rcases h with (h|⟨o,h⟩)|h
 ·exact .inl (.inl (e _ _ h))
 ·exact .inl (.inr ⟨o,e _ _ h⟩)
 ·exact .inr h
end L2
namespace Vl
open PySem PySem.Spec L2
inductive D where
 |non|bl (b:Bool)|int (i:Int)|str (x:Str)|tup (xs:List D)|lst (xs:List D)|oG (c:Str) (n:Int)|lE (ks:List (List Int)) (ds:List D)
def alc(a C:ab)(n:Int):Heap->Prop:=fun h=>∃o vs,h.get? a=some o/\o.cls=.ref C/\o.data=.fields vs/\n=0
def UG(K:aw)(G:Hp):ab->List Int->Prop:=fun b ks=>ni K G b (ks.map V.int)
def ZD(ks:List Int):Int:=reduceHash (cy.Tuple.tupleHashOf (ks.map hashInt))
def nJ(U:ab->List Int->Prop)(a:ab)(kvs:List (List Int×V)):Heap->Prop:=fun h=>∃(o:Obj) (es:Array oz) (ep:Nat) (xs:List (List Int×ab×aa)),h.get? a=some o/\o.ExactDict/\o.data=.dict es ep/\(a == iq)=false /\
 es.toList=xs.map (fun x=>⟨ZD x.1,.ref x.2.1,x.2.2⟩)/\(xs.map (·.1)).Nodup/\Paired (fun(p:List Int×V) (q:List Int×ab×aa)=>p.1=q.1/\U q.2.1 q.1/\RelV p.2 q.2.2) kvs xs
mutual
def Rep(K:aw)(G:Hp):D->V->Prop
 | .non,v=>v=.non
 | .bl b,v=>v=.bl b
 | .int i,v=>v=.int i
 | .str x,v=>v=.str x
 | .tup ds,v=>∃a vs,v=.ref a/\ni K G a vs/\bN K G ds vs
 | .lst ds,v=>∃a vs,v=.ref a/\pO K G a vs/\bN K G ds vs
 | .oG c n,v=>∃a C,v=.ref a/\qB K bS c=some (some (.ref C))/\G a=some (.ext (alc a C n))
 | .lE ks ds,v=>∃a U cj,v=.ref a/\G a=some (.ext (nJ U a cj))/\(∀b js,U b js->UG K G b js)/\cj.map (·.1)=ks/\bN K G ds (cj.map (·.2))
def bN(K:aw)(G:Hp):List D->List V->Prop
 | [],vs=>vs=[]
 |d::ds,vs=>∃v vs',vs=v::vs'/\Rep K G d v/\bN K G ds vs'
end
theorem Same.fW{K:aw}{H H':Hp}{a:ab}{xs:List V}(e:Same H H')(h:ni K H a xs):ni K H' a xs:=by
 rcases h with (h|⟨o,h⟩)|h
 ·exact .inl (.inl (e _ _ h))
 ·exact .inl (.inr ⟨o,e _ _ h⟩)
 ·exact .inr h
mutual
theorem Rep.mono{K:aw}{G G':Hp}(e:Same G G'):∀{d:D}{v:V},Rep K G d v->Rep K G' d v
 | .non,_,h=>by simp only[Rep]at h ⊢;exact h
 | .bl _,_,h=>by simp only[Rep]at h ⊢;exact h
 | .int _,_,h=>by simp only[Rep]at h ⊢;exact h
 | .str _,_,h=>by simp only[Rep]at h ⊢;exact h
 | .tup ds,_,h=>by simp only[Rep]at h ⊢;obtain⟨a,vs,e1,h1,h2⟩:=h;exact⟨a,vs,e1,Same.fW e h1,bN.mono e h2⟩
 | .lst ds,_,h=>by simp only[Rep]at h ⊢;obtain⟨a,vs,e1,h1,h2⟩:=h;exact⟨a,vs,e1,e.seq h1,bN.mono e h2⟩
 | .oG c n,_,h=>by simp only[Rep]at h ⊢;obtain⟨a,C,e1,h1,h2⟩:=h;exact⟨a,C,e1,h1,e _ _ h2⟩
 | .lE ks ds,_,h=>by simp only[Rep]at h ⊢;obtain⟨a,U,cj,e1,h1,h2,h3,h4⟩:=h;exact⟨a,U,cj,e1,e _ _ h1,fun b js q=>Same.fW e (h2 b js q),h3,bN.mono e h4⟩
theorem bN.mono{K:aw}{G G':Hp}(e:Same G G'):∀{ds:List D}{vs:List V},bN K G ds vs->bN K G' ds vs
 | [],_,h=>by simp only[bN]at h ⊢;exact h
 |d::ds,_,h=>by simp only[bN]at h ⊢;obtain⟨v,vs',e1,h1,h2⟩:=h;exact⟨v,vs',e1,Rep.mono e h1,bN.mono e h2⟩
end
section
variable{K:aw}{G:Hp}
theorem aR{i:Int}{v:V}:Rep K G (.int i) v↔v=.int i:=by simp only[Rep]
theorem bQ{i:Bool}{v:V}:Rep K G (.bl i) v↔v=.bl i:=by simp only[Rep]
theorem bZ{v:V}:Rep K G .non v↔v=.non:=by simp only[Rep]
theorem cu{x:Str}{v:V}:Rep K G (.str x) v↔v=.str x:=by simp only[Rep]
theorem bD{ds:List D}{v:V}:Rep K G (.tup ds) v↔∃a vs,v=.ref a/\ni K G a vs/\bN K G ds vs:=by simp only[Rep]
theorem aY{ds:List D}{v:V}:Rep K G (.lst ds) v↔∃a vs,v=.ref a/\pO K G a vs/\bN K G ds vs:=by simp only[Rep]
theorem JT{c:Str}{n:Int}{v:V}:Rep K G (.oG c n) v↔∃a C,v=.ref a/\qB K bS c=some (some (.ref C))/\G a=some (.ext (alc a C n)):=by simp only[Rep]
theorem uw{ks:List (List Int)}{ds:List D}{v:V}:Rep K G (.lE ks ds) v↔∃a U cj,v=.ref a/\G a=some (.ext (nJ U a cj))/\(∀b js,U b js->UG K G b js)/\cj.map (·.1)=ks/\bN K G ds (cj.map (·.2)):=by simp only[Rep]
theorem bx{vs:List V}:bN K G [] vs↔vs=[]:=by simp only[bN]
theorem aQ{d:D}{ds:List D}{vs:List V}:bN K G (d::ds) vs↔∃v vs',vs=v::vs'/\Rep K G d v/\bN K G ds vs':=by simp only[bN]
theorem bN.length:∀{ds:List D}{vs:List V},bN K G ds vs->ds.length=vs.length
 | [],_,h=>by rw[bx.mp h];rfl
 |d::ds,_,h=>by obtain⟨v,vs',rfl,_,h2⟩:=aQ.mp h;simp[bN.length h2]
theorem bN.get:∀{ds:List D}{vs:List V}{i:Nat}{d:D},bN K G ds vs->ds[i]?=some d->∃v,vs[i]?=some v/\Rep K G d v
 | [],_,_,_,h,e=>by simp at e
 |d::ds,_,i,x,h,e=>by
  obtain⟨v,vs',rfl,h1,h2⟩:=aQ.mp h;cases i with
  |zero=>simp at e;subst e;exact⟨v,by simp,h1⟩
  |succ i=>obtain⟨u,q1,q2⟩:=bN.get (i:=i) h2 (by simpa using e);exact⟨u,by simpa using q1,q2⟩
theorem bN.get':∀{ds:List D}{vs:List V}{i:Nat}{v:V},bN K G ds vs->vs[i]?=some v->∃d,ds[i]?=some d/\Rep K G d v
 | [],_,_,_,h,e=>by rw[bx.mp h]at e;simp at e
 |d::ds,_,i,x,h,e=>by
  obtain⟨v,vs',rfl,h1,h2⟩:=aQ.mp h;cases i with
  |zero=>simp at e;subst e;exact⟨d,by simp,h1⟩
  |succ i=>obtain⟨u,q1,q2⟩:=bN.get' (i:=i) h2 (by simpa using e);exact⟨u,by simpa using q1,q2⟩
theorem bN.append:∀{ds es:List D}{vs us:List V},bN K G ds vs->bN K G es us->bN K G (ds++es) (vs++us)
 | [],_,_,_,h,h'=>by rw[bx.mp h];exact h'
 |d::ds,_,_,_,h,h'=>by obtain⟨v,vs',rfl,h1,h2⟩:=aQ.mp h;exact aQ.mpr ⟨v,_,rfl,h1,bN.append h2 h'⟩
theorem bN.one{d:D}{v:V}(h:Rep K G d v):bN K G [d] [v]:=aQ.mpr ⟨v,[],rfl,h,bx.mpr rfl⟩
theorem bN.drop:∀{ds:List D}{vs:List V}(n:Nat),bN K G ds vs->bN K G (ds.drop n) (vs.drop n)
 |ds,vs,0,h=>by simpa using h
 | [],_,n + 1,h=>by rw[bx.mp h];simpa using bx.mpr rfl
 |d::ds,_,n + 1,h=>by obtain⟨v,vs',rfl,h1,h2⟩:=aQ.mp h;simpa using bN.drop n h2
theorem bN.take:∀{ds:List D}{vs:List V}(n:Nat),bN K G ds vs->bN K G (ds.take n) (vs.take n)
 |ds,vs,0,h=>by simpa using bx.mpr rfl
 | [],_,n + 1,h=>by rw[bx.mp h];simpa using bx.mpr rfl
 |d::ds,_,n + 1,h=>by obtain⟨v,vs',rfl,h1,h2⟩:=aQ.mp h;simpa using aQ.mpr ⟨v,_,rfl,h1,bN.take n h2⟩
theorem yQ(ns:List Int):bN K G (ns.map D.int) (ns.map V.int):=by
 induction ns with
 |nil=>exact bx.mpr rfl
 |cons n ns ih=>exact aQ.mpr ⟨_,_,rfl,aR.mpr rfl,ih⟩
end
inductive Rs (α:Type) where
 |ok (a:α)|ex (c:Str) (n:Int)|no
def Rs.bind{α β:Type}:Rs α->(α->Rs β)->Rs β
 | .ok a,k=>k a
 | .ex c n,_=>.ex c n
 | .no,_=>.no
inductive Sl where
 |no|fz (d:D)|ow (ds:List D)|od (kvs:List (List Int×D))|op (ds:List D)
def Sl.own:Sl->Bool
 | .ow _=>true
 | .od _=>true
 | .op _=>true
 |_=>false
inductive fM (K:aw) (G:Hp):List (List Int×D)->List (List Int×V)->Prop
 |nil:fM K G [] []
 |cons {k:List Int}{d:D}{v:V}{kvs:List (List Int×D)}{cj:List (List Int×V)}:Rep K G d v->fM K G kvs cj->fM K G ((k,d)::kvs) ((k,v)::cj)
theorem fM.mono{K:aw}{G G':Hp}(e:Same G G'){kvs:List (List Int×D)}{cj:List (List Int×V)}(h:fM K G kvs cj):fM K G' kvs cj:=by
 induction h with
 |nil=>exact .nil
 |cons r _ ih=>exact .cons (r.mono e) ih
def uY(K:aw)(G:Hp)(a:ab):Sl->HO->Prop
 | .ow ds,o=>∃vs,o=.lst vs/\bN K G ds vs
 | .op ds,o=>∃vs,o=.lst vs/\bN K G ds vs
 | .od kvs,o=>∃U cj,o=.ext (nJ U a cj)/\(∀b ks,U b ks->UG K G b ks)/\fM K G kvs cj
 |_,_=>False
theorem uY.mono{K:aw}{G G':Hp}(e:Same G G'){a:ab}{z:Sl}{o:HO}(h:uY K G a z o):uY K G' a z o:=by
 cases z with
 |ow ds=>obtain⟨vs,h1,h2⟩:=h;exact⟨vs,h1,h2.mono e⟩
 |od kvs=>obtain⟨U,cj,h1,h2,h3⟩:=h;exact⟨U,cj,h1,fun b ks q=>Same.fW e (h2 b ks q),h3.mono e⟩
 |op ds=>obtain⟨vs,h1,h2⟩:=h;exact⟨vs,h1,h2.mono e⟩
 |_=>exact h.elim
theorem uY.tup{K:aw}{G:Hp}{a:ab}{z:Sl}{xs:List V}(h:uY K G a z (.tup xs)):False:=by
 cases z with
 |ow ds=>obtain⟨vs,h1,h2⟩:=h;cases h1
 |od kvs=>obtain⟨U,cj,h1,h2,h3⟩:=h;cases h1
 |op ds=>obtain⟨vs,h1,h2⟩:=h;cases h1
 |_=>exact h
abbrev aK:=List Sl
structure Bs where
 g:Hp
 h:Hp
 p:ab
abbrev Wi:=Str->Int->St->Hp->Prop
def ZF(fd:cq):Bool:=match fd.body with
 | .stmts ss=>(match ss.getLast? with
  |some (.Return (some (.Call _ _ (k::_) _)) _)=>(match k.value with|.Lambda _ _ _ _=>true|_=>false)
  |_=>false)
 |_=>false
def adx(K:aw):List (ab×Str):=K.filterMap fun p=>match p.2.data with
 | .func fd=>if ZF fd then (match fd.code with
  | .ref c=>(match K.lookup c with
   |some oc=>(match oc.data with|.fields vs=>(match (vs[11]?:Option aa) with|some (.ref P)=>some (P,fd.qualname++(".<locals>.<lambda>":Str))|_=>none)|_=>none)
   |none=>none)
  |_=>none) else none
 |_=>none
def Cok(K:aw)(H:Hp):Prop:=∀x∈adx K,H x.1=some (.tab x.2)
theorem Cok.same{K:aw}{H H':Hp}(h:Cok K H)(e:Same H H'):Cok K H':=fun x m=>e _ _ (h x m)
theorem Cok.upd{K:aw}{H:Hp}{a:ab}{o u:HO}(h:Cok K H)(e:H a=some u)(n:∀q,u≠.tab q):Cok K (upd H a o):=fun x m=>by have:=h x m;rw[bC (fun z=>by subst z;rw[e]at this;exact n _ (dq this))];exact this
theorem uY.tab{K:aw}{G:Hp}{a:ab}{z:Sl}{o:HO}(h:uY K G a z o):∀q,o≠.tab q:=fun q e=>by
 subst e;cases z with
 |ow ds=>obtain⟨vs,h1,h2⟩:=h;cases h1
 |od kvs=>obtain⟨U,cj,h1,h2,h3⟩:=h;cases h1
 |op ds=>obtain⟨vs,h1,h2⟩:=h;cases h1
 |_=>exact h
structure Ext (G H G' H':Hp):Prop where
 gg:Same G G'
 hh:Same H H'
 gh:Same G' H'
 tp:∀a xs,H' a=some (.tup xs)->G' a=some (.tup xs)
 nw:∀b o,H b=some o->G b=none->G' b=none
theorem Ext.trans{G H G1 H1 G2 H2:Hp}(a:Ext G H G1 H1)(b:Ext G1 H1 G2 H2):Ext G H G2 H2 :=
 ⟨a.gg.trans b.gg,a.hh.trans b.hh,b.gh,b.tp,fun c o h n=>b.nw c o (a.hh c o h) (a.nw c o h n)⟩
theorem Ext.refl{G H:Hp}(gh:Same G H)(tp:∀a xs,H a=some (.tup xs)->G a=some (.tup xs)):Ext G H G H:=⟨.refl _,.refl _,gh,tp,fun _ _ _ n=>n⟩
structure SR (K:aw)(B:Bs)(σ:St)(H:Hp)(ρ:aK)(G:Hp):Prop where
 en:Ext B.1 B.2 G H
 len:ρ.length=σ.length
 fz:∀(i:Nat) (d:D),ρ[i]?=some (.fz d)->∃v,σ[i]?=some (some v)/\Rep K G d v
 own:∀(i:Nat) (z:Sl),ρ[i]?=some z->z.own=true->∃a o,σ[i]?=some (some (.ref a))/\H a=some o/\G a=none/\B.2 a=none/\uY K G a z o
 ap:∀(i j:Nat) (z z':Sl) (a:ab),ρ[i]?=some z->z.own=true->ρ[j]?=some z'->z'.own=true->σ[i]?=some (some (.ref a))->σ[j]?=some (some (.ref a))->i=j
 tie:∀(i:Nat) (ds:List D) (a:ab),ρ[i]?=some (.op ds)->σ[i]?=some (some (.ref a))->a=B.3
 co:Cok K H
structure Ex0 (K:aw)(G H:Hp):Prop extends Ext G H G H where
 co:Cok K H
section
variable{K:aw}{B:Bs}{σ:St}{H H' G G':Hp}{ρ:aK}
theorem SR.vD(h:SR K B σ H ρ G):Ext G H G H:=.refl h.en.gh h.en.tp
theorem SR.ext(h:SR K B σ H ρ G)(e:Ext G H G' H'):SR K B σ H' ρ G' where
 en:=h.en.trans e
 len:=h.len
 fz:=fun i d q=>let ⟨v,h1,h2⟩:=h.fz i d q;⟨v,h1,h2.mono e.gg⟩
 own:=fun i z q w=>let ⟨a,o,h1,h2,h3,h4,h5⟩:=h.own i z q w;⟨a,o,h1,e.hh _ _ h2,e.nw _ _ h2 h3,h4,h5.mono e.gg⟩
 ap:=h.ap
 tie:=h.tie
 co:=h.co.same e.hh
theorem SR.ex0(h:SR K B σ H ρ G):Ex0 K G H:=⟨h.vD,h.co⟩
theorem SR.set(h:SR K B σ H ρ G){i:Nat}{d:D}{v:V}(r:Rep K G d v):SR K B (σ.set i (some v)) H (ρ.set i (.fz d)) G where
 en:=h.en
 len:=by simp[h.len]
 fz:=fun j d' q=>by
  by_cases e:i=j
  ·subst e;have hl:i < ρ.length:=by have:=(eB.mp q).1;simpa using this
   rw[d_ hl]at q;cases q;exact⟨v,d_ (by rw[<- h.len];exact hl),r⟩
  ·rw[dE e]at q;rw[dE e];exact h.fz j d' q
 own:=fun j z q w=>by
  by_cases e:i=j
  ·subst e;have hl:i < ρ.length:=by have:=(eB.mp q).1;simpa using this
   rw[d_ hl]at q;cases q;cases w
  ·rw[dE e]at q;rw[dE e];exact h.own j z q w
 ap:=fun j k z z' a q1 w1 q2 w2 q3 q4=>by
  have ne:∀(l:Nat) (z:Sl),(ρ.set i (.fz d))[l]?=some z->z.own=true->i≠l:=fun l z q w e=>by
   subst e;have hl:i < ρ.length:=by have:=(eB.mp q).1;simpa using this
   rw[d_ hl]at q;cases q;cases w
  have n1:=ne j z q1 w1;have n2:=ne k z' q2 w2;rw[dE n1]at q1 q3;rw[dE n2]at q2 q4;exact h.ap j k z z' a q1 w1 q2 w2 q3 q4
 tie:=fun j ds a q1 q2=>by
  have e:i≠j:=fun e=>by
   subst e;have hl:i < ρ.length:=by have:=(eB.mp q1).1;simpa using this
   rw[d_ hl]at q1;cases q1
  rw[dE e]at q1 q2;exact h.tie j ds a q1 q2
 co:=h.co
theorem SR.ow(h:SR K B σ H ρ G)(i:Nat)(ds:List D)(q:ρ[i]?=some (.ow ds)):∃a vs,σ[i]?=some (some (.ref a))/\H a=some (.lst vs)/\G a=none/\B.2 a=none/\bN K G ds vs:=by obtain⟨a,o,h1,h2,h3,h4,vs,rfl,h5⟩:=h.own i _ q rfl;exact⟨a,vs,h1,h2,h3,h4,h5⟩
theorem JV(gh:Same G H)(tp:∀a xs,H a=some (.tup xs)->G a=some (.tup xs)){p:ab}{xs:List V}(hp:H p=none):Ext G H (upd G p (.tup xs)) (upd H p (.tup xs)) where
 gg:=fun b o e=>by rw[bC (bH (gh _ _ e) hp)];exact e
 hh:=fun b o e=>by rw[bC (bH e hp)];exact e
 gh:=fun b o e=>by
  by_cases q:b=p
  ·subst q;rw[bF]at e ⊢;exact e
  ·rw[bC q]at e ⊢;exact gh _ _ e
 tp:=fun b ys e=>by
  by_cases q:b=p
  ·subst q;rw[bF]at e ⊢;exact e
  ·rw[bC q]at e ⊢;exact tp _ _ e
 nw:=fun b o e n=>by rw[bC (bH e hp)];exact n
theorem jF(gh:Same G H)(tp:∀a xs,H a=some (.tup xs)->G a=some (.tup xs)){p:ab}{xs:List V}(hp:H p=none):Ext G H (upd G p (.lst xs)) (upd H p (.lst xs)) where
 gg:=fun b o e=>by rw[bC (bH (gh _ _ e) hp)];exact e
 hh:=fun b o e=>by rw[bC (bH e hp)];exact e
 gh:=fun b o e=>by
  by_cases q:b=p
  ·subst q;rw[bF]at e ⊢;exact e
  ·rw[bC q]at e ⊢;exact gh _ _ e
 tp:=fun b ys e=>by
  by_cases q:b=p
  ·subst q;rw[bF]at e;cases e
  ·rw[bC q]at e ⊢;exact tp _ _ e
 nw:=fun b o e n=>by rw[bC (bH e hp)];exact n
theorem ZG(gh:Same G H)(tp:∀a xs,H a=some (.tup xs)->G a=some (.tup xs)){p:ab}{o:HO}(ho:∀xs,o≠.tup xs)(hp:H p=none):Ext G H G (upd H p o) where
 gg:=.refl _
 hh:=fun b o e=>by rw[bC (bH e hp)];exact e
 gh:=fun b o e=>by rw[bC (bH (gh _ _ e) hp)];exact gh _ _ e
 tp:=fun b ys e=>by
  by_cases q:b=p
  ·subst q;rw[bF]at e;cases e;exact absurd rfl (ho ys)
  ·rw[bC q]at e;exact tp _ _ e
 nw:=fun b o e n=>n
theorem ZJ(gh:Same G H)(tp:∀a xs,H a=some (.tup xs)->G a=some (.tup xs)){p:ab}{xs:List V}(hp:H p=none):Ext G H G (upd H p (.lst xs)) where
 gg:=.refl _
 hh:=fun b o e=>by rw[bC (bH e hp)];exact e
 gh:=fun b o e=>by rw[bC (bH (gh _ _ e) hp)];exact gh _ _ e
 tp:=fun b ys e=>by
  by_cases q:b=p
  ·subst q;rw[bF]at e;cases e
  ·rw[bC q]at e;exact tp _ _ e
 nw:=fun b o e n=>n
end
def Post(K:aw)(W:Wi)(σ:St)(G H:Hp)(r:Rs D)(Q:VK):Prop :=
 match r with
 | .ok d=>∀v H' G',Ext G H G' H'->Rep K G' d v->Q v H'
 | .ex c n=>∀H' G',Ext G H G' H'->W c n σ H'
 | .no=>False
def tF(K:aw)(B:Bs)(W:Wi)(f:aK->Rs D):TE:=fun σ H Q=>∃ρ G,SR K B σ H ρ G/\Post K W σ G H (f ρ) Q
def SE(X:Cx)(B:Bs)(W:Wi)(e:ai)(f:aK->Rs D):Prop:=PE X e (tF X.K B W f)
theorem PE.imp{X:Cx}{e:ai}{t t':TE}(h:PE X e t)(i:∀σ H Q,t' σ H Q->t σ H Q):PE X e t':=fun pins s σ H Q I q=>h pins s σ H Q I (i σ H Q q)
theorem PT.imp{X:Cx}{e:ai}{t t':TT}(h:PT X e t)(i:∀σ H Q,t' σ H Q->t σ H Q):PT X e t':=fun pins s σ H Q I q=>h pins s σ H Q I (i σ H Q q)
theorem PA.imp{X:Cx}{e:List ai}{t t':TA}(h:PA X e t)(i:∀σ H Q,t' σ H Q->t σ H Q):PA X e t':=fun pos pins s σ H Q I q=>h pos pins s σ H Q I (i σ H Q q)
theorem PS.imp{X:Cx}{e:bj}{t t':TS}(h:PS X e t)(i:∀De σ H,t' De σ H->t De σ H):PS X e t':=fun pins s σ H De I q=>h pins s σ H De I (i De σ H q)
theorem Wn.imp{X:Cx}{e:List bj}{t t':TS}(h:Wn X e t)(i:∀De σ H,t' De σ H->t De σ H):Wn X e t':=fun pins s σ H De I q=>h pins s σ H De I (i De σ H q)
section
variable{X:Cx}{K:aw}{B:Bs}{W:Wi}{σ:St}{G H:Hp}{ρ:aK}{Q Q':VK}
theorem Post.mono{r:Rs D}(h:Post K W σ G H r Q)(i:∀v H',Q v H'->Q' v H'):Post K W σ G H r Q':=by
 cases r with
 |ok d=>exact fun v H' G' e r=>i _ _ (h v H' G' e r)
 |ex c n=>exact h
 |no=>exact h
theorem Post.ext{r:Rs D}{G' H':Hp}(e:Ext G H G' H')(h:Post K W σ G H r Q):Post K W σ G' H' r Q:=by
 cases r with
 |ok d=>exact fun v Qn G'' e' r=>h v Qn G'' (e.trans e') r
 |ex c n=>exact fun Qn G'' e'=>h Qn G'' (e.trans e')
 |no=>exact h
theorem Post.bind{r:Rs D}{k:D->Rs D}(h:Post K W σ G H (r.bind k) Q) :
  Post K W σ G H r fun v H1=>∃G1 d,Ext G H G1 H1/\Rep K G1 d v/\Post K W σ G1 H1 (k d) Q:=by
 cases r with
 |ok d=>exact fun v H' G' e r=>⟨G',d,e,r,Post.ext e h⟩
 |ex c n=>exact h
 |no=>exact h
theorem Post.ok{d:D}{v:V}(s:SR K B σ H ρ G)(h:Post K W σ G H (.ok d) Q)(r:Rep K G d v):Q v H:=h v H G s.vD r
theorem wQ{f:aK->Rs D}{k:aK->D->Rs D}(h:tF K B W (fun ρ=>(f ρ).bind (k ρ)) σ H Q) :
  tF K B W f σ H fun v H1=>∃ρ G1 d,SR K B σ H1 ρ G1/\Rep K G1 d v/\Post K W σ G1 H1 (k ρ d) Q:=by
 obtain⟨ρ,G,s,p⟩:=h;exact⟨ρ,G,s,p.bind.mono fun v H1 ⟨G1,d,e,r,q⟩=>⟨ρ,G1,d,s.ext e,r,q⟩⟩
theorem ady{f:aK->Rs D}{k:D->D->Rs D}{v:V}(h:∃ρ G1 d,SR K B σ H ρ G1/\Rep K G1 d v/\Post K W σ G1 H ((f ρ).bind (k d)) Q) :
  tF K B W f σ H fun u H1=>∃ρ G1 d d',SR K B σ H1 ρ G1/\Rep K G1 d v/\Rep K G1 d' u/\Post K W σ G1 H1 (k d d') Q:=by
 obtain⟨ρ,G,d,s,r,p⟩:=h;exact⟨ρ,G,s,p.bind.mono fun u H1 ⟨G1,d',e,r',q⟩=>⟨ρ,G1,d,d',s.ext e,r.mono e.gg,r',q⟩⟩
def aD(i:Nat):aK->Rs D:=fun ρ=>match ρ[i]? with|some (.fz d)=>.ok d|_=>.no
def fC(d:D):aK->Rs D:=fun _=>.ok d
theorem amv{e:ai}{i:Nat}(h:PE X e (JF i)):SE X B W e (aD i):=PE.imp h fun σ H Q ⟨ρ,G,s,p⟩=>by
 unfold aD at p;cases q:ρ[i]? with
 |none=>rw[q]at p;exact p.elim
 |some x =>
  rw[q]at p;cases x with
  |no=>exact p.elim
  |ow _=>exact p.elim
  |od _=>exact p.elim
  |op _=>exact p.elim
  |fz d =>
   obtain⟨v,h1,h2⟩:=s.fz i d q;exact⟨v,h1,Post.ok s p h2⟩
theorem sv(i:Nat) {x:Str}{pos:Pos}(hN:X.N[i]?=some x:=by rfl) (hv:Vis X.env.scope x:=by first|exact Or.inl rfl|exact Or.inr (Or.inl rfl)|exact Or.inr (Or.inr rfl)) (hd:(x == ("__debug__":Str))=false:=by decide)
  (hcd:(x == ("__classdict__":Str))=false:=by decide):SE X B W (.Name x pos) (aD i):=amv (nH hN hv hd hcd)
theorem aik{e:ai}{v:V}{d:D}(h:PE X e (tC v))(r:∀G,Rep X.K G d v):SE X B W e (fC d):=PE.imp h fun σ H Q ⟨ρ,G,s,p⟩=>Post.ok s p (r G)
theorem au{i:Int}{j pos}:SE X B W (.Constant (.int i) j pos) (fC (.int i)):=aik alO fun _=>aR.mpr rfl
theorem lK{b:Bool}{j pos}:SE X B W (.Constant (.bool b) j pos) (fC (.bl b)):=aik aoM fun _=>bQ.mpr rfl
theorem JW{j pos}:SE X B W (.Constant .none j pos) (fC .non):=aik alP fun _=>bZ.mpr rfl
theorem vG{x j pos}:SE X B W (.Constant (.str x) j pos) (fC (.str x)):=aik alQ fun _=>cu.mpr rfl
def bJ(g:D->D->Rs D)(fa fb:aK->Rs D):aK->Rs D:=fun ρ=>(fa ρ).bind fun x=>(fb ρ).bind fun y=>g x y
def Wy(K:aw)(r:R2)(g:D->D->Rs D):Prop :=
 ∀(B:Bs) (W:Wi) (σ:St) (ρ:aK) (G H:Hp) (x y:D) (v u:V) (Q:VK),SR K B σ H ρ G->Rep K G x v->Rep K G y u->Post K W σ G H (g x y) Q->r v u H Q
theorem CW{r:R2}{g:D->D->Rs D}{fa fb:aK->Rs D}(ho:Wy K r g)(h:tF K B W (bJ g fa fb) σ H Q):tOp r (tF K B W fa) (tF K B W fb) σ H Q:=by obtain⟨ρ,G,s,p⟩:=wQ (k:=fun ρ x=>(fb ρ).bind fun y=>g x y) h;refine⟨ρ,G,s,p.mono fun v H1 h1=>?_⟩;obtain⟨ρ,G,s,p⟩:=ady (k:=g) h1;exact⟨ρ,G,s,p.mono fun u H2 ⟨ρ2,G2,d,d',s2,r1,r2,p2⟩=>ho B W σ ρ2 G2 H2 d d' v u Q s2 r1 r2 p2⟩
theorem Ig{a b:ai}{op:Operator}{pos:Pos}{r:R2}{g:D->D->Rs D}{fa fb:aK->Rs D}(ho:uU X (hW op) r)(hg:Wy X.K r g)(ha:SE X B W a fa)(hb:SE X B W b fb):SE X B W (.BinOp a op b pos) (bJ g fa fb) :=
 PE.imp (akX ho ha hb) fun _ _ _ h=>CW hg h
def gI(C:Int->Int->Prop)[∀i j,Decidable (C i j)](g:Int->Int->D):D->D->Rs D
 | .int i,.int j=>if C i j then .ok (g i j) else .no
 |_,_=>.no
theorem ZK{C:Int->Int->Prop}[∀i j,Decidable (C i j)]{gv:Int->Int->V}{g:Int->Int->D}(hg:∀G i j,Rep K G (g i j) (gv i j)):Wy K (rI C gv) (gI C g):=by
 intro B W σ ρ G H x y v u Q s rx ry p;cases x <;> first|exact p.elim|skip
 rename_i i;cases y <;> first|exact p.elim|skip
 rename_i j;simp only[gI]at p;by_cases c:C i j
 ·rw[if_pos c]at p;exact⟨i,j,aR.mp rx,aR.mp ry,c,Post.ok s p (hg G i j)⟩
 ·rw[if_neg c]at p;exact p.elim
def gI0(g:Int->Int->D):D->D->Rs D
 | .int i,.int j=>.ok (g i j)
 |_,_=>.no
theorem JX{gv:Int->Int->V}{g:Int->Int->D}(hg:∀G i j,Rep K G (g i j) (gv i j)):Wy K (rI0 gv) (gI0 g):=by
 intro B W σ ρ G H x y v u Q s rx ry p;cases x <;> first|exact p.elim|skip
 rename_i i;cases y <;> first|exact p.elim|skip
 rename_i j;exact⟨i,j,aR.mp rx,aR.mp ry,Post.ok s p (hg G i j)⟩
end
mutual
def qC:D->D->Bool
 | .tup a,.tup b=>uV a b
 | .lst a,.lst b=>uV a b
 | .non,.non=>true
 | .bl a,.bl b=>a == b
 | .bl a,.int b=>(if a then 1 else 0) == b
 | .int a,.bl b=>a == (if b then 1 else 0)
 | .int a,.int b=>a == b
 | .str a,.str b=>a == b
 | .oG a b,.oG c d=>a == c && b == d
 | .lE _ _,.lE _ _=>true
 |_,_=>false
def uV:List D->List D->Bool
 | [],[]=>true
 |a::as,b::bs=>qC a b && uV as bs
 |_,_=>false
end
mutual
def cR:D->Nat
 | .tup a=>gB a + 1
 | .lst a=>gB a + 1
 | .oG _ _=>be
 | .lE _ _=>be
 |_=>0
def gB:List D->Nat
 | []=>0
 |a::as=>Nat.max (cR a) (gB as)
end
mutual
theorem CZ:∀d:D,qC d d=true
 | .non=>by simp[qC]
 | .bl _=>by simp[qC]
 | .int _=>by simp[qC]
 | .str _=>by simp[qC]
 | .tup a=>by simp[qC,yR a]
 | .lst a=>by simp[qC,yR a]
 | .oG _ _=>by simp[qC]
 | .lE _ _=>by simp[qC]
theorem yR:∀d:List D,uV d d=true
 | []=>by simp[uV]
 |a::as=>by simp[uV,CZ a,yR as]
end
theorem fj:∀(a b:List D),((cn (min a.length b.length)).all (fun j=>qC (a.getD j .non) (b.getD j .non)) && a.length == b.length)=uV a b
 | [],[]=>by simp[uV]
 | [],b::bs=>by simp[uV]
 |a::as,[]=>by simp[uV]
 |a::as,b::bs=>by have ih:=fj as bs;rw[uV,<- ih];rw[show min (a::as).length (b::bs).length=min as.length bs.length + 1 by simp];rw[oB,List.all_cons,List.all_map];simp[vT,Bool.and_assoc]
theorem wR{d:D}:∀{ds:List D},d∈ds->cR d<=gB ds
 | [],h=>by cases h
 |x::xs,h=>by
  rw[gB];rcases bz.mp h with rfl|h
  ·exact Nat.le_max_left _ _
  ·exact cz (wR h) (v8 _ _)
section
variable{X:Cx}{pins:List (ab×Obj)}{σ:St}{H:Hp}{s:af}
theorem Qo(I:Inv X pins σ H s){a:ab}{xs ys:List V}(h:pO X.K H a xs)(h':ni X.K H a ys):False:=by obtain⟨_,_,⟨o,n,e,c,_,_⟩,_⟩:=I.list h;obtain⟨_,_,⟨o',e',c',_⟩,_⟩:=I.tuple h';rw[e]at e';cases e';rw[c]at c';exact absurd c' (by decide)
theorem Qp(I:Inv X pins σ H s){a:ab}{xs:List V}{φ:Heap->Prop}(h:ni X.K H a xs)(h':H a=some (.ext φ)):False:=by
 rcases h with (h|⟨o,h⟩)|⟨o,its,n,hk,_⟩
 ·rw[h']at h;cases h
 ·rw[h']at h;cases h
 ·have:=(I.bs a o (I.mod.kin a o hk)).2;rw[h']at this;cases this
theorem Qq(I:Inv X pins σ H s){a:ab}{xs:List V}{φ:Heap->Prop}(h:pO X.K H a xs)(h':H a=some (.ext φ)):False:=by
 rcases h with (h|⟨o,h⟩)|⟨o,its,n,hk,_⟩
 ·rw[h']at h;cases h
 ·rw[h']at h;cases h
 ·have:=(I.bs a o (I.mod.kin a o hk)).2;rw[h']at this;cases this
mutual
theorem Rep.inj(I:Inv X pins σ H s):∀{d d':D}{v:V},cR d < be->Rep X.K H d v->Rep X.K H d' v->d=d'
 | .non,d',v,_,h,h'=>by
  rw[bZ.mp h]at h';cases d' <;> simp only[Rep]at h' <;> first|rfl|(obtain⟨a,vs,e,_⟩:=h';cases e;done)|(obtain⟨a,U,cj,e,_⟩:=h';cases e;done)|(cases h';rfl)|cases h'
 | .bl _,d',v,_,h,h'=>by
  rw[bQ.mp h]at h';cases d' <;> simp only[Rep]at h' <;> first|rfl|(obtain⟨a,vs,e,_⟩:=h';cases e;done)|(obtain⟨a,U,cj,e,_⟩:=h';cases e;done)|(cases h';rfl)|cases h'
 | .int _,d',v,_,h,h'=>by
  rw[aR.mp h]at h';cases d' <;> simp only[Rep]at h' <;> first|rfl|(obtain⟨a,vs,e,_⟩:=h';cases e;done)|(obtain⟨a,U,cj,e,_⟩:=h';cases e;done)|(cases h';rfl)|cases h'
 | .str _,d',v,_,h,h'=>by
  rw[cu.mp h]at h';cases d' <;> simp only[Rep]at h' <;> first|rfl|(obtain⟨a,vs,e,_⟩:=h';cases e;done)|(obtain⟨a,U,cj,e,_⟩:=h';cases e;done)|(cases h';rfl)|cases h'
 | .tup ds,d',v,hd,h,h'=>by
  obtain⟨a,vs,rfl,q,r⟩:=bD.mp h;cases d' with
  |tup es =>
   obtain⟨b,us,e,q',r'⟩:=bD.mp h';cases e;rw[I.yN q' q]at r';rw[bN.inj I (by simp only[cR]at hd;lia) r r']
  |lst es =>
   obtain⟨b,us,e,q',r'⟩:=aY.mp h';cases e;exact(Qo I q' q).elim
  |oG c n =>
   obtain⟨b,C,e,_,q'⟩:=JT.mp h';cases e;exact(Qp I q q').elim
  |lE c n =>
   obtain⟨b,U,cj,e,q',_⟩:=uw.mp h';cases e;exact(Qp I q q').elim
  |_=>simp only[Rep]at h';cases h'
 | .lst ds,d',v,hd,h,h'=>by
  obtain⟨a,vs,rfl,q,r⟩:=aY.mp h;cases d' with
  |lst es =>
   obtain⟨b,us,e,q',r'⟩:=aY.mp h';cases e;rw[I.Qi q' q]at r';rw[bN.inj I (by simp only[cR]at hd;lia) r r']
  |tup es =>
   obtain⟨b,us,e,q',r'⟩:=bD.mp h';cases e;exact(Qo I q q').elim
  |oG c n =>
   obtain⟨b,C,e,_,q'⟩:=JT.mp h';cases e;exact(Qq I q q').elim
  |lE c n =>
   obtain⟨b,U,cj,e,q',_⟩:=uw.mp h';cases e;exact(Qq I q q').elim
  |_=>simp only[Rep]at h';cases h'
 | .oG _ _,d',v,hd,h,h'=>by simp only[cR]at hd;exact absurd hd (ir _)
 | .lE _ _,d',v,hd,h,h'=>by simp only[cR]at hd;exact absurd hd (ir _)
theorem bN.inj(I:Inv X pins σ H s):∀{ds es:List D}{vs:List V},gB ds < be->bN X.K H ds vs->bN X.K H es vs->ds=es
 | [],es,vs,_,h,h'=>by
  rw[bx.mp h]at h';cases es with
  |nil=>rfl
  |cons e es=>obtain⟨v,vs',e1,_⟩:=aQ.mp h';cases e1
 |d::ds,es,vs,hd,h,h'=>by
  obtain⟨v,vs',rfl,r1,r2⟩:=aQ.mp h;simp only[gB]at hd;cases es with
  |nil=>have:=bx.mp h';cases this
  |cons e es =>
   obtain⟨v',vs'',e1,r1',r2'⟩:=aQ.mp h';cases e1;rw[Rep.inj I (jn (Nat.le_max_left _ _) hd) r1 r1',bN.inj I (jn (v8 _ _) hd) r2 r2']
end
theorem Dc(I:Inv X pins σ H s){m:Nat}{A:a_}{ds es:List D}{vs us:List V}{its its2:List aa}
  (ih:∀{d d':D}{v v':V}{u u':aa}{A:a_},cR d<=m->cR d'<=m->A.units + m < be->Rep X.K H d v->Rep X.K H d' v'->RelV v u->RelV v' u'->lL A s u u' (qC d d'))
  (hn:gB ds<=m) (hn':gB es<=m) (hu:A.in1.units + m < be) (r1:bN X.K H ds vs) (r2:bN X.K H es us) (a1:Vals vs its) (a2:Vals us its2) :
  ∀j (h1:j < its.toArray.size) (h2:j < its2.toArray.size),lL A.in1 s its.toArray[j] its2.toArray[j] (qC (ds.getD j .non) (es.getD j .non)):=by
 intro j h1 h2;have l1:j < ds.length:=by rw[r1.length,a1.length];simpa using h1
 have l2:j < es.length:=by rw[r2.length,a2.length];simpa using h2
 obtain⟨x,hx,rx⟩:=r1.get (i:=j) (d:=ds[j]) (by simp[l1]);obtain⟨y,hy,ry⟩:=r2.get (i:=j) (d:=es[j]) (by simp[l2]);obtain⟨p,hp,rp⟩:=a1.get hx;obtain⟨q,hq,rq⟩:=a2.get hy;have e1:its.toArray[j]=p:=by have:=(eB.mp hp).2;simpa using this
 have e2:its2.toArray[j]=q:=by have:=(eB.mp hq).2;simpa using this
 rw[e1,e2,fE,fE,eI l1,eI l2];exact ih (cz (wR (dm l1)) hn) (cz (wR (dm l2)) hn') hu rx ry rp rq
open SeqAt in
theorem adz(I:Inv X pins σ H s):∀(n:Nat) {d d':D}{v v':V}{u u':aa}{A:a_},cR d<=n->cR d'<=n->A.units + n < be->Rep X.K H d v->Rep X.K H d' v'->RelV v u->RelV v' u'->EqAt A s u u' (qC d d'):=by
 intro n
 induction n with
 |zero =>
  intro d d' v v' u u' A hd hd' hu r r' e e';have hu0:A.units < be:=by lia
  cases d with
  |non =>
   rw[bZ.mp r]at e;cases e;cases d' with
   |non =>
    rw[bZ.mp r']at e';cases e';exact EqAt.same _
   |bl b =>
    rw[bQ.mp r']at e';cases e';exact EqAt.none_bool b
   |int b =>
    rw[aR.mp r']at e';obtain⟨t',rfl⟩:=e';exact EqAt.none_int b t'
   |str b =>
    rw[cu.mp r']at e';obtain⟨t',rfl⟩:=e';exact EqAt.none_str b t'
   |tup es =>
    obtain⟨b,us,rfl,q',rr'⟩:=bD.mp r';cases e';obtain⟨its2,jq,t2,_⟩:=I.tuple q';exact EqAt.none_tuple t2 hu0
   |lst es =>
    obtain⟨b,us,rfl,q',rr'⟩:=aY.mp r';cases e';obtain⟨its2,jq,t3,_⟩:=I.list q';have t2:=t3.isList;exact EqAt.none_list t2 hu0
   |oG c m =>
    simp only[cR]at hd';exact absurd hu (by lia)
   |lE c m =>
    simp only[cR]at hd';exact absurd hu (by lia)
  |bl x =>
   rw[bQ.mp r]at e;cases e;cases d' with
   |non =>
    rw[bZ.mp r']at e';cases e';exact EqAt.bool_none x
   |bl b =>
    rw[bQ.mp r']at e';cases e';exact EqAt.bool_bool x b
   |int b =>
    rw[aR.mp r']at e';obtain⟨t',rfl⟩:=e';exact EqAt.bool_int x b t'
   |str b =>
    rw[cu.mp r']at e';obtain⟨t',rfl⟩:=e';exact EqAt.bool_str x b t'
   |tup es =>
    obtain⟨b,us,rfl,q',rr'⟩:=bD.mp r';cases e';obtain⟨its2,jq,t2,_⟩:=I.tuple q';exact EqAt.bool_tuple x t2 hu0
   |lst es =>
    obtain⟨b,us,rfl,q',rr'⟩:=aY.mp r';cases e';obtain⟨its2,jq,t3,_⟩:=I.list q';have t2:=t3.isList;exact EqAt.bool_list x t2 hu0
   |oG c m =>
    simp only[cR]at hd';exact absurd hu (by lia)
   |lE c m =>
    simp only[cR]at hd';exact absurd hu (by lia)
  |int x =>
   rw[aR.mp r]at e;obtain⟨t0,rfl⟩:=e;cases d' with
   |non =>
    rw[bZ.mp r']at e';cases e';exact EqAt.int_none x t0
   |bl b =>
    rw[bQ.mp r']at e';cases e';exact EqAt.int_bool x t0 b
   |int b =>
    rw[aR.mp r']at e';obtain⟨t',rfl⟩:=e';exact EqAt.int_int x t0 b t'
   |str b =>
    rw[cu.mp r']at e';obtain⟨t',rfl⟩:=e';exact EqAt.int_str x t0 b t'
   |tup es =>
    obtain⟨b,us,rfl,q',rr'⟩:=bD.mp r';cases e';obtain⟨its2,jq,t2,_⟩:=I.tuple q';exact EqAt.int_tuple x t0 t2 hu0
   |lst es =>
    obtain⟨b,us,rfl,q',rr'⟩:=aY.mp r';cases e';obtain⟨its2,jq,t3,_⟩:=I.list q';have t2:=t3.isList;exact EqAt.int_list x t0 t2 hu0
   |oG c m =>
    simp only[cR]at hd';exact absurd hu (by lia)
   |lE c m =>
    simp only[cR]at hd';exact absurd hu (by lia)
  |str x =>
   rw[cu.mp r]at e;obtain⟨t0,rfl⟩:=e;cases d' with
   |non =>
    rw[bZ.mp r']at e';cases e';exact EqAt.str_none x t0
   |bl b =>
    rw[bQ.mp r']at e';cases e';exact EqAt.str_bool x t0 b
   |int b =>
    rw[aR.mp r']at e';obtain⟨t',rfl⟩:=e';exact EqAt.str_int x t0 b t'
   |str b =>
    rw[cu.mp r']at e';obtain⟨t',rfl⟩:=e';exact EqAt.str_str x t0 b t'
   |tup es =>
    obtain⟨b,us,rfl,q',rr'⟩:=bD.mp r';cases e';obtain⟨its2,jq,t2,_⟩:=I.tuple q';exact EqAt.str_tuple x t0 t2 hu0
   |lst es =>
    obtain⟨b,us,rfl,q',rr'⟩:=aY.mp r';cases e';obtain⟨its2,jq,t3,_⟩:=I.list q';have t2:=t3.isList;exact EqAt.str_list x t0 t2 hu0
   |oG c m =>
    simp only[cR]at hd';exact absurd hu (by lia)
   |lE c m =>
    simp only[cR]at hd';exact absurd hu (by lia)
  |tup ds =>
   obtain⟨a,vs,rfl,q,rr⟩:=bD.mp r;cases e;obtain⟨its,av,t,_⟩:=I.tuple q;cases d' with
   |non =>
    rw[bZ.mp r']at e';cases e';exact EqAt.tuple_none t hu0
   |bl b =>
    rw[bQ.mp r']at e';cases e';exact EqAt.tuple_bool b t hu0
   |int b =>
    rw[aR.mp r']at e';obtain⟨t',rfl⟩:=e';exact EqAt.tuple_int b t' t hu0
   |str b =>
    rw[cu.mp r']at e';obtain⟨t',rfl⟩:=e';exact EqAt.tuple_str b t' t hu0
   |tup es =>
    obtain⟨b,us,rfl,q',rr'⟩:=bD.mp r';cases e';obtain⟨its2,jq,t2,_⟩:=I.tuple q';simp only[cR]at hd;lia
   |lst es =>
    obtain⟨b,us,rfl,q',rr'⟩:=aY.mp r';cases e';obtain⟨its2,jq,t3,_⟩:=I.list q';have t2:=t3.isList;exact EqAt.tuple_list t t2 hu0
   |oG c m =>
    simp only[cR]at hd';exact absurd hu (by lia)
   |lE c m =>
    simp only[cR]at hd';exact absurd hu (by lia)
  |lst ds =>
   obtain⟨a,vs,rfl,q,rr⟩:=aY.mp r;cases e;obtain⟨its,av,t1,_⟩:=I.list q;have t:=t1.isList;cases d' with
   |non =>
    rw[bZ.mp r']at e';cases e';exact EqAt.list_none t hu0
   |bl b =>
    rw[bQ.mp r']at e';cases e';exact EqAt.list_bool b t hu0
   |int b =>
    rw[aR.mp r']at e';obtain⟨t',rfl⟩:=e';exact EqAt.list_int b t' t hu0
   |str b =>
    rw[cu.mp r']at e';obtain⟨t',rfl⟩:=e';exact EqAt.list_str b t' t hu0
   |tup es =>
    obtain⟨b,us,rfl,q',rr'⟩:=bD.mp r';cases e';obtain⟨its2,jq,t2,_⟩:=I.tuple q';exact EqAt.list_tuple t t2 hu0
   |lst es =>
    obtain⟨b,us,rfl,q',rr'⟩:=aY.mp r';cases e';obtain⟨its2,jq,t3,_⟩:=I.list q';have t2:=t3.isList;simp only[cR]at hd;lia
   |oG c m =>
    simp only[cR]at hd';exact absurd hu (by lia)
   |lE c m =>
    simp only[cR]at hd';exact absurd hu (by lia)
  |oG c m =>
   simp only[cR]at hd;exact absurd hu (by lia)
  |lE c m =>
   simp only[cR]at hd;exact absurd hu (by lia)
 |succ m ih =>
  intro d d' v v' u u' A hd hd' hu r r' e e';have hu0:A.units < be:=by lia
  cases d with
  |non =>
   rw[bZ.mp r]at e;cases e;cases d' with
   |non =>
    rw[bZ.mp r']at e';cases e';exact EqAt.same _
   |bl b =>
    rw[bQ.mp r']at e';cases e';exact EqAt.none_bool b
   |int b =>
    rw[aR.mp r']at e';obtain⟨t',rfl⟩:=e';exact EqAt.none_int b t'
   |str b =>
    rw[cu.mp r']at e';obtain⟨t',rfl⟩:=e';exact EqAt.none_str b t'
   |tup es =>
    obtain⟨b,us,rfl,q',rr'⟩:=bD.mp r';cases e';obtain⟨its2,jq,t2,_⟩:=I.tuple q';exact EqAt.none_tuple t2 hu0
   |lst es =>
    obtain⟨b,us,rfl,q',rr'⟩:=aY.mp r';cases e';obtain⟨its2,jq,t3,_⟩:=I.list q';have t2:=t3.isList;exact EqAt.none_list t2 hu0
   |oG c m =>
    simp only[cR]at hd';exact absurd hu (by lia)
   |lE c m =>
    simp only[cR]at hd';exact absurd hu (by lia)
  |bl x =>
   rw[bQ.mp r]at e;cases e;cases d' with
   |non =>
    rw[bZ.mp r']at e';cases e';exact EqAt.bool_none x
   |bl b =>
    rw[bQ.mp r']at e';cases e';exact EqAt.bool_bool x b
   |int b =>
    rw[aR.mp r']at e';obtain⟨t',rfl⟩:=e';exact EqAt.bool_int x b t'
   |str b =>
    rw[cu.mp r']at e';obtain⟨t',rfl⟩:=e';exact EqAt.bool_str x b t'
   |tup es =>
    obtain⟨b,us,rfl,q',rr'⟩:=bD.mp r';cases e';obtain⟨its2,jq,t2,_⟩:=I.tuple q';exact EqAt.bool_tuple x t2 hu0
   |lst es =>
    obtain⟨b,us,rfl,q',rr'⟩:=aY.mp r';cases e';obtain⟨its2,jq,t3,_⟩:=I.list q';have t2:=t3.isList;exact EqAt.bool_list x t2 hu0
   |oG c m =>
    simp only[cR]at hd';exact absurd hu (by lia)
   |lE c m =>
    simp only[cR]at hd';exact absurd hu (by lia)
  |int x =>
   rw[aR.mp r]at e;obtain⟨t0,rfl⟩:=e;cases d' with
   |non =>
    rw[bZ.mp r']at e';cases e';exact EqAt.int_none x t0
   |bl b =>
    rw[bQ.mp r']at e';cases e';exact EqAt.int_bool x t0 b
   |int b =>
    rw[aR.mp r']at e';obtain⟨t',rfl⟩:=e';exact EqAt.int_int x t0 b t'
   |str b =>
    rw[cu.mp r']at e';obtain⟨t',rfl⟩:=e';exact EqAt.int_str x t0 b t'
   |tup es =>
    obtain⟨b,us,rfl,q',rr'⟩:=bD.mp r';cases e';obtain⟨its2,jq,t2,_⟩:=I.tuple q';exact EqAt.int_tuple x t0 t2 hu0
   |lst es =>
    obtain⟨b,us,rfl,q',rr'⟩:=aY.mp r';cases e';obtain⟨its2,jq,t3,_⟩:=I.list q';have t2:=t3.isList;exact EqAt.int_list x t0 t2 hu0
   |oG c m =>
    simp only[cR]at hd';exact absurd hu (by lia)
   |lE c m =>
    simp only[cR]at hd';exact absurd hu (by lia)
  |str x =>
   rw[cu.mp r]at e;obtain⟨t0,rfl⟩:=e;cases d' with
   |non =>
    rw[bZ.mp r']at e';cases e';exact EqAt.str_none x t0
   |bl b =>
    rw[bQ.mp r']at e';cases e';exact EqAt.str_bool x t0 b
   |int b =>
    rw[aR.mp r']at e';obtain⟨t',rfl⟩:=e';exact EqAt.str_int x t0 b t'
   |str b =>
    rw[cu.mp r']at e';obtain⟨t',rfl⟩:=e';exact EqAt.str_str x t0 b t'
   |tup es =>
    obtain⟨b,us,rfl,q',rr'⟩:=bD.mp r';cases e';obtain⟨its2,jq,t2,_⟩:=I.tuple q';exact EqAt.str_tuple x t0 t2 hu0
   |lst es =>
    obtain⟨b,us,rfl,q',rr'⟩:=aY.mp r';cases e';obtain⟨its2,jq,t3,_⟩:=I.list q';have t2:=t3.isList;exact EqAt.str_list x t0 t2 hu0
   |oG c m =>
    simp only[cR]at hd';exact absurd hu (by lia)
   |lE c m =>
    simp only[cR]at hd';exact absurd hu (by lia)
  |tup ds =>
   obtain⟨a,vs,rfl,q,rr⟩:=bD.mp r;cases e;obtain⟨its,av,t,_⟩:=I.tuple q;cases d' with
   |non =>
    rw[bZ.mp r']at e';cases e';exact EqAt.tuple_none t hu0
   |bl b =>
    rw[bQ.mp r']at e';cases e';exact EqAt.tuple_bool b t hu0
   |int b =>
    rw[aR.mp r']at e';obtain⟨t',rfl⟩:=e';exact EqAt.tuple_int b t' t hu0
   |str b =>
    rw[cu.mp r']at e';obtain⟨t',rfl⟩:=e';exact EqAt.tuple_str b t' t hu0
   |tup es =>
    obtain⟨b,us,rfl,q',rr'⟩:=bD.mp r';cases e';obtain⟨its2,jq,t2,_⟩:=I.tuple q';have hn:gB ds<=m:=by simp only[cR]at hd;lia
    have hn':gB es<=m:=by simp only[cR]at hd';lia
    by_cases hab:a=b
    ·subst hab;rw[Rep.inj I (by lia) r r',CZ];exact EqAt.same _
    have items:=Dc I ih hn hn' (show A.in1.units + m < be by show A.units + 1 + m < _;lia) rr rr' av jq;have h:=RcAt.tuples (A:=A) t t2 hu0 items;rw[cK,cK,<- av.length,<- jq.length,<- rr.length,<- rr'.length,fj]at h;exact EqAt.of_refs hab h
   |lst es =>
    obtain⟨b,us,rfl,q',rr'⟩:=aY.mp r';cases e';obtain⟨its2,jq,t3,_⟩:=I.list q';have t2:=t3.isList;exact EqAt.tuple_list t t2 hu0
   |oG c m =>
    simp only[cR]at hd';exact absurd hu (by lia)
   |lE c m =>
    simp only[cR]at hd';exact absurd hu (by lia)
  |lst ds =>
   obtain⟨a,vs,rfl,q,rr⟩:=aY.mp r;cases e;obtain⟨its,av,t1,_⟩:=I.list q;have t:=t1.isList;cases d' with
   |non =>
    rw[bZ.mp r']at e';cases e';exact EqAt.list_none t hu0
   |bl b =>
    rw[bQ.mp r']at e';cases e';exact EqAt.list_bool b t hu0
   |int b =>
    rw[aR.mp r']at e';obtain⟨t',rfl⟩:=e';exact EqAt.list_int b t' t hu0
   |str b =>
    rw[cu.mp r']at e';obtain⟨t',rfl⟩:=e';exact EqAt.list_str b t' t hu0
   |tup es =>
    obtain⟨b,us,rfl,q',rr'⟩:=bD.mp r';cases e';obtain⟨its2,jq,t2,_⟩:=I.tuple q';exact EqAt.list_tuple t t2 hu0
   |lst es =>
    obtain⟨b,us,rfl,q',rr'⟩:=aY.mp r';cases e';obtain⟨its2,jq,t3,_⟩:=I.list q';have t2:=t3.isList;have hn:gB ds<=m:=by simp only[cR]at hd;lia
    have hn':gB es<=m:=by simp only[cR]at hd';lia
    by_cases hab:a=b
    ·subst hab;rw[Rep.inj I (by lia) r r',CZ];exact EqAt.same _
    have items:=Dc I ih hn hn' (show A.in1.units + m < be by show A.units + 1 + m < _;lia) rr rr' av jq;by_cases hl:its.toArray.size=its2.toArray.size
    ·have h:=RcAt.lists (A:=A) t t2 hl hu0 items;rw[cK,<- av.length,<- rr.length]at h;have hl':ds.length=es.length:=by rw[rr.length,rr'.length,av.length,jq.length];simpa using hl
     have e1:=fj ds es;rw[hl',v_]at e1;simp only[beq_self_eq_true,qE]at e1;rw[hl',e1]at h;exact EqAt.of_refs hab h
    ·have h:=RcAt.lists_lengths (A:=A) t t2 (by simpa using hl) hu0;have hl':ds.length≠es.length:=by rw[rr.length,rr'.length,av.length,jq.length];simpa using hl
     have e1:=fj ds es;rw[show(ds.length == es.length)=false by simpa using hl',oC]at e1;rw[show qC (.lst ds) (.lst es)=false by rw[qC,<- e1]];exact EqAt.of_refs hab h
   |oG c m =>
    simp only[cR]at hd';exact absurd hu (by lia)
   |lE c m =>
    simp only[cR]at hd';exact absurd hu (by lia)
  |oG c m =>
   simp only[cR]at hd;exact absurd hu (by lia)
  |lE c m =>
   simp only[cR]at hd;exact absurd hu (by lia)
end
section
variable{X:Cx}{pins:List (ab×Obj)}{σ:St}{H:Hp}{s:af}
theorem wU(I:Inv X pins σ H s){m:Nat}{A:a_}{ds es:List D}{vs us:List V}{its its2:List aa}(hn:gB ds<=m)(hn':gB es<=m)(hu:A.in1.units + m < be)(r1:bN X.K H ds vs)(r2:bN X.K H es us)(a1:Vals vs its)(a2:Vals us its2) :
  ∀j (h1:j < its.toArray.size) (h2:j < its2.toArray.size),lL A.in1 s its.toArray[j] its2.toArray[j] (qC (ds.getD j .non) (es.getD j .non)) :=
 Dc I (fun a b c d e f g=>adz I m a b c d e f g) hn hn' hu r1 r2 a1 a2
open SeqAt in
theorem amw(I:Inv X pins σ H s){n:Nat}{d d':D}{v v':V}{u u':aa}{A:a_}(hd:cR d<=n)(hd':cR d'<=n)(hu:A.units + n < be)(r:Rep X.K H d v)(r':Rep X.K H d' v')(e:RelV v u)(e':RelV v' u'):RcAt A s u u' (qC d d'):=by
 have hu0:A.units < be:=by lia
 cases d with
 |non =>
  rw[bZ.mp r]at e;cases e;cases d' with
  |non =>
   rw[bZ.mp r']at e';cases e';exact RcAt.none_none
  |bl b =>
   rw[bQ.mp r']at e';cases e';exact RcAt.none_bool b
  |int b =>
   rw[aR.mp r']at e';obtain⟨t',rfl⟩:=e';exact RcAt.none_int b t'
  |str b =>
   rw[cu.mp r']at e';obtain⟨t',rfl⟩:=e';exact RcAt.none_str b t'
  |tup es =>
   obtain⟨b,us,rfl,q',rr'⟩:=bD.mp r';cases e';obtain⟨its2,jq,t2,_⟩:=I.tuple q';exact RcAt.none_tuple t2 hu0
  |lst es =>
   obtain⟨b,us,rfl,q',rr'⟩:=aY.mp r';cases e';obtain⟨its2,jq,t3,_⟩:=I.list q';have t2:=t3.isList;exact RcAt.none_list t2 hu0
  |oG c m =>
   simp only[cR]at hd';exact absurd hu (by lia)
  |lE c m =>
   simp only[cR]at hd';exact absurd hu (by lia)
 |bl x =>
  rw[bQ.mp r]at e;cases e;cases d' with
  |non =>
   rw[bZ.mp r']at e';cases e';exact RcAt.bool_none x
  |bl b =>
   rw[bQ.mp r']at e';cases e';exact RcAt.bool_bool x b
  |int b =>
   rw[aR.mp r']at e';obtain⟨t',rfl⟩:=e';exact RcAt.bool_int x b t'
  |str b =>
   rw[cu.mp r']at e';obtain⟨t',rfl⟩:=e';exact RcAt.bool_str x b t'
  |tup es =>
   obtain⟨b,us,rfl,q',rr'⟩:=bD.mp r';cases e';obtain⟨its2,jq,t2,_⟩:=I.tuple q';exact RcAt.bool_tuple x t2 hu0
  |lst es =>
   obtain⟨b,us,rfl,q',rr'⟩:=aY.mp r';cases e';obtain⟨its2,jq,t3,_⟩:=I.list q';have t2:=t3.isList;exact RcAt.bool_list x t2 hu0
  |oG c m =>
   simp only[cR]at hd';exact absurd hu (by lia)
  |lE c m =>
   simp only[cR]at hd';exact absurd hu (by lia)
 |int x =>
  rw[aR.mp r]at e;obtain⟨t0,rfl⟩:=e;cases d' with
  |non =>
   rw[bZ.mp r']at e';cases e';exact RcAt.int_none x t0
  |bl b =>
   rw[bQ.mp r']at e';cases e';exact RcAt.int_bool x t0 b
  |int b =>
   rw[aR.mp r']at e';obtain⟨t',rfl⟩:=e';exact RcAt.int_int x t0 b t'
  |str b =>
   rw[cu.mp r']at e';obtain⟨t',rfl⟩:=e';exact RcAt.int_str x t0 b t'
  |tup es =>
   obtain⟨b,us,rfl,q',rr'⟩:=bD.mp r';cases e';obtain⟨its2,jq,t2,_⟩:=I.tuple q';exact RcAt.int_tuple x t0 t2 hu0
  |lst es =>
   obtain⟨b,us,rfl,q',rr'⟩:=aY.mp r';cases e';obtain⟨its2,jq,t3,_⟩:=I.list q';have t2:=t3.isList;exact RcAt.int_list x t0 t2 hu0
  |oG c m =>
   simp only[cR]at hd';exact absurd hu (by lia)
  |lE c m =>
   simp only[cR]at hd';exact absurd hu (by lia)
 |str x =>
  rw[cu.mp r]at e;obtain⟨t0,rfl⟩:=e;cases d' with
  |non =>
   rw[bZ.mp r']at e';cases e';exact RcAt.str_none x t0
  |bl b =>
   rw[bQ.mp r']at e';cases e';exact RcAt.str_bool x t0 b
  |int b =>
   rw[aR.mp r']at e';obtain⟨t',rfl⟩:=e';exact RcAt.str_int x t0 b t'
  |str b =>
   rw[cu.mp r']at e';obtain⟨t',rfl⟩:=e';exact RcAt.str_str x t0 b t'
  |tup es =>
   obtain⟨b,us,rfl,q',rr'⟩:=bD.mp r';cases e';obtain⟨its2,jq,t2,_⟩:=I.tuple q';exact RcAt.str_tuple x t0 t2 hu0
  |lst es =>
   obtain⟨b,us,rfl,q',rr'⟩:=aY.mp r';cases e';obtain⟨its2,jq,t3,_⟩:=I.list q';have t2:=t3.isList;exact RcAt.str_list x t0 t2 hu0
  |oG c m =>
   simp only[cR]at hd';exact absurd hu (by lia)
  |lE c m =>
   simp only[cR]at hd';exact absurd hu (by lia)
 |tup ds =>
  obtain⟨a,vs,rfl,q,rr⟩:=bD.mp r;cases e;obtain⟨its,av,t,_⟩:=I.tuple q;cases d' with
  |non =>
   rw[bZ.mp r']at e';cases e';exact RcAt.tuple_none t hu0
  |bl b =>
   rw[bQ.mp r']at e';cases e';exact RcAt.tuple_bool b t hu0
  |int b =>
   rw[aR.mp r']at e';obtain⟨t',rfl⟩:=e';exact RcAt.tuple_int b t' t hu0
  |str b =>
   rw[cu.mp r']at e';obtain⟨t',rfl⟩:=e';exact RcAt.tuple_str b t' t hu0
  |tup es =>
   obtain⟨b,us,rfl,q',rr'⟩:=bD.mp r';cases e';obtain⟨its2,jq,t2,_⟩:=I.tuple q';obtain⟨m,rfl⟩:∃m,n=m + 1:=⟨n - 1,by simp only[cR]at hd;lia⟩
   have hn:gB ds<=m:=by simp only[cR]at hd;lia
   have hn':gB es<=m:=by simp only[cR]at hd';lia
   have items:=wU I hn hn' (show A.in1.units + m < be by show A.units + 1 + m < _;lia) rr rr' av jq;have h:=RcAt.tuples (A:=A) t t2 hu0 items;rw[cK,cK,<- av.length,<- jq.length,<- rr.length,<- rr'.length,fj]at h;exact h
  |lst es =>
   obtain⟨b,us,rfl,q',rr'⟩:=aY.mp r';cases e';obtain⟨its2,jq,t3,_⟩:=I.list q';have t2:=t3.isList;exact RcAt.tuple_list t t2 hu0
  |oG c m =>
   simp only[cR]at hd';exact absurd hu (by lia)
  |lE c m =>
   simp only[cR]at hd';exact absurd hu (by lia)
 |lst ds =>
  obtain⟨a,vs,rfl,q,rr⟩:=aY.mp r;cases e;obtain⟨its,av,t1,_⟩:=I.list q;have t:=t1.isList;cases d' with
  |non =>
   rw[bZ.mp r']at e';cases e';exact RcAt.list_none t hu0
  |bl b =>
   rw[bQ.mp r']at e';cases e';exact RcAt.list_bool b t hu0
  |int b =>
   rw[aR.mp r']at e';obtain⟨t',rfl⟩:=e';exact RcAt.list_int b t' t hu0
  |str b =>
   rw[cu.mp r']at e';obtain⟨t',rfl⟩:=e';exact RcAt.list_str b t' t hu0
  |tup es =>
   obtain⟨b,us,rfl,q',rr'⟩:=bD.mp r';cases e';obtain⟨its2,jq,t2,_⟩:=I.tuple q';exact RcAt.list_tuple t t2 hu0
  |lst es =>
   obtain⟨b,us,rfl,q',rr'⟩:=aY.mp r';cases e';obtain⟨its2,jq,t3,_⟩:=I.list q';have t2:=t3.isList;obtain⟨m,rfl⟩:∃m,n=m + 1:=⟨n - 1,by simp only[cR]at hd;lia⟩
   have hn:gB ds<=m:=by simp only[cR]at hd;lia
   have hn':gB es<=m:=by simp only[cR]at hd';lia
   have items:=wU I hn hn' (show A.in1.units + m < be by show A.units + 1 + m < _;lia) rr rr' av jq;by_cases hl:its.toArray.size=its2.toArray.size
   ·have h:=RcAt.lists (A:=A) t t2 hl hu0 items;rw[cK,<- av.length,<- rr.length]at h;have hl':ds.length=es.length:=by rw[rr.length,rr'.length,av.length,jq.length];simpa using hl
    have e1:=fj ds es;rw[hl',v_]at e1;simp only[beq_self_eq_true,qE]at e1;rw[hl',e1]at h;exact h
   ·have h:=RcAt.lists_lengths (A:=A) t t2 (by simpa using hl) hu0;have hl':ds.length≠es.length:=by rw[rr.length,rr'.length,av.length,jq.length];simpa using hl
    have e1:=fj ds es;rw[show(ds.length == es.length)=false by simpa using hl',oC]at e1;rw[show qC (.lst ds) (.lst es)=false by rw[qC,<- e1]];exact h
  |oG c m =>
   simp only[cR]at hd';exact absurd hu (by lia)
  |lE c m =>
   simp only[cR]at hd';exact absurd hu (by lia)
 |oG c m =>
  simp only[cR]at hd;exact absurd hu (by lia)
 |lE c m =>
  simp only[cR]at hd;exact absurd hu (by lia)
open SeqAt in
theorem adA(I:Inv X pins σ H s){n:Nat}{d d':D}{v v':V}{u u':aa}{A:a_}(hd:cR d<=n)(hd':cR d'<=n)(hu:A.units + n < be)(r:Rep X.K H d v)(r':Rep X.K H d' v')(e:RelV v u)(e':RelV v' u'):RcNeAt A s u u' (!qC d d'):=by
 have hu0:A.units < be:=by lia
 cases d with
 |non =>
  rw[bZ.mp r]at e;cases e;cases d' with
  |non =>
   rw[bZ.mp r']at e';cases e';exact RcNeAt.none_none
  |bl b =>
   rw[bQ.mp r']at e';cases e';exact RcNeAt.none_bool b
  |int b =>
   rw[aR.mp r']at e';obtain⟨t',rfl⟩:=e';exact RcNeAt.none_int b t'
  |str b =>
   rw[cu.mp r']at e';obtain⟨t',rfl⟩:=e';exact RcNeAt.none_str b t'
  |tup es =>
   obtain⟨b,us,rfl,q',rr'⟩:=bD.mp r';cases e';obtain⟨its2,jq,t2,_⟩:=I.tuple q';exact RcNeAt.none_tuple t2 hu0
  |lst es =>
   obtain⟨b,us,rfl,q',rr'⟩:=aY.mp r';cases e';obtain⟨its2,jq,t3,_⟩:=I.list q';have t2:=t3.isList;exact RcNeAt.none_list t2 hu0
  |oG c m =>
   simp only[cR]at hd';exact absurd hu (by lia)
  |lE c m =>
   simp only[cR]at hd';exact absurd hu (by lia)
 |bl x =>
  rw[bQ.mp r]at e;cases e;cases d' with
  |non =>
   rw[bZ.mp r']at e';cases e';exact RcNeAt.bool_none x
  |bl b =>
   rw[bQ.mp r']at e';cases e';exact RcNeAt.bool_bool x b
  |int b =>
   rw[aR.mp r']at e';obtain⟨t',rfl⟩:=e';exact RcNeAt.bool_int x b t'
  |str b =>
   rw[cu.mp r']at e';obtain⟨t',rfl⟩:=e';exact RcNeAt.bool_str x b t'
  |tup es =>
   obtain⟨b,us,rfl,q',rr'⟩:=bD.mp r';cases e';obtain⟨its2,jq,t2,_⟩:=I.tuple q';exact RcNeAt.bool_tuple x t2 hu0
  |lst es =>
   obtain⟨b,us,rfl,q',rr'⟩:=aY.mp r';cases e';obtain⟨its2,jq,t3,_⟩:=I.list q';have t2:=t3.isList;exact RcNeAt.bool_list x t2 hu0
  |oG c m =>
   simp only[cR]at hd';exact absurd hu (by lia)
  |lE c m =>
   simp only[cR]at hd';exact absurd hu (by lia)
 |int x =>
  rw[aR.mp r]at e;obtain⟨t0,rfl⟩:=e;cases d' with
  |non =>
   rw[bZ.mp r']at e';cases e';exact RcNeAt.int_none x t0
  |bl b =>
   rw[bQ.mp r']at e';cases e';exact RcNeAt.int_bool x t0 b
  |int b =>
   rw[aR.mp r']at e';obtain⟨t',rfl⟩:=e';exact RcNeAt.int_int x t0 b t'
  |str b =>
   rw[cu.mp r']at e';obtain⟨t',rfl⟩:=e';exact RcNeAt.int_str x t0 b t'
  |tup es =>
   obtain⟨b,us,rfl,q',rr'⟩:=bD.mp r';cases e';obtain⟨its2,jq,t2,_⟩:=I.tuple q';exact RcNeAt.int_tuple x t0 t2 hu0
  |lst es =>
   obtain⟨b,us,rfl,q',rr'⟩:=aY.mp r';cases e';obtain⟨its2,jq,t3,_⟩:=I.list q';have t2:=t3.isList;exact RcNeAt.int_list x t0 t2 hu0
  |oG c m =>
   simp only[cR]at hd';exact absurd hu (by lia)
  |lE c m =>
   simp only[cR]at hd';exact absurd hu (by lia)
 |str x =>
  rw[cu.mp r]at e;obtain⟨t0,rfl⟩:=e;cases d' with
  |non =>
   rw[bZ.mp r']at e';cases e';exact RcNeAt.str_none x t0
  |bl b =>
   rw[bQ.mp r']at e';cases e';exact RcNeAt.str_bool x t0 b
  |int b =>
   rw[aR.mp r']at e';obtain⟨t',rfl⟩:=e';exact RcNeAt.str_int x t0 b t'
  |str b =>
   rw[cu.mp r']at e';obtain⟨t',rfl⟩:=e';exact RcNeAt.str_str x t0 b t'
  |tup es =>
   obtain⟨b,us,rfl,q',rr'⟩:=bD.mp r';cases e';obtain⟨its2,jq,t2,_⟩:=I.tuple q';exact RcNeAt.str_tuple x t0 t2 hu0
  |lst es =>
   obtain⟨b,us,rfl,q',rr'⟩:=aY.mp r';cases e';obtain⟨its2,jq,t3,_⟩:=I.list q';have t2:=t3.isList;exact RcNeAt.str_list x t0 t2 hu0
  |oG c m =>
   simp only[cR]at hd';exact absurd hu (by lia)
  |lE c m =>
   simp only[cR]at hd';exact absurd hu (by lia)
 |tup ds =>
  obtain⟨a,vs,rfl,q,rr⟩:=bD.mp r;cases e;obtain⟨its,av,t,_⟩:=I.tuple q;cases d' with
  |non =>
   rw[bZ.mp r']at e';cases e';exact RcNeAt.tuple_none t hu0
  |bl b =>
   rw[bQ.mp r']at e';cases e';exact RcNeAt.tuple_bool b t hu0
  |int b =>
   rw[aR.mp r']at e';obtain⟨t',rfl⟩:=e';exact RcNeAt.tuple_int b t' t hu0
  |str b =>
   rw[cu.mp r']at e';obtain⟨t',rfl⟩:=e';exact RcNeAt.tuple_str b t' t hu0
  |tup es =>
   obtain⟨b,us,rfl,q',rr'⟩:=bD.mp r';cases e';obtain⟨its2,jq,t2,_⟩:=I.tuple q';obtain⟨m,rfl⟩:∃m,n=m + 1:=⟨n - 1,by simp only[cR]at hd;lia⟩
   have hn:gB ds<=m:=by simp only[cR]at hd;lia
   have hn':gB es<=m:=by simp only[cR]at hd';lia
   have items:=wU I hn hn' (show A.in1.units + m < be by show A.units + 1 + m < _;lia) rr rr' av jq;have h:=RcNeAt.tuples (A:=A) t t2 hu0 items;rw[cK,cK,<- av.length,<- jq.length,<- rr.length,<- rr'.length,fj]at h;exact h
  |lst es =>
   obtain⟨b,us,rfl,q',rr'⟩:=aY.mp r';cases e';obtain⟨its2,jq,t3,_⟩:=I.list q';have t2:=t3.isList;exact RcNeAt.tuple_list t t2 hu0
  |oG c m =>
   simp only[cR]at hd';exact absurd hu (by lia)
  |lE c m =>
   simp only[cR]at hd';exact absurd hu (by lia)
 |lst ds =>
  obtain⟨a,vs,rfl,q,rr⟩:=aY.mp r;cases e;obtain⟨its,av,t1,_⟩:=I.list q;have t:=t1.isList;cases d' with
  |non =>
   rw[bZ.mp r']at e';cases e';exact RcNeAt.list_none t hu0
  |bl b =>
   rw[bQ.mp r']at e';cases e';exact RcNeAt.list_bool b t hu0
  |int b =>
   rw[aR.mp r']at e';obtain⟨t',rfl⟩:=e';exact RcNeAt.list_int b t' t hu0
  |str b =>
   rw[cu.mp r']at e';obtain⟨t',rfl⟩:=e';exact RcNeAt.list_str b t' t hu0
  |tup es =>
   obtain⟨b,us,rfl,q',rr'⟩:=bD.mp r';cases e';obtain⟨its2,jq,t2,_⟩:=I.tuple q';exact RcNeAt.list_tuple t t2 hu0
  |lst es =>
   obtain⟨b,us,rfl,q',rr'⟩:=aY.mp r';cases e';obtain⟨its2,jq,t3,_⟩:=I.list q';have t2:=t3.isList;obtain⟨m,rfl⟩:∃m,n=m + 1:=⟨n - 1,by simp only[cR]at hd;lia⟩
   have hn:gB ds<=m:=by simp only[cR]at hd;lia
   have hn':gB es<=m:=by simp only[cR]at hd';lia
   have items:=wU I hn hn' (show A.in1.units + m < be by show A.units + 1 + m < _;lia) rr rr' av jq;by_cases hl:its.toArray.size=its2.toArray.size
   ·have h:=RcNeAt.lists (A:=A) t t2 hl hu0 items;rw[cK,<- av.length,<- rr.length]at h;have hl':ds.length=es.length:=by rw[rr.length,rr'.length,av.length,jq.length];simpa using hl
    have e1:=fj ds es;rw[hl',v_]at e1;simp only[beq_self_eq_true,qE]at e1;rw[hl',e1]at h;exact h
   ·have h:=RcNeAt.lists_lengths (A:=A) t t2 (by simpa using hl) hu0;have hl':ds.length≠es.length:=by rw[rr.length,rr'.length,av.length,jq.length];simpa using hl
    have e1:=fj ds es;rw[show(ds.length == es.length)=false by simpa using hl',oC]at e1;rw[show qC (.lst ds) (.lst es)=false by rw[qC,<- e1]];exact h
  |oG c m =>
   simp only[cR]at hd';exact absurd hu (by lia)
  |lE c m =>
   simp only[cR]at hd';exact absurd hu (by lia)
 |oG c m =>
  simp only[cR]at hd;exact absurd hu (by lia)
 |lE c m =>
  simp only[cR]at hd;exact absurd hu (by lia)
end
def uZ(W:Wi)(σ:St)(G H:Hp)(r:Rs Bool)(Q:Bool->Hp->Prop):Prop :=
 match r with
 | .ok b=>∀H' G',Ext G H G' H'->Q b H'
 | .ex c n=>∀H' G',Ext G H G' H'->W c n σ H'
 | .no=>False
def tT(K:aw)(B:Bs)(W:Wi)(f:aK->Rs Bool):TT:=fun σ H Q=>∃ρ G,SR K B σ H ρ G/\uZ W σ G H (f ρ) Q
def ST(X:Cx)(B:Bs)(W:Wi)(e:ai)(f:aK->Rs Bool):Prop:=PT X e (tT X.K B W f)
def SW(X:Cx)(B:Bs)(W:Wi)(e:ai)(f:aK->Rs Bool):Prop:=PW X e (tT X.K B W f)
def ald(K:aw)(W:Wi)(σ:St)(G H:Hp)(r:Rs (List D))(Q:List V->Hp->Prop):Prop :=
 match r with
 | .ok ds=>∀vs H' G',Ext G H G' H'->bN K G' ds vs->Q vs H'
 | .ex c n=>∀H' G',Ext G H G' H'->W c n σ H'
 | .no=>False
def tAF(K:aw)(B:Bs)(W:Wi)(f:aK->Rs (List D)):TA:=fun σ H Q=>∃ρ G,SR K B σ H ρ G/\ald K W σ G H (f ρ) Q
def SA(X:Cx)(B:Bs)(W:Wi)(es:List ai)(f:aK->Rs (List D)):Prop:=PA X es (tAF X.K B W f)
theorem PW.imp{X:Cx}{e:ai}{t t':TT}(h:PW X e t)(i:∀σ H Q,t' σ H Q->t σ H Q):PW X e t':=fun wh pins s σ H Q I q=>h wh pins s σ H Q I (i σ H Q q)
def toB:D->Rs Bool
 | .bl b=>.ok b
 |_=>.no
def fT(f:aK->Rs D):aK->Rs Bool:=fun ρ=>(f ρ).bind toB
def vH(a b:aK->Rs Bool):aK->Rs Bool:=fun ρ=>(a ρ).bind fun x=>if x=true then b ρ else .ok false
def fOr(a b:aK->Rs Bool):aK->Rs Bool:=fun ρ=>(a ρ).bind fun x=>if x=true then .ok true else b ρ
def amx(a:aK->Rs Bool):aK->Rs Bool:=fun ρ=>(a ρ).bind fun x=>.ok (!x)
def ao(a:aK->Rs D)(r:aK->Rs (List D)):aK->Rs (List D):=fun ρ=>(a ρ).bind fun x=>(r ρ).bind fun xs=>.ok (x::xs)
def aU:aK->Rs (List D):=fun _=>.ok []
def fA(a:aK->Rs (List D))(g:List D->Rs D):aK->Rs D:=fun ρ=>(a ρ).bind g
section
variable{X:Cx}{K:aw}{B:Bs}{W:Wi}{σ:St}{G H:Hp}{ρ:aK}
theorem uZ.ext{r:Rs Bool}{Q:Bool->Hp->Prop}{G' H':Hp}(e:Ext G H G' H')(h:uZ W σ G H r Q):uZ W σ G' H' r Q:=by
 cases r with
 |ok d=>exact fun Qn G'' e'=>h Qn G'' (e.trans e')
 |ex c n=>exact fun Qn G'' e'=>h Qn G'' (e.trans e')
 |no=>exact h
theorem ale{f:aK->Rs D}{Q:Bool->Hp->Prop}(h:tT K B W (fT f) σ H Q):tF K B W f σ H fun x H1=>∃c,x=.bl c/\Q c H1:=by
 obtain⟨ρ,G,s,p⟩:=h;refine⟨ρ,G,s,?_⟩;unfold fT at p;cases e:f ρ with
 |ok d =>
  rw[e]at p;cases d with
  |bl b=>exact fun v H' G' e r=>⟨b,bQ.mp r,p H' G' e⟩
  |_=>exact p.elim
 |ex c n=>rw[e]at p;exact p
 |no=>rw[e]at p;exact p
theorem vI{e:ai}{f:aK->Rs D}(h:SE X B W e f)(he:∀whole,isTrue e X.env whole=(do let v <- whole;l6 e.pos;ef [v] (truthy v)):=by intro _;rfl):ST X B W e (fT f) :=
 PT.imp (alR h he) fun _ _ _ h=>ale h
theorem qD{a b:ai}{op:kU}{pos:Pos}{r:R2}{g:D->D->Rs D}{fa fb:aK->Rs D}(ho:uU X (fx op) r)(hg:Wy X.K r g)(ha:SE X B W a fa)(hb:SE X B W b fb)(hm:iA op b=false) :
  ST X B W (.Compare a [op] [b] pos) (fT (bJ g fa fb)):=by
 refine PT.imp (aia ho ha hb hm) fun σ H Q h=>?_;exact CW hg (ale h)
theorem Wz{a b:ai}{op:kU}{pos:Pos}{r:R2}{g:D->D->Rs D}{fa fb:aK->Rs D}(ho:uU X (fx op) r)(hg:Wy X.K r g)(ha:SE X B W a fa)(hb:SE X B W b fb)(hm:iA op b=false) :
  SE X B W (.Compare a [op] [b] pos) (bJ g fa fb):=PE.imp (ahZ ho ha hb hm) fun _ _ _ h=>CW hg h
theorem Ce{a:ai}{pos:Pos}{fa:aK->Rs Bool}(ha:ST X B W a fa):SW X B W (.BoolOp .And [a] pos) fa:=ahR ha
theorem amy{a:ai}{pos:Pos}{fa:aK->Rs Bool}(ha:ST X B W a fa):SW X B W (.BoolOp .Or [a] pos) fa:=alS ha
theorem JZ{a b:ai}{rest:List ai}{pos:Pos}{fa fb:aK->Rs Bool}(ha:ST X B W a fa)(hb:SW X B W (.BoolOp .And (b::rest) pos) fb):SW X B W (.BoolOp .And (a::b::rest) pos) (vH fa fb):=by
 refine PW.imp (alT ha hb) fun σ H Q ⟨ρ,G,s,p⟩=>⟨ρ,G,s,?_⟩
 unfold vH at p;cases e:fa ρ with
 |ok x =>
  rw[e]at p;intro H' G' ee;cases x with
  |true=>rw[if_pos rfl];exact⟨ρ,G',s.ext ee,uZ.ext ee (show uZ W σ G H (fb ρ) Q from p)⟩
  |false=>rw[if_neg (by simp)];exact(show uZ W σ G H (.ok false) Q from p) H' G' ee
 |ex c n=>rw[e]at p;exact p
 |no=>rw[e]at p;exact p
theorem apq{a b:ai}{rest:List ai}{pos:Pos}{fa fb:aK->Rs Bool}(ha:ST X B W a fa)(hb:SW X B W (.BoolOp .Or (b::rest) pos) fb):SW X B W (.BoolOp .Or (a::b::rest) pos) (fOr fa fb):=by
 refine PW.imp (aoN ha hb) fun σ H Q ⟨ρ,G,s,p⟩=>⟨ρ,G,s,?_⟩
 unfold fOr at p;cases e:fa ρ with
 |ok x =>
  rw[e]at p;intro H' G' ee;cases x with
  |true=>rw[if_pos rfl];exact(show uZ W σ G H (.ok true) Q from p) H' G' ee
  |false=>rw[if_neg (by simp)];exact⟨ρ,G',s.ext ee,uZ.ext ee (show uZ W σ G H (fb ρ) Q from p)⟩
 |ex c n=>rw[e]at p;exact p
 |no=>rw[e]at p;exact p
theorem adC{e:ai}{f:aK->Rs Bool}(h:SW X B W e f):ST X B W e f:=PW.pt h
def adD(a b:aK->Rs D):aK->Rs D:=fun ρ=>(a ρ).bind fun x=>(toB x).bind fun c=>if c=true then b ρ else .ok (.bl false)
def Ka(a b:aK->Rs D):aK->Rs D:=fun ρ=>(a ρ).bind fun x=>(toB x).bind fun c=>if c=true then .ok (.bl true) else b ρ
def Qs(a:aK->Rs D):aK->Rs D:=fun ρ=>(a ρ).bind fun x=>(toB x).bind fun c=>.ok (.bl !c)
theorem amA{op}{a:ai}{pos:Pos}{fa:aK->Rs D}(ha:SE X B W a fa):SE X B W (.BoolOp op [a] pos) fa:=alU ha
theorem apr{a b:ai}{rest:List ai}{pos:Pos}{fa fb:aK->Rs D}(ha:SE X B W a fa)(hb:SE X B W (.BoolOp .Or (b::rest) pos) fb):SE X B W (.BoolOp .Or (a::b::rest) pos) (Ka fa fb):=by
 refine PE.imp (aoP ha hb) fun σ H Q h=>?_;obtain⟨ρ,G,s,p⟩:=wQ (k:=fun ρ x=>(toB x).bind fun c=>if c=true then .ok (.bl true) else fb ρ) h;refine⟨ρ,G,s,p.mono fun v H1 ⟨ρ1,G1,d,s1,r,q⟩=>?_⟩;cases d with
 |bl c =>
  refine⟨c,bQ.mp r,?_⟩;cases c with
  |true=>rw[if_pos rfl];exact Post.ok s1 q (bQ.mpr rfl)
  |false=>rw[if_neg (by simp)];exact⟨ρ1,G1,s1,q⟩
 |_=>exact q.elim
theorem amB{a:ai}{pos:Pos}{fa:aK->Rs D}(ha:SE X B W a fa):SE X B W (.UnaryOp .Not a pos) (Qs fa):=by
 refine PE.imp (alV ha) fun σ H Q h=>?_;obtain⟨ρ,G,s,p⟩:=wQ (k:=fun ρ x=>(toB x).bind fun c=>.ok (.bl !c)) h;refine⟨ρ,G,s,p.mono fun v H1 ⟨ρ1,G1,d,s1,r,q⟩=>?_⟩;cases d with
 |bl c=>exact⟨c,bQ.mp r,Post.ok s1 q (bQ.mpr rfl)⟩
 |_=>exact q.elim
theorem aJ:SA X B W [] aU:=PA.imp jX fun σ H Q ⟨ρ,G,s,p⟩=>p [] H G s.vD (bx.mpr rfl)
theorem ak{e:ai}{es:List ai}{fe:aK->Rs D}{fs:aK->Rs (List D)}(ha:SE X B W e fe)(hr:SA X B W es fs)(hs:bo (e::es) X.env=(false,ba e X.env)::bo es X.env:=by rfl):SA X B W (e::es) (ao fe fs):=by
 refine PA.imp (iC ha hr hs) fun σ H Q ⟨ρ,G,s,p⟩=>⟨ρ,G,s,?_⟩
 unfold ao at p;cases e1:fe ρ with
 |ok d =>
  rw[e1]at p;intro v H1 G1 x1 r1;refine⟨ρ,G1,s.ext x1,?_⟩;have p':ald X.K W σ G H ((fs ρ).bind fun xs=>.ok (d::xs)) Q:=p;cases e2:fs ρ with
  |ok ds =>
   rw[e2]at p';intro vs H2 G2 x2 r2;exact p' (v::vs) H2 G2 (x1.trans x2) (aQ.mpr ⟨v,vs,rfl,r1.mono x2.gg,r2⟩)
  |ex c n=>rw[e2]at p';exact fun H2 G2 x2=>p' H2 G2 (x1.trans x2)
  |no=>rw[e2]at p';exact p'
 |ex c n=>rw[e1]at p;exact p
 |no=>rw[e1]at p;exact p
def pQ(K:aw)(r:List V->Hp->VK->Prop)(g:List D->Rs D):Prop :=
 ∀(B:Bs) (W:Wi) (σ:St) (ρ:aK) (G H:Hp) (ds:List D) (vs:List V) (Q:VK),SR K B σ H ρ G->bN K G ds vs->Post K W σ G H (g ds) Q->r vs H Q
theorem ZL{t:aK->Rs (List D)}{g:List D->Rs D}{r:List V->Hp->VK->Prop}{Q:VK}(hg:pQ K r g)(h:tF K B W (fA t g) σ H Q):tAF K B W t σ H fun vs H1=>r vs H1 Q:=by
 obtain⟨ρ,G,s,p⟩:=h;refine⟨ρ,G,s,?_⟩;unfold fA at p;cases e:t ρ with
 |ok ds=>rw[e]at p;exact fun vs H1 G1 x r=>hg B W σ ρ G1 H1 ds vs Q (s.ext x) r (Post.ext x p)
 |ex c n=>rw[e]at p;exact p
 |no=>rw[e]at p;exact p
def dF:List D->Rs D:=fun ds=>if ds.length<=1000 then .ok (.tup ds) else .no
def vJ:List D->Rs D:=fun ds=>if ds.length<=1000 then .ok (.lst ds) else .no
theorem WD{n:Nat}(h:n<=1000):n<=sizeLine:=gL (abj h)
theorem cA{es:List ai}{x1}{pos:Pos}{f:aK->Rs (List D)}(h:SA X B W es f):SE X B W (.Tuple es x1 pos) (fA f dF):=by
 refine PE.imp (aml h) fun σ H Q q=>ZL (r:=fun xs H1 Q=>xs.length<=sizeLine/\∀p,H1 p=none->Q (.ref p) (upd H1 p (.tup xs))) ?_ q;intro B W σ ρ G H ds vs Q s r p;unfold dF at p;by_cases hl:ds.length<=1000
 ·rw[if_pos hl]at p;refine⟨by rw[<- r.length];exact WD hl,fun a ha=>?_⟩;have x:=JV (xs:=vs) s.en.gh s.en.tp ha;exact p _ _ _ x (bD.mpr ⟨a,vs,rfl,.of bF,r.mono x.gg⟩)
 ·rw[if_neg hl]at p;exact p.elim
theorem vK{es:List ai}{pos:Pos}{f:aK->Rs (List D)}(h:SA X B W es f):SE X B W (.List es pos) (fA f vJ):=by
 refine PE.imp (adl h) fun σ H Q q=>ZL (r:=fun xs H1 Q=>xs.length<=sizeLine/\∀p,H1 p=none->Q (.ref p) (upd H1 p (.lst xs))) ?_ q;intro B W σ ρ G H ds vs Q s r p;unfold vJ at p;by_cases hl:ds.length<=1000
 ·rw[if_pos hl]at p;refine⟨by rw[<- r.length];exact WD hl,fun a ha=>?_⟩;have x:=jF (xs:=vs) s.en.gh s.en.tp ha;exact p _ _ _ x (aY.mpr ⟨a,vs,rfl,.of bF,r.mono x.gg⟩)
 ·rw[if_neg hl]at p;exact p.elim
def fO:D->D->Rs D
 | .tup ds,.int i=>match CV ds i with|some d=>.ok d|none=>.no
 | .lst ds,.int i=>match CV ds i with|some d=>.ok d|none=>.no
 |_,_=>.no
theorem Qt{ds:List D}{vs:List V}{i:Int}{d:D}(r:bN K G ds vs)(h:CV ds i=some d):∃v,CV vs i=some v/\Rep K G d v:=by
 unfold CV at h ⊢;rw[<- r.length];cases e:JK ds.length i with
 |none=>rw[e]at h;cases h
 |some j=>rw[e]at h;exact r.get (i:=j) h
theorem amC:Wy K (rIx K) fO:=by
 intro B W σ ρ G H x y v u Q s rx ry p;cases y <;> first|(cases x <;> exact p.elim)|skip
 rename_i i;cases x with
 |tup ds =>
  simp only[fO]at p;obtain⟨a,vs,rfl,q,rr⟩:=bD.mp rx;cases e:CV ds i with
  |none=>rw[e]at p;exact p.elim
  |some d =>
   rw[e]at p;obtain⟨w,e2,rw'⟩:=Qt rr e;exact .inr (.inl ⟨a,vs,i,w,rfl,aR.mp ry,Same.fW s.en.gh q,e2,Post.ok s p rw'⟩)
 |lst ds =>
  simp only[fO]at p;obtain⟨a,vs,rfl,q,rr⟩:=aY.mp rx;cases e:CV ds i with
  |none=>rw[e]at p;exact p.elim
  |some d =>
   rw[e]at p;obtain⟨w,e2,rw'⟩:=Qt rr e;exact .inl ⟨a,vs,i,w,rfl,aR.mp ry,s.en.gh.seq q,e2,Post.ok s p rw'⟩
 |_=>exact p.elim
theorem cg{a b:ai}{pos:Pos}{fa fb:aK->Rs D}(ha:SE X B W a fa)(hb:SE X B W b fb)(hs:JN b:=by intro _ _;rfl):SE X B W (.Subscript a b pos) (bJ fO fa fb) :=
 PE.imp (alb amo ha hb hs) fun _ _ _ h=>CW amC h
instance (i j:Int):Decidable (Wu i j):=by unfold Wu;exact inferInstance
instance (i j:Int):Decidable (adf i j):=by unfold adf;exact inferInstance
def CDB(i j:Int):Prop:=0 < j/\j < 2 ^ 200
instance (i j:Int):Decidable (CDB i j):=by unfold CDB;exact inferInstance
theorem CDB.py{i j:Int}(h:CDB i j):cy.divisionGoesByPylong i j=false:=by
 refine PyProof.noPylong_of_log2 ?_;have h1:j.natAbs < 2 ^ 200:=by have:=h.1;have:=h.2;lia
 have h2:j.natAbs.log2 < 200:=(Nat.log2_lt (by have:=h.1;lia)).mpr h1;lia
theorem adE:uU X (hW .FloorDiv) (rI CDB fun i j=>.int (i / j)):=opI fun i j _ _ _ _ _ hc q=>by have h1:=hc.1;rw[<- Int.fdiv_eq_ediv_of_nonneg i (by lia)]at q;exact PyProof.Rows.floordiv_int (by lia) q (.inl hc.py)
def jf:=gI0 fun i j=>D.int (i - j)
def iD:=gI Wu fun i j=>D.int (i * j)
def Dd:=gI CDB fun i j=>D.int (i / j)
instance (i j:Int):Decidable ((fun(_:Int) (j:Int)=>0 < j) i j):=inferInstanceAs (Decidable (0 < j))
def rP:=gI (fun _ j=>0 < j) fun i j=>D.int (i % j)
def mj:=gI adf fun i j=>D.int (i ^ j.toNat)
variable{a b:ai}{pos:Pos}{fa fb:aK->Rs D}
theorem fQ(ha:SE X B W a fa)(hb:SE X B W b fb):SE X B W (.BinOp a .Sub b pos) (bJ jf fa fb):=Ig ame (JX fun _ _ _=>aR.mpr rfl) ha hb
theorem jG(ha:SE X B W a fa)(hb:SE X B W b fb):SE X B W (.BinOp a .Mult b pos) (bJ iD fa fb):=Ig amf (ZK fun _ _ _=>aR.mpr rfl) ha hb
theorem Kc(ha:SE X B W a fa)(hb:SE X B W b fb):SE X B W (.BinOp a .FloorDiv b pos) (bJ Dd fa fb):=Ig adE (ZK fun _ _ _=>aR.mpr rfl) ha hb
theorem vL(ha:SE X B W a fa)(hb:SE X B W b fb):SE X B W (.BinOp a .Mod b pos) (bJ rP fa fb):=Ig amg (ZK fun _ _ _=>aR.mpr rfl) ha hb
theorem iQ(ha:SE X B W a fa)(hb:SE X B W b fb):SE X B W (.BinOp a .Pow b pos) (bJ mj fa fb):=Ig amh (ZK fun _ _ _=>aR.mpr rfl) ha hb
def ail:D->Rs D
 | .int i=>.ok (.int (-i))
 |_=>.no
theorem amD(ha:SE X B W a fa):SE X B W (.UnaryOp .USub a pos) (fun ρ=>(fa ρ).bind ail):=by
 refine PE.imp (apb ami ha) fun σ H Q h=>?_;obtain⟨ρ,G,s,p⟩:=wQ (k:=fun _=>ail) h;refine⟨ρ,G,s,p.mono fun v H1 ⟨ρ1,G1,d,s1,r,q⟩=>?_⟩;cases d with
 |int i=>exact⟨i,aR.mp r,Post.ok s1 q (aR.mpr rfl)⟩
 |_=>exact q.elim
def dU:D->D->Rs D
 | .int i,.int j=>.ok (.int (i + j))
 | .lst a,.lst b=>if a.length + b.length<=1000000 then .ok (.lst (a++b)) else .no
 |_,_=>.no
theorem sz6{n:Nat}(h:n<=1000000):n<=sizeLine:=cz h (by rw[d8];decide)
end
section
variable{X:Cx}{K:aw}{B:Bs}{W:Wi}{σ:St}{G H:Hp}{ρ:aK}{a b:ai}{pos:Pos}{fa fb:aK->Rs D}
def adF(K:aw):R2:=fun x y H Q=>∃l b xs zs,x=.ref l/\y=.ref b/\pO K H l xs/\pO K H b zs/\xs.length + zs.length<=sizeLine/\∀p,H p=none->Q (.ref p) (upd H p (.lst (xs++zs)))
open PyProof.Rows in
theorem ain:uU X (hW .Add) (adF X.K):=by
 intro pins s σ H x y v u Q I rx ry h;obtain⟨l,b,xs,zs,rfl,rfl,hH,hB,hz,q⟩:=h;cases rx;cases ry;obtain⟨vs,r,pl,_⟩:=I.list hH;obtain⟨ws,r2,pl2,_⟩:=I.list hB;obtain⟨⟨cls,dd,data,sl⟩,ho,hc,n,hd⟩:=pl.isList;obtain⟨⟨cls2,dd2,data2,sl2⟩,ho2,hc2,n2,hd2⟩:=pl2.isList;simp only at hc hd hc2 hd2;subst hc hd hc2 hd2;have e:vs.toArray++ws.toArray=(vs++ws).toArray:=by simp
 have l1:=r.length;have l2:=r2.length;refine concat_meets ⟨_,ho,rfl⟩ ⟨_,ho2,rfl⟩ noFill_list_add seq_list_add PySem.F.slot_list_add PySem.F.entry_list_add (PySem.F.args_list_add_2 _ _) (list_addW l b vs.toArray ws.toArray n n2 dd dd2 sl sl2 (by simp only[cK];lia)) ⟨ho,ho2,?_⟩;rw[e];exact⟨.ref _,_,I.apo (t':=s.toks) (r.append r2) (by rw[eR];lia),rfl,q _ I.fresh⟩
theorem aio:uU X (hW .Add) (fun x y H Q=>rI0 (fun i j=>V.int (i + j)) x y H Q∨adF X.K x y H Q):=amd.or ain
theorem adG:Wy K (fun x y H Q=>rI0 (fun i j=>V.int (i + j)) x y H Q∨adF K x y H Q) dU:=by
 intro B W σ ρ G H x y v u Q s rx ry p;cases x with
 |int i =>
  cases y with
  |int j=>exact .inl ⟨i,j,aR.mp rx,aR.mp ry,Post.ok s p (aR.mpr rfl)⟩
  |_=>exact p.elim
 |lst ds =>
  cases y with
  |lst es =>
   simp only[dU]at p;by_cases hl:ds.length + es.length<=1000000
   ·rw[if_pos hl]at p;obtain⟨a,vs,rfl,q,r⟩:=aY.mp rx;obtain⟨b,us,rfl,q',r'⟩:=aY.mp ry;refine .inr ⟨a,b,vs,us,rfl,rfl,s.en.gh.seq q,s.en.gh.seq q',by rw[<- r.length,<- r'.length];exact sz6 hl,fun c hc=>?_⟩;have x:=jF (xs:=vs++us) s.en.gh s.en.tp hc;exact p _ _ _ x (aY.mpr ⟨c,vs++us,rfl,.of bF,(r.append r').mono x.gg⟩)
   ·rw[if_neg hl]at p;exact p.elim
  |_=>exact p.elim
 |_=>cases y <;> exact p.elim
theorem eE(ha:SE X B W a fa)(hb:SE X B W b fb):SE X B W (.BinOp a .Add b pos) (bJ dU fa fb):=Ig aio adG ha hb
def toI:D->Rs Int
 | .int i=>.ok i
 |_=>.no
def Kd(xs:List D)(lo hi:Option Int):List D:=(xs.drop (HT.Qe xs.length 0 lo)).take (HT.Qe xs.length xs.length hi - HT.Qe xs.length 0 lo)
theorem adH{ds:List D}{vs:List V}{lo hi:Option Int}(r:bN K G ds vs):bN K G (Kd ds lo hi) (Ww vs lo hi):=by unfold Kd Ww;rw[r.length];exact(r.drop _).take _
def gSl(lo hi:Option Int):D->Rs D
 | .lst ds=>.ok (.lst (Kd ds lo hi))
 |_=>.no
def aps(W:Wi)(σ:St)(G H:Hp)(r:Rs (Option Int))(Q:Option Int->Hp->Prop):Prop :=
 match r with
 | .ok b=>∀H' G',Ext G H G' H'->Q b H'
 | .ex c n=>∀H' G',Ext G H G' H'->W c n σ H'
 | .no=>False
def tO(K:aw)(B:Bs)(W:Wi)(f:aK->Rs (Option Int)):TO:=fun σ H Q=>∃ρ G,SR K B σ H ρ G/\aps W σ G H (f ρ) Q
def SO(X:Cx)(B:Bs)(W:Wi)(e:Option ai)(f:aK->Rs (Option Int)):Prop:=PO X e (tO X.K B W f)
def amE:aK->Rs (Option Int):=fun _=>.ok none
def fP(f:aK->Rs D):aK->Rs (Option Int):=fun ρ=>(f ρ).bind fun d=>(toI d).bind fun i=>.ok (some i)
theorem PO.imp{e:Option ai}{t t':TO}(h:PO X e t)(i:∀σ H Q,t' σ H Q->t σ H Q):PO X e t':=fun pins s σ H Q I q=>h pins s σ H Q I (i σ H Q q)
theorem ZM{e:ai}{f:aK->Rs D}(h:SE X B W e f):SO X B W (some e) (fP f):=by
 refine PO.imp (aic h) fun σ H Q ⟨ρ,G,s,p⟩=>⟨ρ,G,s,?_⟩
 unfold fP at p;cases e1:f ρ with
 |ok d =>
  rw[e1]at p;cases d with
  |int i=>exact fun w H' G' e r'=>⟨i,aR.mp r',p H' G' e⟩
  |_=>exact p.elim
 |ex c n=>rw[e1]at p;exact p
 |no=>rw[e1]at p;exact p
def fSl(fe:aK->Rs D)(fl fh:aK->Rs (Option Int)):aK->Rs D:=fun ρ=>(fe ρ).bind fun x=>(fl ρ).bind fun l=>(fh ρ).bind fun h=>gSl l h x
theorem amF{x:D}{v:V}{l h:Option Int}{Q:VK}(s:SR K B σ H ρ G)(r:Rep K G x v)(p:Post K W σ G H (gSl l h x) Q):apn K v l h H Q:=by
 cases x with
 |lst ds =>
  obtain⟨a,vs,rfl,q,rr⟩:=aY.mp r;refine⟨a,vs,rfl,s.en.gh.seq q,fun c hc=>?_⟩;have x:=jF (xs:=Ww vs l h) s.en.gh s.en.tp hc;exact p _ _ _ x (aY.mpr ⟨c,_,rfl,.of bF,(adH rr).mono x.gg⟩)
 |_=>exact p.elim
theorem adI{e:ai}{lo hi:Option ai}{p2:Pos}{fe:aK->Rs D}{fl fh:aK->Rs (Option Int)}(he:SE X B W e fe)(hl:SO X B W lo fl)(hh:SO X B W hi fh) :
  SE X B W (.Subscript e (.Slice lo hi none p2) pos) (fSl fe fl fh):=by
 refine PE.imp (adn aii he hl hh) fun σ H Q h=>?_;obtain⟨ρ,G,s,p⟩:=wQ (k:=fun ρ x=>(fl ρ).bind fun l=>(fh ρ).bind fun h=>gSl l h x) h;refine⟨ρ,G,s,p.mono fun v H1 ⟨ρ1,G1,d,s1,r,q⟩=>⟨ρ1,G1,s1,?_⟩⟩;cases e1:fl ρ1 with
 |ok l =>
  rw[e1]at q;intro H2 G2 x2;have q':Post X.K W σ G1 H1 ((fh ρ1).bind fun h=>gSl l h d) Q:=q;refine⟨ρ1,G2,s1.ext x2,?_⟩;cases e2:fh ρ1 with
  |ok h =>
   rw[e2]at q';exact fun H3 G3 x3=>amF ((s1.ext x2).ext x3) ((r.mono x2.gg).mono x3.gg) (Post.ext (x2.trans x3) q')
  |ex c n=>rw[e2]at q';exact fun H3 G3 x3=>q' H3 G3 (x2.trans x3)
  |no=>rw[e2]at q';exact q'
 |ex c n=>rw[e1]at q;exact q
 |no=>rw[e1]at q;exact q
variable{x:Str}{p:Pos}{e:ai}{es:List ai}{id T:String}{r:List V->Hp->VK->Prop}{g:List D->Rs D}{fs:aK->Rs (List D)}
theorem lM(hc:gw X (.builtin id) r) (hd:pQ X.K r g) (hg:Gl X x) (hm:X.mg x=none) (hv:kR x=some (.builtin id)) (ha:SA X B W (e::es) fs) (hn:x≠"__name__":=by decide) (hdb:(x == ("__debug__":Str))=false:=by decide)
  (he:bo (e::es) X.env=(false,ba e X.env)::bo es X.env:=by rfl) (hpl:(d6 pos (bo es X.env)).any (·.1)=false:=by rfl):SE X B W (.Call (.Name x p) (e::es) [] pos) (fA fs g) :=
 PE.imp (wN hc hg hm hv ha hn hdb he hpl) fun _ _ _ h=>ZL hd h
theorem Ih(hc:gw X (.type T) r) (hd:pQ X.K r g) (hg:Gl X x) (hm:X.mg x=none) (hv:kR x=some (.type T)) (ha:SA X B W (e::es) fs) (hn:x≠"__name__":=by decide) (hdb:(x == ("__debug__":Str))=false:=by decide)
  (he:bo (e::es) X.env=(false,ba e X.env)::bo es X.env:=by rfl) (hpl:(d6 pos (bo es X.env)).any (·.1)=false:=by rfl):SE X B W (.Call (.Name x p) (e::es) [] pos) (fA fs g) :=
 PE.imp (uo hc hg hm hv ha hn hdb he hpl) fun _ _ _ h=>ZL hd h
def Bk:List D->Rs D
 | [.lst ds]=>.ok (.int ds.length)
 | [.tup ds]=>.ok (.int ds.length)
 |_=>.no
theorem amG:pQ K (fun xs H Q=>∃p ys,xs=[.ref p]/\(pO K H p ys∨ni K H p ys)/\Q (.int ys.length) H) Bk:=by
 intro B W σ ρ G H ds vs Q s r p
 match ds,p with
 | [.lst ds],p =>
  obtain⟨v,vs',rfl,r1,r2⟩:=aQ.mp r;obtain⟨a,us,rfl,q,rr⟩:=aY.mp r1;rw[bx.mp r2];refine⟨a,us,rfl,.inl (s.en.gh.seq q),Post.ok s p ?_⟩;rw[<- rr.length];exact aR.mpr rfl
 | [.tup ds],p =>
  obtain⟨v,vs',rfl,r1,r2⟩:=aQ.mp r;obtain⟨a,us,rfl,q,rr⟩:=bD.mp r1;rw[bx.mp r2];refine⟨a,us,rfl,.inr (Same.fW s.en.gh q),Post.ok s p ?_⟩;rw[<- rr.length];exact aR.mpr rfl
 | [],p=>exact p.elim
 | [.non],p=>exact p.elim
 | [.bl _],p=>exact p.elim
 | [.int _],p=>exact p.elim
 | [.str _],p=>exact p.elim
 | [.oG _ _],p=>exact p.elim
 | [.lE _ _],p=>exact p.elim
 |_::_::_,p=>exact(by simp only[Bk]at p;exact p.elim)
theorem Df(hm:X.mg "len"=none) (ha:SE X B W e fa) (hg:Gl X "len":=by rfl) (he:bo [e] X.env=[(false,ba e X.env)]:=by rfl):SE X B W (.Call (.Name "len" p) [e] [] pos) (fA (ao fa aU) Bk) :=
 lM JR amG hg hm PySem.boot_len (ak ha aJ he)  (by decide) (by decide) he rfl
def jY:List D->Rs D
 | [.lst ds]=>.ok (.tup ds)
 | [.tup ds]=>.ok (.tup ds)
 |_=>.no
theorem adJ:pQ K (fun xs H Q=>∃p ys,xs=[.ref p]/\((pO K H p ys/\∀l,H l=none->Q (.ref l) (upd H l (.tup ys)))∨(ni K H p ys/\Q (.ref p) H))) jY:=by
 intro B W σ ρ G H ds vs Q s r p
 match ds,p with
 | [.lst ds],p =>
  obtain⟨v,vs',rfl,r1,r2⟩:=aQ.mp r;obtain⟨a,us,rfl,q,rr⟩:=aY.mp r1;rw[bx.mp r2];refine⟨a,us,rfl,.inl ⟨s.en.gh.seq q,fun c hc=>?_⟩⟩;have x:=JV (xs:=us) s.en.gh s.en.tp hc;exact p _ _ _ x (bD.mpr ⟨c,us,rfl,.of bF,rr.mono x.gg⟩)
 | [.tup ds],p =>
  obtain⟨v,vs',rfl,r1,r2⟩:=aQ.mp r;obtain⟨a,us,rfl,q,rr⟩:=bD.mp r1;rw[bx.mp r2];exact⟨a,us,rfl,.inr ⟨Same.fW s.en.gh q,Post.ok s p r1⟩⟩
 | [],p=>exact p.elim
 | [.non],p=>exact p.elim
 | [.bl _],p=>exact p.elim
 | [.int _],p=>exact p.elim
 | [.str _],p=>exact p.elim
 | [.oG _ _],p=>exact p.elim
 | [.lE _ _],p=>exact p.elim
 |_::_::_,p=>exact(by simp only[jY]at p;exact p.elim)
open PyProof.Rows in
theorem Ke:gw X (.builtin "divmod") (fun xs H Q=>∃i j,xs=[.int i,.int j]/\CDB i j/\∀p,H p=none->Q (.ref p) (upd H p (.tup [.int (i / j),.int (i % j)]))):=by intro pins s σ H xs us Q I r h;obtain⟨i,j,rfl,hc,q⟩:=h;have h1:=hc.1;obtain⟨u,w',rfl,⟨t,rfl⟩,⟨t',rfl⟩⟩:=adh r;refine divmod_int (by lia) ?_ (.inl hc.py);rw[Int.fdiv_eq_ediv_of_nonneg i (by lia),Int.fmod_eq_emod_of_nonneg i (by lia)];have hn:H s.heap.objs.size=none:=I.hok.fresh (br _);refine⟨.ref s.heap.objs.size,_,?_,rfl,q _ hn⟩;refine I.laid (fun b o e=>bX _ e) (br _) ⟨by simp only[cx,fv];rw[d8];decide,[.int (i / j) s.toks,.int (i % j) (s.toks + 1)],.cons ⟨_,rfl⟩ (.cons ⟨_,rfl⟩ .nil),?_⟩;exact⟨_,dc s.heap rfl,rfl,0,rfl⟩
def Bl:List D->Rs D
 | [.int i,.int j]=>if CDB i j then .ok (.tup [.int (i / j),.int (i % j)]) else .no
 |_=>.no
theorem apt:pQ K (fun xs H Q=>∃i j,xs=[.int i,.int j]/\CDB i j/\∀p,H p=none->Q (.ref p) (upd H p (.tup [.int (i / j),.int (i % j)]))) Bl:=by
 intro B W σ ρ G H ds vs Q s r p;unfold Bl at p;split at p
 ·rename_i i j;obtain⟨v,vs',rfl,r1,r2⟩:=aQ.mp r;obtain⟨v2,vs'',rfl,r3,r4⟩:=aQ.mp r2;rw[aR.mp r1,aR.mp r3,bx.mp r4];by_cases hc:CDB i j
  ·rw[if_pos hc]at p;refine⟨i,j,rfl,hc,fun c hc=>?_⟩;have x:=JV (xs:=[.int (i / j),.int (i % j)]) s.en.gh s.en.tp hc;exact p _ _ _ x (bD.mpr ⟨c,_,rfl,.of bF,aQ.mpr ⟨_,_,rfl,aR.mpr rfl,.one (aR.mpr rfl)⟩⟩)
  ·rw[if_neg hc]at p;exact p.elim
 ·exact p.elim
end
inductive Ou where
 |nx (ρ:aK)|rt (d:D)|bk (ρ:aK)|ct (ρ:aK)|ex (c:Str) (n:Int) (ρ:aK)|no|rx (d:D) (ρ:aK)|rl (ds:List D)
def eN(K:aw)(B:Bs)(W:Wi)(G:Hp)(o:Ou)(De:Ends):Prop :=
 match o with
 | .nx ρ'=>∀σ' H' G',SR K B σ' H' ρ' G'->Same G G'->De.nx σ' H'
 | .bk ρ'=>∀σ' H' G',SR K B σ' H' ρ' G'->Same G G'->De.bk σ' H'
 | .ct ρ'=>∀σ' H' G',SR K B σ' H' ρ' G'->Same G G'->De.ct σ' H'
 | .rt d=>∀v H' G',Ext B.1 B.2 G' H'->Same G G'->Rep K G' d v->De.rt v H'
 | .ex c n ρ'=>∀σ' H' G',SR K B σ' H' ρ' G'->Same G G'->W c n σ' H'
 | .no=>False
 | .rx d ρ'=>∀v σ' H' G',SR K B σ' H' ρ' G'->Same G G'->Rep K G' d v->De.rt v H'
 | .rl ds=>∀a ws H' G',Ext B.1 B.2 G' H'->Same G G'->G' a=none->B.2 a=none->H' a=some (.lst ws)->bN K G' ds ws->De.rt (.ref a) H'
def tS(K:aw)(B:Bs)(W:Wi)(g:aK->Ou):TS:=fun De σ H=>∃ρ G,SR K B σ H ρ G/\eN K B W G (g ρ) De
def SS(X:Cx)(B:Bs)(W:Wi)(st:bj)(g:aK->Ou):Prop:=PS X st (tS X.K B W g)
def yS(X:Cx)(B:Bs)(W:Wi)(st:List bj)(g:aK->Ou):Prop:=Wn X st (tS X.K B W g)
def adK(o:Ou)(k:aK->Ou):Ou:=match o with
 | .nx ρ=>k ρ
 |o=>o
def oR{α:Type}(r:Rs α)(ρ:aK)(k:α->Ou):Ou:=match r with
 | .ok a=>k a
 | .ex c n=>.ex c n ρ
 | .no=>.no
section
variable{X:Cx}{K:aw}{B:Bs}{W:Wi}{σ:St}{G G' H:Hp}{ρ:aK}{De De':Ends}
theorem eN.same{o:Ou}(h:eN K B W G o De)(e:Same G G'):eN K B W G' o De:=by
 cases o with
 |nx ρ'=>exact fun σ' H' G'' s q=>h σ' H' G'' s (e.trans q)
 |bk ρ'=>exact fun σ' H' G'' s q=>h σ' H' G'' s (e.trans q)
 |ct ρ'=>exact fun σ' H' G'' s q=>h σ' H' G'' s (e.trans q)
 |rt d=>exact fun v H' G'' x q=>h v H' G'' x (e.trans q)
 |ex c n ρ'=>exact fun σ' H' G'' s q=>h σ' H' G'' s (e.trans q)
 |no=>exact h
 |rx d ρ'=>exact fun v σ' H' G'' s q=>h v σ' H' G'' s (e.trans q)
 |rl ds=>exact fun a ws H' G'' s q=>h a ws H' G'' s (e.trans q)
theorem gQ{r:Rs D}{k:D->Ou}{Q:VK}(s:SR K B σ H ρ G)(p:eN K B W G (oR r ρ k) De)(h:∀d v H' G',r=.ok d->Ext G H G' H'->Rep K G' d v->eN K B W G' (k d) De->Q v H'):Post K W σ G H r Q:=by
 cases r with
 |ok d=>exact fun v H' G' e r=>h d v H' G' rfl e r (eN.same p e.gg)
 |ex c n=>exact fun H' G' e=>p σ H' G' (s.ext e) e.gg
 |no=>exact p
theorem amH:yS X B W [] .nx:=Wn.imp ahS fun De σ H ⟨ρ,G,s,p⟩=>p σ H G s (.refl _)
theorem aip{st:bj}{rest:List bj}{g k:aK->Ou}(h1:SS X B W st g)(h2:yS X B W rest k):yS X B W (st::rest) (fun ρ=>adK (g ρ) k):=by
 refine Wn.imp (acX h1 h2) fun De σ H ⟨ρ,G,s,p⟩=>⟨ρ,G,s,?_⟩
 dsimp only at p;cases e:g ρ with
 |nx ρ'=>rw[e]at p;exact fun σ' H' G' s' q=>⟨ρ',G',s',eN.same (show eN X.K B W G (k ρ') De from p) q⟩
 |bk ρ'=>rw[e]at p;exact p
 |ct ρ'=>rw[e]at p;exact p
 |rt d=>rw[e]at p;exact p
 |ex c n ρ'=>rw[e]at p;exact p
 |no=>rw[e]at p;exact p
 |rx d ρ'=>rw[e]at p;exact p
 |rl ds=>rw[e]at p;exact p
theorem amI{st:bj}{g:aK->Ou}(h1:SS X B W st g):yS X B W [st] g:=ahT h1
theorem adL{st:bj}:SS X B W st (fun _=>.no):=PS.imp acY fun De σ H ⟨ρ,G,s,p⟩=>p
theorem amJ{e:ai}{pos}{f:aK->Rs D}(h:SE X B W e f):SS X B W (.Return (some e) pos) (fun ρ=>oR (f ρ) ρ .rt) :=
 PS.imp (alW h) fun De σ H ⟨ρ,G,s,p⟩=>⟨ρ,G,s,gQ s p fun d v H' G' _ e r q=>q v H' G' (s.en.trans e) (.refl _) r⟩
theorem apu{c:ai}{a b:List bj}{pos:Pos}{fc:aK->Rs Bool}{ga gb:aK->Ou}(hc:ST X B W c fc)(ha:yS X B W a ga)(hb:yS X B W b gb):SS X B W (.If c a b pos) (fun ρ=>oR (fc ρ) ρ fun x=>if x=true then ga ρ else gb ρ):=by
 refine PS.imp (aoT hc ha hb) fun De σ H ⟨ρ,G,s,p⟩=>⟨ρ,G,s,?_⟩
 dsimp only at p;cases e:fc ρ with
 |ok x =>
  rw[e]at p;intro H' G' ee;have p':eN X.K B W G (if x=true then ga ρ else gb ρ) De:=p;cases x with
  |true=>rw[if_pos rfl]at p' ⊢;exact⟨ρ,G',s.ext ee,p'.same ee.gg⟩
  |false=>rw[if_neg (by simp)]at p' ⊢;exact⟨ρ,G',s.ext ee,p'.same ee.gg⟩
 |ex c n=>rw[e]at p;exact fun H' G' ee=>p σ H' G' (s.ext ee) ee.gg
 |no=>rw[e]at p;exact p
abbrev Tg:=D->aK->Option aK
def tG(K:aw)(B:Bs)(h:Tg):TG:=fun v σ H Q=>∃ρ G d,SR K B σ H ρ G/\Rep K G d v/\∃ρ',h d ρ=some ρ'/\∀σ',SR K B σ' H ρ' G->Q σ' H
def tGs(K:aw)(B:Bs)(h:List D->aK->Option aK):TGs:=fun vs σ H Q=>∃ρ G ds,SR K B σ H ρ G/\bN K G ds vs/\∃ρ',h ds ρ=some ρ'/\∀σ',SR K B σ' H ρ' G->Q σ' H
def SG(X:Cx)(B:Bs)(tg:ai)(h:Tg):Prop:=PG X tg (tG X.K B h)
def SGs(X:Cx)(B:Bs)(tg:List ai)(h:List D->aK->Option aK):Prop:=PGs X tg (tGs X.K B h)
theorem PG.imp{e:ai}{t t':TG}(h:PG X e t)(i:∀v σ H Q,t' v σ H Q->t v σ H Q):PG X e t':=fun pins s σ H v u Q I r q=>h pins s σ H v u Q I r (i v σ H Q q)
theorem PGs.imp{e:List ai}{t t':TGs}(h:PGs X e t)(i:∀v σ H Q,t' v σ H Q->t v σ H Q):PGs X e t':=fun pins s σ H v u Q I r q=>h pins s σ H v u Q I r (i v σ H Q q)
def aP(i:Nat):Tg:=fun d ρ=>some (ρ.set i (.fz d))
def jg:List D->aK->Option aK:=fun ds ρ=>match ds with|[]=>some ρ|_=>none
def bW(h:Tg)(k:List D->aK->Option aK):List D->aK->Option aK:=fun ds ρ=>match ds with|d::ds=>(h d ρ).bind (k ds)|[]=>none
def iT(n:Nat)(k:List D->aK->Option aK):Tg:=fun d ρ=>match d with|.tup ds=>if ds.length=n then k ds ρ else none|_=>none
theorem aiq{i:Nat}{x:Str}{pos:Pos}(hN:X.N.Nodup)(hi:X.N[i]?=some x)(hx:Wm X.env.scope x)(hf:X.fn x=true∨X.env.scope.names.lookup x=some .local:=by first|exact .inl rfl|exact .inr rfl|assumption):SG X B (.Name x pos) (aP i) :=
 PG.imp (ahW hN hi hx hf) fun v σ H Q ⟨ρ,G,d,s,r,ρ',e,q⟩=>by cases e;exact q _ (s.set r)
theorem cU:SGs X B [] jg:=PGs.imp ahX fun v σ H Q ⟨ρ,G,ds,s,r,ρ',e,q⟩=>by
 cases ds with
 |nil=>cases e;exact⟨bx.mp r,q _ s⟩
 |cons d ds=>cases e
theorem bh{e:ai}{es:List ai}{h:Tg}{k:List D->aK->Option aK}(h1:SG X B e h)(h2:SGs X B es k)(hs:(f6 (e::es) X.env).map (·.2)=assign e X.env::(f6 es X.env).map (·.2):=by rfl):SGs X B (e::es) (bW h k) :=
 PGs.imp (acZ h1 h2 hs) fun v σ H Q ⟨ρ,G,ds,s,r,ρ',e,q⟩=>by
  cases ds with
  |nil=>cases e
  |cons d ds =>
   obtain⟨w,ws,rfl,r1,r2⟩:=aQ.mp r;unfold bW at e;dsimp only at e;cases e1:h d ρ with
   |none=>rw[e1]at e;cases e
   |some ρ1 =>
    rw[e1]at e;exact⟨w,ws,rfl,ρ,G,d,s,r1,ρ1,e1,fun σ1 s1=>⟨ρ1,G,ds,s1,r2,ρ',e,q⟩⟩
theorem dO{es:List ai}{k:Nat}{pos:Pos}{n:Nat}{h:List D->aK->Option aK}(hc:X.calm=true)(hh:SGs X B es h)
  (hn:(f6 es X.env).length=n:=by rfl) (hst:(f6 es X.env).findIdx? (·.1)=none:=by rfl):SG X B (.Tuple es k pos) (iT n h) :=
 PG.imp (alZ hc hh hn hst) fun v σ H Q ⟨ρ,G,d,s,r,ρ',e,q⟩=>by
  cases d with
  |tup ds =>
   unfold iT at e;dsimp only at e;by_cases hl:ds.length=n
   ·simp only[if_pos hl]at e;obtain⟨a,vs,rfl,q1,rr⟩:=bD.mp r;exact⟨a,vs,rfl,Same.fW s.en.gh q1,by rw[<- rr.length];exact hl,ρ,G,ds,s,rr,ρ',e,q⟩
   ·simp only[if_neg hl]at e;cases e
  |_=>cases e
def oO(o:Option aK):Ou:=match o with|some ρ=>.nx ρ|none=>.no
theorem amK{tg e:ai}{pos:Pos}{f:aK->Rs D}{h:Tg}(he:SE X B W e f)(hg:SG X B tg h)(hs:l9 [tg] e pos.line X.env=pure false:=by rfl)(hw:l_ [tg] e X.env=pure none:=by rfl)
  (h1:(f6 [tg] X.env).map (·.2)=[assign tg X.env]:=by rfl):SS X B W (.Assign [tg] e pos) (fun ρ=>oR (f ρ) ρ fun d=>oO (h d ρ)) :=
 PS.imp (Wq he hg hs hw h1) fun De σ H ⟨ρ,G,s,p⟩=>⟨ρ,G,s,gQ s p fun d v H' G' _ e r q=>by
  cases e1:h d ρ with
  |none=>rw[e1]at q;exact q.elim
  |some ρ'=>rw[e1]at q;exact⟨ρ,G',d,s.ext e,r,ρ',e1,fun σ' s'=>q σ' H' G' s' (.refl _)⟩⟩
theorem amL{i:Nat}{x:Str}{e:ai}{pos pos':Pos}{f:aK->Rs D}(hN:X.N.Nodup)(hi:X.N[i]?=some x)(hx:Wm X.env.scope x)(he:SE X B W e f)(hs:fm e (some (.Name x pos')) pos.line X.env=pure false:=by rfl)(hf:X.fn x=true∨X.env.scope.names.lookup x=some .local:=by first|exact .inl rfl|exact .inr rfl|assumption) :
  SS X B W (.Assign [.Name x pos'] e pos) (fun ρ=>oR (f ρ) ρ fun d=>.nx (ρ.set i (.fz d))) :=
 PS.imp (JH hN hi hx he hs hf) fun De σ H ⟨ρ,G,s,p⟩=>⟨ρ,G,s,gQ s p fun d v H' G' _ e r q=>q _ H' G' ((s.ext e).set r) (.refl _)⟩
theorem SR.adM(h:SR K B σ H ρ G){i:Nat}{z:Sl}{o:HO}{p:ab}(w:z.own=true)(r:uY K G p z o)(hp:H p=none)(hz:∀ds,z≠.op ds:=by intro _ h;cases h):SR K B (σ.set i (some (.ref p))) (upd H p o) (ρ.set i z) G:=by
 have x:=ZG (o:=o) h.en.gh h.en.tp (fun xs e=>by subst e;exact r.tup) hp;have h':=h.ext x;have Bm:∀{j:Nat}{y:Sl},(ρ.set i z)[j]?=some y->(i=j/\y=z/\i < ρ.length)∨(i≠j/\ρ[j]?=some y):=fun {j y} q=>by
  by_cases e:i=j
  ·subst e;have hl:i < ρ.length:=by have:=(eB.mp q).1;simpa using this
   rw[d_ hl]at q;cases q;exact .inl ⟨rfl,rfl,hl⟩
  ·rw[dE e]at q;exact .inr ⟨e,q⟩
 refine⟨h'.en,by simp[h.len],fun j d q=>?_,fun j y q wy=>?_,fun j k y y' a q1 w1 q2 w2 q3 q4=>?_,fun j ds a q1 q2=>?_,h'.co⟩
 ·rcases Bm q with ⟨_,e,_⟩|⟨e,q⟩
  ·rw[<- e]at w;cases w
  ·rw[dE e];exact h'.fz j d q
 ·rcases Bm q with ⟨e,e2,hl⟩|⟨e,q⟩
  ·subst e;subst e2;exact⟨p,o,d_ (by rw[<- h.len];exact hl),bF,h.en.gh.free hp,h.en.hh.free hp,r⟩
  ·rw[dE e];exact h'.own j y q wy
 ·have fresh:∀{l:Nat}{y:Sl},ρ[l]?=some y->y.own=true->σ[l]?≠some (some (.ref p)):=fun {l y} q wy z=>by
   obtain⟨a,vs',h1,h2,_⟩:=h.own l y q wy;rw[h1]at z;have:a=p:=by injection z with z;injection z with z;injection z
   rw[this,hp]at h2;cases h2
  rcases Bm q1 with ⟨e1,_,l1⟩|⟨n1,z1⟩
  ·rcases Bm q2 with ⟨e2,_⟩|⟨n2,z2⟩
   ·exact e1.symm.trans e2
   ·subst e1;rw[d_ (by rw[<- h.len];exact l1)]at q3;have:a=p:=by injection q3 with z;injection z with z;injection z with z;exact z.symm
    subst this;rw[dE n2]at q4;exact(fresh z2 w2 q4).elim
  ·rcases Bm q2 with ⟨e2,_,l2⟩|⟨n2,z2⟩
   ·subst e2;rw[d_ (by rw[<- h.len];exact l2)]at q4;have:a=p:=by injection q4 with z;injection z with z;injection z with z;exact z.symm
    subst this;rw[dE n1]at q3;exact(fresh z1 w1 q3).elim
   ·rw[dE n1]at q3;rw[dE n2]at q4;exact h.ap j k y y' a z1 w1 z2 w2 q3 q4
 ·rcases Bm q1 with ⟨_,e,_⟩|⟨e,q⟩
  ·exact absurd e.symm (hz ds)
  ·rw[dE e]at q2;exact h.tie j ds a q q2
theorem SR.adN(h:SR K B σ H ρ G){i:Nat}{ds:List D}{vs:List V}{p:ab}(r:bN K G ds vs)(hp:H p=none):SR K B (σ.set i (some (.ref p))) (upd H p (.lst vs)) (ρ.set i (.ow ds)) G:=h.adM rfl ⟨vs,rfl,r⟩ hp
theorem SR.Qu(h:SR K B σ H ρ G){i:Nat}{y z:Sl}{o:HO}{a:ab}(q:ρ[i]?=some y)(wy:y.own=true)(ha:σ[i]?=some (some (.ref a)))(wz:z.own=true)(r:uY K G a z o)(hz:∀ds,z=.op ds->∃es,y=.op es:=by intro _ h;cases h):SR K B σ (upd H a o) (ρ.set i z) G:=by
 obtain⟨a',o0,e1,h2,h3,h4,h5⟩:=h.own i y q wy;have ea:a'=a:=by rw[e1]at ha;injection ha with z;injection z with z;injection z
 subst ea;have hl:i < ρ.length:=(eB.mp q).1;have Bm:∀{j:Nat}{x:Sl},(ρ.set i z)[j]?=some x->(i=j/\x=z)∨(i≠j/\ρ[j]?=some x):=fun {j x} q=>by
  by_cases e:i=j
  ·subst e;rw[d_ hl]at q;cases q;exact .inl ⟨rfl,rfl⟩
  ·rw[dE e]at q;exact .inr ⟨e,q⟩
 have ne:∀b o,G b=some o->b≠a':=fun b o z w=>by rw[w,h3]at z;cases z
 refine⟨⟨h.en.gg,fun b o z=>?_,fun b o z=>?_,fun b xs z=>?_,h.en.nw⟩,by simp[h.len],fun j d z'=>?_,fun j x z' wx=>?_,fun j k x x' c z1 w1 z2 w2 z3 z4=>?_,fun j ds c z1 z2=>?_,h.co.upd h2 h5.tab⟩
 ·rw[bC (bH z h4)];exact h.en.hh b o z
 ·rw[bC (ne b o z)];exact h.en.gh b o z
 ·by_cases w:b=a'
  ·subst w;rw[bF]at z;cases z;exact r.tup.elim
  ·rw[bC w]at z;exact h.en.tp b xs z
 ·rcases Bm z' with ⟨_,e⟩|⟨_,z'⟩
  ·rw[<- e]at wz;cases wz
  ·exact h.fz j d z'
 ·rcases Bm z' with ⟨e,e2⟩|⟨e,z'⟩
  ·subst e;subst e2;exact⟨a',o,ha,bF,h3,h4,r⟩
  ·obtain⟨b,us,w1,w2,w3,w4,w5⟩:=h.own j x z' wx;have hne:b≠a':=fun w=>by subst w;exact e (h.ap i j y x b q wy z' wx ha w1)
   exact⟨b,us,w1,by rw[bC hne];exact w2,w3,w4,w5⟩
 ·rcases Bm z1 with ⟨e1,_⟩|⟨_,z1⟩ <;> rcases Bm z2 with ⟨e2,_⟩|⟨_,z2⟩
  ·exact e1.symm.trans e2
  ·subst e1;exact h.ap i k y x' c q wy z2 w2 z3 z4
  ·subst e2;exact h.ap j i x y c z1 w1 q wy z3 z4
  ·exact h.ap j k x x' c z1 w1 z2 w2 z3 z4
 ·rcases Bm z1 with ⟨e1,e2⟩|⟨_,z1⟩
  ·subst e1;obtain⟨es,e3⟩:=hz ds e2.symm;rw[e3]at q;exact h.tie i es c q z2
  ·exact h.tie j ds c z1 z2
theorem SR.write(h:SR K B σ H ρ G){i:Nat}{ds es:List D}{vs:List V}{a:ab}(q:ρ[i]?=some (.ow ds))(ha:σ[i]?=some (some (.ref a)))(r:bN K G es vs):SR K B σ (upd H a (.lst vs)) (ρ.set i (.ow es)) G:=h.Qu q rfl ha rfl ⟨vs,rfl,r⟩
def Ak(i:Nat)(ρ:aK):aK:=match ρ[i]? with|some (.ow ds)=>ρ.set i (.fz (.lst ds))|_=>ρ
theorem SR.Ak(h:SR K B σ H ρ G)(i:Nat):∃G',Same G G'/\SR K B σ H (Ak i ρ) G':=by
 unfold Vl.Ak;split
 ·rename_i ds q;obtain⟨a,vs,e1,h2,h3,h4,h5⟩:=h.ow i ds q;have hl:i < ρ.length:=(eB.mp q).1;have gg:Same G (upd G a (.lst vs)):=fun b o z=>by rw[bC (bH z h3)];exact z
  refine⟨upd G a (.lst vs),gg,⟨h.en.gg.trans gg,h.en.hh,fun b o z=>?_,fun b xs z=>?_,fun b o z w=>?_⟩,by simp[h.len],fun j d z=>?_,fun j fs z wz=>?_,fun j k fs gs c z1 w1 z2 w2 z3 z4=>?_,fun j es c z1 z2=>?_,h.co⟩
  ·by_cases w:b=a
   ·subst w;rw[bF]at z;cases z;exact h2
   ·rw[bC w]at z;exact h.en.gh b o z
  ·by_cases w:b=a
   ·subst w;rw[h2]at z;cases z
   ·rw[bC w];exact h.en.tp b xs z
  ·rw[bC (bH z h4)];exact h.en.nw b o z w
  ·by_cases e:i=j
   ·subst e;rw[d_ hl]at z;cases z;exact⟨_,e1,aY.mpr ⟨a,vs,rfl,.of bF,h5.mono gg⟩⟩
   ·rw[dE e]at z;obtain⟨v,w1,w2⟩:=h.fz j d z;exact⟨v,w1,w2.mono gg⟩
  ·by_cases e:i=j
   ·subst e;rw[d_ hl]at z;cases z;cases wz
   ·rw[dE e]at z;obtain⟨b,us,w1,w2,w3,w4,w5⟩:=h.own j fs z wz;have hne:b≠a:=fun w=>by subst w;exact e (h.ap i j _ fs b q rfl z wz e1 w1)
    exact⟨b,us,w1,w2,by rw[bC hne];exact w3,w4,w5.mono gg⟩
  ·have nj:i≠j:=fun e=>by subst e;rw[d_ hl]at z1;cases z1;cases w1
   have nk:i≠k:=fun e=>by subst e;rw[d_ hl]at z2;cases z2;cases w2
   rw[dE nj]at z1;rw[dE nk]at z2;exact h.ap j k fs gs c z1 w1 z2 w2 z3 z4
  ·have nj:i≠j:=fun e=>by subst e;rw[d_ hl]at z1;cases z1
   rw[dE nj]at z1;exact h.tie j es c z1 z2
 ·exact⟨G,.refl _,h⟩
theorem air{st:List bj}{g:aK->Ou}(i:Nat)(h:yS X B W st g):yS X B W st (fun ρ=>g (Ak i ρ)) :=
 Wn.imp h fun De σ H ⟨ρ,G,s,p⟩=>let ⟨G',gg,s'⟩:=s.Ak i;⟨_,G',s',eN.same p gg⟩
theorem amM{i:Nat}{x:Str}{es:List ai}{pos pos' lp:Pos}{f:aK->Rs (List D)}(hN:X.N.Nodup)(hi:X.N[i]?=some x)(hx:Wm X.env.scope x)(he:SA X B W es f)(hs:fm (.List es lp) (some (.Name x pos')) pos.line X.env=pure false:=by rfl)(hf:X.fn x=true∨X.env.scope.names.lookup x=some .local:=by first|exact .inl rfl|exact .inr rfl|assumption) :
  SS X B W (.Assign [.Name x pos'] (.List es lp) pos) (fun ρ=>oR (f ρ) ρ fun ds=>if ds.length<=1000 then .nx (ρ.set i (.ow ds)) else .no):=by
 refine PS.imp (JH hN hi hx (adl he) hs hf) fun De σ H ⟨ρ,G,s,p⟩=>⟨ρ,G,s,?_⟩
 dsimp only at p;cases e:f ρ with
 |ok ds =>
  rw[e]at p;have p':eN X.K B W G (if ds.length<=1000 then .nx (ρ.set i (.ow ds)) else .no) De:=p;by_cases hl:ds.length<=1000
  ·rw[if_pos hl]at p';exact fun vs H' G' x r=>⟨by rw[<- r.length];exact WD hl,fun c hc=>p' _ _ G' ((s.ext x).adN r hc) x.gg⟩
  ·rw[if_neg hl]at p';exact p'.elim
 |ex c n=>rw[e]at p;exact fun H' G' x=>p σ H' G' (s.ext x) x.gg
 |no=>rw[e]at p;exact p
theorem abk{i:Nat}{x:Str}{e:ai}{pos p1 p2 cp:Pos}{f:aK->Rs D}(hv:PE X (.Name x p1) (JF i))(he:SE X B W e f)
  (hst:bo [e] X.env=[(false,ba e X.env)]) {pe:PE X (.Call (.Attribute (.Name x p1) "append" p2) [e] [] cp) (tBM X.K "list" ZC (JF i) (adk (tF X.K B W f) amk))}
  (hs:fm (.Call (.Attribute (.Name x p1) "append" p2) [e] [] cp) none pos.line X.env=pure false:=by rfl) :
  SS X B W (.Expr (.Call (.Attribute (.Name x p1) "append" p2) [e] [] cp) pos) (fun ρ=>match ρ[i]? with|some (.ow ds)=>oR (f ρ) ρ fun d=>if ds.length < 1000000 then .nx (ρ.set i (.ow (ds++[d]))) else .no|_=>.no):=by
 refine PS.imp (JG pe hs) fun De σ H fH=>?_;obtain⟨ρ,G,s,p⟩:=fH;dsimp only at p;cases q:ρ[i]? with
 |none=>rw[q]at p;exact p.elim
 |some z =>
  rw[q]at p;cases z with
  |no=>exact p.elim
  |fz d=>exact p.elim
  |od _=>exact p.elim
  |op _=>exact p.elim
  |ow ds =>
   obtain⟨a,vs,e1,h2,h3,h4,h5⟩:=s.ow i ds q;refine⟨_,e1,.inl ⟨rfl,vs,.of h2⟩,ρ,G,s,gQ s p fun d v H' G' _ x r p'=>?_⟩;by_cases hl:ds.length < 1000000
   ·rw[if_pos hl]at p';have s':=s.ext x;refine⟨a,vs,v,rfl,rfl,x.hh _ _ h2,by rw[<- h5.length];exact eJ hl (by rw[d8];decide),?_⟩;exact p' σ _ G' (s'.write q e1 ((h5.mono x.gg).append (.one r))) (.refl _)
   ·rw[if_neg hl]at p';exact p'.elim
end
def fJ(h:Tg)(gb:aK->Ou):List D->aK->Ou
 | [],ρ=>.nx ρ
 |d::ds,ρ=>match h d ρ with
  |none=>.no
  |some ρ1=>match gb ρ1 with
   | .nx ρ2=>fJ h gb ds ρ2
   | .ct ρ2=>fJ h gb ds ρ2
   | .bk ρ2=>.nx ρ2
   |o=>o
def WF:Wi:=fun _ _ _ _=>False
section
variable{X:Cx}{K:aw}{B:Bs}{W:Wi}{σ:St}{G G' H:Hp}{ρ:aK}{De De':Ends}
theorem wV{h:Tg}{gb:aK->Ou}{d:D}{ds:List D}{v:V}{Pv:St->Hp->Prop}(s:SR K B σ H ρ G)(r:Rep K G d v)(p:eN K B W G (fJ h gb (d::ds) ρ) De)
  (hP:∀σ' H' ρ' G',SR K B σ' H' ρ' G'->Same G G'->eN K B W G' (fJ h gb ds ρ') De->Pv σ' H') :
  tG K B h v σ H fun σ2 H2=>tS K B W gb { De with nx:=Pv,ct:=Pv,bk:=De.nx } σ2 H2:=by
 unfold fJ at p;cases e:h d ρ with
 |none=>rw[e]at p;exact p.elim
 |some ρ1 =>
  rw[e]at p;refine⟨ρ,G,d,s,r,ρ1,e,fun σ1 s1=>⟨ρ1,G,s1,?_⟩⟩;dsimp only at p;cases e2:gb ρ1 with
  |nx ρ2=>rw[e2]at p;exact fun σ' H' G' s' q=>hP σ' H' ρ2 G' s' q (eN.same p q)
  |ct ρ2=>rw[e2]at p;exact fun σ' H' G' s' q=>hP σ' H' ρ2 G' s' q (eN.same p q)
  |bk ρ2=>rw[e2]at p;exact p
  |rt d=>rw[e2]at p;exact p
  |ex c n ρ2=>rw[e2]at p;exact p
  |no=>rw[e2]at p;exact p
  |rx d ρ2=>rw[e2]at p;exact p
  |rl ds=>rw[e2]at p;exact p
def Qv(h:Tg)(gb:aK->Ou)(f:aK->Rs D):aK->Ou:=fun ρ=>oR (f ρ) ρ fun d=>match d with|.lst ds=>fJ h gb ds ρ|_=>.no
def Ii(h:Tg)(gb:aK->Ou)(f:aK->Rs D):aK->Ou:=fun ρ=>oR (f ρ) ρ fun d=>match d with|.tup ds=>fJ h gb ds ρ|_=>.no
def wW(h:Tg)(gb:aK->Ou)(f:aK->Rs D):aK->Ou:=fun ρ=>oR (f ρ) ρ fun d=>match d with|.int n=>if-(2 ^ 62)<=n/\n < 2 ^ 62 then fJ h gb ((cn n.toNat).map fun(i:Nat)=>.int i) ρ else .no|_=>.no
def Dg(h:Tg)(gb:aK->Ou)(fs:aK->Rs (List D)):aK->Ou:=fun ρ=>oR (fs ρ) ρ fun ds=>match ds with
 | [.int m,.int n]=>if (-(2 ^ 62)<=m/\m < 2 ^ 62/\-(2 ^ 62)<=n/\n < 2 ^ 62) then fJ h gb ((cn (n - m).toNat).map fun(i:Nat)=>.int (m + i)) ρ else .no|_=>.no
theorem ZP{tg iter:ai}{body:List bj}{pos:Pos}{f:aK->Rs D}{h:Tg}{gb:aK->Ou}(hp:md (ah X.prog X.w) X.A X.env X.xe)(hc:X.calm=true)(hi:SE X B W iter f)(hg:SG X B tg h)(hb:yS X B W body gb)
  (hs:∀x,hV iter X.env x=pure x:=by intro _;rfl):SS X B W (.For tg iter body [] pos) (Qv h gb f):=by
 refine PS.imp (CN hp hc (Zx hi) hg hb hs) fun De σ H fH=>?_;obtain⟨ρ,G,s,p⟩:=fH;refine⟨ρ,G,s,gQ s p fun d v H1 G1 _ e r p1=>?_⟩;cases d with
 |lst ds =>
  obtain⟨a,vs,rfl,q,rr⟩:=aY.mp r;refine⟨a,rfl,⟨vs,e.gh.seq q⟩,ade (fun i σ H=>∃ρ G,SR X.K B σ H ρ G/\pO X.K G a vs/\bN X.K G ds vs/\eN X.K B W G (fJ h gb (ds.drop i) ρ) De) ⟨ρ,G1,s.ext e,q,rr,by simpa using p1⟩ (fun i σ H _ ⟨ρ,G,s,q,_⟩=>s.en.gh.seq q) ?_ ?_⟩
  ·rintro i x σ2 H2 hx ⟨ρ2,G2,s2,q2,r2,p2⟩;obtain⟨d,hd,rd⟩:=r2.get' hx;have hl:=(eB.mp hd).1;rw[jv hl,(eB.mp hd).2]at p2;exact wV s2 rd p2 fun σ' H' ρ' G' s' q' p'=>⟨ρ',G',s',q'.seq q2,r2.mono q',p'⟩
  ·rintro σ2 H2 ⟨ρ2,G2,s2,q2,r2,p2⟩;rw[<- r2.length,qS]at p2;exact p2 σ2 H2 G2 s2 (.refl _)
 |_=>exact p1.elim
theorem Kf{tg iter:ai}{body:List bj}{pos:Pos}{f:aK->Rs D}{h:Tg}{gb:aK->Ou}(hp:md (ah X.prog X.w) X.A X.env X.xe)(hc:X.calm=true)(hi:SE X B W iter f)(hg:SG X B tg h)(hb:yS X B W body gb)
  (hs:∀x,hV iter X.env x=pure x:=by intro _;rfl):SS X B W (.For tg iter body [] pos) (Ii h gb f):=by
 refine PS.imp (CN hp hc (adb hi) hg hb hs) fun De σ H fH=>?_;obtain⟨ρ,G,s,p⟩:=fH;refine⟨ρ,G,s,gQ s p fun d v H1 G1 _ e r p1=>?_⟩;cases d with
 |tup ds =>
  obtain⟨a,vs,rfl,q,rr⟩:=bD.mp r;refine⟨a,rfl,⟨vs,Same.fW e.gh q⟩,ahY (fun i σ H=>∃ρ G,SR X.K B σ H ρ G/\ni X.K G a vs/\bN X.K G ds vs/\eN X.K B W G (fJ h gb (ds.drop i) ρ) De) ⟨ρ,G1,s.ext e,q,rr,by simpa using p1⟩ (fun i σ H _ ⟨ρ,G,s,q,_⟩=>Same.fW s.en.gh q) ?_ ?_⟩
  ·rintro i x σ2 H2 hx ⟨ρ2,G2,s2,q2,r2,p2⟩;obtain⟨d,hd,rd⟩:=r2.get' hx;have hl:=(eB.mp hd).1;rw[jv hl,(eB.mp hd).2]at p2;exact wV s2 rd p2 fun σ' H' ρ' G' s' q' p'=>⟨ρ',G',s',Same.fW q' q2,r2.mono q',p'⟩
  ·rintro σ2 H2 ⟨ρ2,G2,s2,q2,r2,p2⟩;rw[<- r2.length,qS]at p2;exact p2 σ2 H2 G2 s2 (.refl _)
 |_=>exact p1.elim
theorem Dh{h:Tg}{gb:aK->Ou}{lo:Int}{n:Nat}(s:SR K B σ H ρ G)(p:eN K B W G (fJ h gb ((cn n).map fun(i:Nat)=>.int (lo + i)) ρ) De) :
  ∃W0:Nat->Nat->St->Hp->Prop,(∃m,W0 0 m σ H)/\∀i m σ H,W0 i m σ H ->
   ((Itr lo n).stop i H/\De.nx σ H)∨((Itr lo n).go i H/\∃N:St->Hp->Prop,(∀σ' H',N σ' H'->∃m',m' < m/\W0 (i + 1) m' σ' H')/\∀x H',(Itr lo n).yld i H x H'->tG K B h x σ H' fun σ2 H2=>tS K B W gb { De with nx:=N,ct:=N,bk:=De.nx } σ2 H2):=by
 refine abb (fun i σ H=>∃ρ G,SR K B σ H ρ G/\eN K B W G (fJ h gb (((cn n).map fun(i:Nat)=>D.int (lo + i)).drop i) ρ) De) ⟨ρ,G,s,by simpa using p⟩ ?_ ?_
 ·rintro i σ2 H2 hi ⟨ρ2,G2,s2,p2⟩;have hl:i < ((cn n).map fun(i:Nat)=>D.int (lo + i)).length:=by simpa using hi
  rw[jv hl]at p2;rw[show((cn n).map fun(i:Nat)=>D.int (lo + i))[i]=D.int (lo + i) by simp]at p2;exact wV s2 (aR.mpr rfl) p2 fun σ' H' ρ' G' s' q' p'=>⟨ρ',G',s',p'⟩
 ·rintro σ2 H2 ⟨ρ2,G2,s2,p2⟩;rw[mB (by simp)]at p2;exact p2 σ2 H2 G2 s2 (.refl _)
theorem Cg{tg e:ai}{body:List bj}{pos p1 p2:Pos}{f:aK->Rs D}{h:Tg}{gb:aK->Ou}(hp:md (ah X.prog X.w) X.A X.env X.xe) (hc:X.calm=true) (hm:X.mg "range"=none) (hi:SE X B W e f) (hg:SG X B tg h) (hb:yS X B W body gb)
  (hgl:Gl X "range":=by rfl) (hst:bo [e] X.env=[(false,ba e X.env)]:=by rfl)
  (hs:∀x,hV (.Call (.Name "range" p1) [e] [] p2) X.env x=pure x:=by intro _;rfl):SS X B W (.For tg (.Call (.Name "range" p1) [e] [] p2) body [] pos) (wW h gb f):=by
 refine PS.imp (CN hp hc (aaX hgl hm (iC hi jX (by rw[hst];rfl)) hst) hg hb hs) fun De σ H fH=>?_;obtain⟨ρ,G,s,p⟩:=fH;refine⟨ρ,G,s,gQ s p fun d v H1 G1 _ e r p1=>?_⟩;cases d with
 |int n =>
  dsimp only at p1;by_cases c:-(2 ^ 62)<=n/\n < 2 ^ 62
  ·rw[if_pos c]at p1;refine⟨n,by rw[aR.mp r],c.1,c.2,Dh (s.ext e) ?_⟩;simpa using p1
  ·rw[if_neg c]at p1;exact p1.elim
 |_=>exact p1.elim
theorem adO{tg e e':ai}{body:List bj}{pos p1 p2:Pos}{f f':aK->Rs D}{h:Tg}{gb:aK->Ou}(hp:md (ah X.prog X.w) X.A X.env X.xe) (hc:X.calm=true) (hm:X.mg "range"=none) (hi:SE X B W e f) (hi':SE X B W e' f') (hg:SG X B tg h) (hb:yS X B W body gb)
  (hgl:Gl X "range":=by rfl) (hst:bo [e,e'] X.env=[(false,ba e X.env),(false,ba e' X.env)]:=by rfl) (hst2:bo [e'] X.env=[(false,ba e' X.env)]:=by rfl)
  (hs:∀x,hV (.Call (.Name "range" p1) [e,e'] [] p2) X.env x=pure x:=by intro _;rfl):SS X B W (.For tg (.Call (.Name "range" p1) [e,e'] [] p2) body [] pos) (Dg h gb (ao f (ao f' aU))):=by
 refine PS.imp (CN hp hc (aaY hgl hm (ak hi (ak hi' aJ (by rw[hst2];rfl)) (by rw[hst,hst2])) hst hst2) hg hb hs) fun De σ H fH=>?_;obtain⟨ρ,G,s,p⟩:=fH;refine⟨ρ,G,s,?_⟩;unfold Dg at p;cases e1:ao f (ao f' aU) ρ with
 |ok ds =>
  rw[e1]at p;intro vs H1 G1 e r;have p1:=eN.same p e.gg;simp only[oR]at p1;split at p1
  ·rename_i m n;obtain⟨v,vs',rfl,r1,r2⟩:=aQ.mp r;obtain⟨v2,vs'',rfl,r3,r4⟩:=aQ.mp r2;rw[aR.mp r1,aR.mp r3,bx.mp r4];by_cases c:(-(2 ^ 62)<=m/\m < 2 ^ 62/\-(2 ^ 62)<=n/\n < 2 ^ 62)
   ·rw[if_pos c]at p1;exact⟨m,n,rfl,c,Dh (s.ext e) p1⟩
   ·rw[if_neg c]at p1;exact p1.elim
  ·exact p1.elim
 |ex c n=>rw[e1]at p;exact fun H' G' x=>p σ H' G' (s.ext x) x.gg
 |no=>rw[e1]at p;exact p
def adP:Ou->Ou
 | .ex _ _ _=>.no
 |o=>o
theorem abl{o:Ou}(p:eN K B W G (adP o) De):eN K B WF G o De:=by
 cases o with
 |ex c n ρ=>exact p.elim
 |_=>exact p
theorem PS.nox{st:bj}{t:TS}(h:PS X.nox st t):PS X st t:=fun pins s σ H D I hw =>
 eD (h pins s σ H D (I.wish _) hw) (fun _ _ q=>q.rY) fun _ _ z=>i_ z
theorem amN{st:bj}{g:aK->Ou}(h:SS X.nox B WF st g):SS X B W st (fun ρ=>adP (g ρ)) :=
 PS.imp (PS.nox h) fun De σ H ⟨ρ,G,s,p⟩=>⟨ρ,G,s,abl p⟩
def zig(n:Int):Nat:=if 0<=n then 2 * n.toNat else 2 * (-n).toNat + 1
def Ij(c:Str)(n:Int):aa:=.str c (zig n)
def RP(K:aw)(G H:Hp)(Q:VK)(E:XK)(r:Rs D):Prop:=match r with
 | .ok d=>∀v H' G',Ext G H G' H'->Rep K G' d v->Q v H'
 | .ex c n=>∀H' G',Ext G H G' H'->E (Ij c n) none H'
 | .no=>False
def spV(K:aw)(k:Nat)(g:List D->Rs D):Sp:=fun vs H Q E=>vs.length=k/\∃G ds,Ex0 K G H/\bN K G ds vs/\RP K G H Q E (g ds)
def dZ:Ou->Rs D
 | .nx _=>.ok .non
 | .rt d=>.ok d
 | .ex c n _=>.ex c n
 |_=>.no
def Di{α:Type}:Rs α->Rs α
 | .ex _ _=>.no
 |o=>o
def aZ(N:List Str)(ds:List D):aK:=ds.map .fz++i7 (N.length - ds.length) .no
theorem Qw{N:List Str}{ds:List D}{vs:List V}(e:Ex0 K G H)(r:bN K G ds vs):SR K ⟨G,H,0⟩ (L2.start N vs) H (aZ N ds) G:=by
 have adQ:∀(i:Nat) (z:Sl),(aZ N ds)[i]?=some z->z.own=true->False:=fun i z q w=>by
  unfold aZ at q;by_cases hi:i < (ds.map Sl.fz).length
  ·rw[i9 hi,cE]at q;cases e1:ds[i]? with
   |none=>rw[e1]at q;cases q
   |some d=>rw[e1]at q;cases q;cases w
  ·rw[i8 (by lia),mf]at q;split at q <;> cases q;cases w
 refine⟨e.toExt,?_,fun i d q=>?_,fun i z q w=>(adQ i z q w).elim,fun i j z z' a q w=>(adQ i z q w).elim,fun i ds a q=>(adQ i _ q rfl).elim,e.co⟩
 ·unfold aZ L2.start;simp[r.length]
 ·unfold aZ at q;unfold L2.start;by_cases hi:i < (ds.map Sl.fz).length
  ·rw[i9 hi,cE]at q;cases e1:ds[i]? with
   |none=>rw[e1]at q;cases q
   |some d' =>
    rw[e1]at q;cases q;obtain⟨v,h1,h2⟩:=r.get e1;refine⟨v,?_,h2⟩;rw[i9 (by rw[cb,<- r.length];simpa using hi),cE,h1];rfl
  ·rw[i8 (by lia),mf]at q;split at q <;> cases q
theorem Qx{o:Ou}{Q:VK}{E:XK}(h:RP K B.1 B.2 Q E (dZ o)):eN K B (fun c n _ H'=>E (Ij c n) none H') G o { nx:=fun _ H'=>Q .non H',rt:=Q }:=by
 cases o with
 |nx ρ'=>exact fun σ' H' G' s q=>h .non H' G' s.en (bZ.mpr rfl)
 |rt d=>exact fun v H' G' x q r=>h v H' G' x r
 |ex c n ρ'=>exact fun σ' H' G' s q=>h H' G' s.en
 |bk _=>exact h.elim
 |ct _=>exact h.elim
 |no=>exact h.elim
 |rx _ _=>exact h.elim
 |rl _=>exact h.elim
section
variable{P:aE}{w:az}{mg:Str->Option aa}{base:Heap}{x qual:Str}{st:bj}{f:ab}{fd:cq}{N ps:List Str}{k:Nat}
end
end
theorem Kg{prog:aE}{w:az}{A:a_}{s:af}{R:Result->af->Prop}{elt target iter:ai}{ifs:List ai}{scope:Scope}{pos:Pos}{it acc:aa}{env:Env}(J:Nat->af->Prop)
  (turn:∀k t,J k t->ag (ah prog w) A (eA it) (fun o t1=>match o with
   |none=>R (.ok .next) t1
   |some x=>ag (ah prog w) A (qk target it x) (fun _ t2=>ag (ah prog w) A (assign target env x) (fun _ t3 =>
     ag (ah prog w) A (forIn ifs true fun c go=>if go=true then do { let y <- isTrue c env (ba c env);pure (ForInStep.yield y) } else pure (ForInStep.yield go)) (fun yes t4 =>
      if yes=true then ag (ah prog w) A (ba elt env) (fun y t5 =>
       ag (ah prog w) A (call (.builtin "list.append") [acc,y]) (fun _ t6=>∃j,j < k/\J j t6) (fun _ _=>False) t5) (fun _ _=>False) t4
      else ∃j,j < k/\J j t4) (fun _ _=>False) t3) (fun _ _=>False) t2) (fun _ _=>False) t1) (fun _ _=>False) t)
  (n:Nat) (h:J n s):f7 (ah prog w) A (.compLoop (.ListComp elt [⟨target,iter,ifs,0⟩] scope pos) 0 it acc env) R s:=by
 refine codeAny_loop rfl J (fun k t hJ=>?_) n h;show ag _ A (Sem.onRaise (compTurn (.ListComp elt [⟨target,iter,ifs,0⟩] scope pos) 0 it acc env) (fun x=>do noteFrame x env;theTreesLotGoes x)) _ _ t;refine wpAny_noted ?_;rw[compTurn_list];refine ae (vt (ae (eD (turn k t hJ) (fun o t1 g1=>?_) fun _ _ z=>z.elim)));cases o with
 |none=>exact ar g1
 |some x =>
  refine ae (eD g1 (fun _ t2 g2=>?_) fun _ _ z=>z.elim);refine ae (eD g2 (fun _ t3 g3=>ae (eD g3 (fun yes t4 g4=>?_) fun _ _ z=>z.elim)) fun _ _ z=>z.elim);cases yes with
  |true=>exact ae (ae (eD g4 (fun y t5 g5=>ae (eD g5 (fun _ t6 g6=>ar (ar ⟨rfl,g6⟩)) fun _ _ z=>z.elim)) fun _ _ z=>z.elim))
  |false=>exact ar ⟨rfl,g4⟩
abbrev jH(X:Cx)(N:List Str)(s₀:af)(H₀:Hp)(sc:Scope)(cl:List (Str×ab))(C:ab)(ex:List ab)(pins:List (ab×Obj)):Cx where
 prog:=X.prog
 w:=X.w
 K:=X.K
 mg:=X.mg
 base:=X.base
 A:=X.A
 N:=N
 s₀:=s₀
 H₀:=H₀
 env:=compEnvC sc cl C X.env
 outer:=X.stack
 stack:=X.stack
 ex:=ex
 fn:=fun _=>false
 calm:=X.calm
 pn:=X.pn++pins
 xe:=fun _ _=>False
def fX(sc:Scope)(env:Env):List (Str×ab):=sc.names.foldl (fun cs y=>if y.2 == .free then (y.1,(env.cells.lookup y.1).getD 0)::cs else cs) []
theorem rJ{sc:Scope}{env:Env}(h:∀y∈sc.names,y.2=.free->∃c,env.cells.lookup y.1=some c):closureFor sc env=pure (fX sc env):=by
 unfold closureFor fX;have key:∀(l:List (Str×eK)) (cs:List (Str×ab)),(∀y∈l,y.2=.free->∃c,env.cells.lookup y.1=some c) ->
   (forIn l cs (fun(x:Str×eK) (r:List (Str×ab))=>if (x.2 == eK.free)=true then do let a <- cellOf env x.1;pure (ForInStep.yield ((x.1,a)::r)) else pure (ForInStep.yield r)):Sem (List (Str×ab))) =
    pure (l.foldl (fun cs y=>if y.2 == .free then (y.1,(env.cells.lookup y.1).getD 0)::cs else cs) cs):=by
  intro l
  induction l with
  |nil=>intro cs _;rfl
  |cons y l ih =>
   intro cs hl;rw[wa,jI];by_cases hk:(y.2 == eK.free)=true
   ·obtain⟨c,hc⟩:=hl y dA (by simpa using hk);rw[if_pos hk,if_pos hk];unfold cellOf;rw[hc];exact ih _ fun z hz=>hl z (dQ _ hz)
   ·rw[if_neg hk,if_neg hk];exact ih _ fun z hz=>hl z (dQ _ hz)
 have:=key sc.names [] h;simp only[]at this ⊢;rw[this];rfl
theorem adR{sc:Scope}{env:Env}:∀y∈fX sc env,(∃k∈sc.names,k.1=y.1/\k.2=.free)/\y.2=(env.cells.lookup y.1).getD 0:=by
 unfold fX;have key:∀(l:List (Str×eK)) (cs:List (Str×ab)) (y:Str×ab),y∈l.foldl (fun cs y=>if y.2 == .free then (y.1,(env.cells.lookup y.1).getD 0)::cs else cs) cs ->
   y∈cs∨((∃k∈l,k.1=y.1/\k.2=.free)/\y.2=(env.cells.lookup y.1).getD 0):=by
  intro l
  induction l with
  |nil=>intro cs y h;exact .inl h
  |cons z l ih =>
   intro cs y h;rw[jI]at h;rcases ih _ y h with h|⟨⟨k,hk,e⟩,e2⟩
   ·by_cases hz:(z.2 == eK.free)=true
    ·rw[if_pos hz]at h;rcases bz.mp h with e|h
     ·subst e;exact .inr ⟨⟨z,dA,rfl,by simpa using hz⟩,rfl⟩
     ·exact .inl h
    ·rw[if_neg hz]at h;exact .inl h
   ·exact .inr ⟨⟨k,dQ _ hk,e⟩,e2⟩
 intro y hy;rcases key sc.names [] y hy with h|h
 ·cases h
 ·exact h
theorem wX{sc:Scope}{env:Env}{n:Str}(h:(n,eK.free)∈sc.names):∃c,(fX sc env).lookup n=some c:=by
 have key:∀(l:List (Str×eK)) (cs:List (Str×ab)),((n,eK.free)∈l∨∃c,cs.lookup n=some c)->∃c,(l.foldl (fun cs y=>if y.2 == .free then (y.1,(env.cells.lookup y.1).getD 0)::cs else cs) cs).lookup n=some c:=by
  intro l
  induction l with
  |nil =>
   intro cs h;rcases h with h|h
   ·cases h
   ·exact h
  |cons z l ih =>
   intro cs h;rw[jI];refine ih _ ?_;rcases h with h|⟨c,hc⟩
   ·rcases bz.mp h with e|h
    ·subst e;refine .inr ⟨(env.cells.lookup n).getD 0,?_⟩;rw[if_pos (by rfl),mE]
    ·exact .inl h
   ·right;by_cases hz:(z.2 == eK.free)=true
    ·rw[if_pos hz];by_cases e:n=z.1
     ·subst e;exact⟨_,mE⟩
     ·exact⟨c,by rw[km,show(n == z.1)=false by simpa using e];exact hc⟩
    ·rw[if_neg hz];exact⟨c,hc⟩
 exact key sc.names [] (.inl h)
section
variable{X:Cx}{pins:List (ab×Obj)}{σ:St}{H:Hp}{s:af}
theorem nM{sc:Scope}{env:Env}{x:Str}{k:eK}(h:(relabel sc env).names.lookup x=some k):(∃k',sc.names.lookup x=some k'/\(k'=k∨(k'=.free/\k=.cell))):=by
 have key:∀l:List (Str×eK),wb x (l.map fun(n,k)=>if (k == .free && env.scope.kind == .function && env.kindOf n == some .cell) then (n,eK.cell) else (n,k))=some k ->
   ∃k',l.lookup x=some k'/\(k'=k∨(k'=.free/\k=.cell)):=by
  intro l
  induction l with
  |nil=>intro h;cases h
  |cons y l ih =>
   intro h;obtain⟨n,kk⟩:=y;rw[ck]at h;by_cases e:(x == n)=true
   ·refine⟨kk,by rw[km,e],?_⟩;dsimp only at h;split at h
    ·rename_i hc;rw[km,e]at h;have h':eK.cell=k:=dq h;exact .inr ⟨by simp only[k4,beq_iff_eq]at hc;exact hc.1.1,h'.symm⟩
    ·rw[km,e]at h;exact .inl (dq h)
   ·have e':(x == n)=false:=by simpa using e
    obtain⟨k',a,b⟩:=ih (by
     dsimp only at h;split at h <;> (rw[km,e']at h;exact h))
    exact⟨k',by rw[km,e'];exact a,b⟩
 exact key sc.names h
structure vM (X:Cx)(sc:Scope)(N:List Str)(nt:Nat)(caps:List Nat):Prop where
 kind:sc.kind=.function
 Kh:∀y∈sc.names,y.2≠.cell
 fr:∀y∈sc.names,y.2=.free->X.env.kindOf y.1=some .cell∨X.env.kindOf y.1=some .free
 len:N.length=nt + caps.length
 cap:∀(j i:Nat) (x:Str),caps[j]?=some i->N[nt + j]?=some x->X.N[i]?=some x/\sc.names.lookup x=some .free
theorem vM.cells{sc:Scope}{N:List Str}{nt:Nat}{caps:List Nat}(c:vM X sc N nt caps)(I:Inv X pins σ H s):∀y∈sc.names,y.2=.free->∃a,X.env.cells.lookup y.1=some a :=
 fun y hy hf=>I.ok.has y.1 (c.fr y hy hf)
theorem vM.cl{sc:Scope}{N:List Str}{nt:Nat}{caps:List Nat}(c:vM X sc N nt caps)(I:Inv X pins σ H s){x:Str}{a:ab}(h:(fX sc X.env).lookup x=some a):X.env.cells.lookup x=some a:=by have hm:=hZ h;obtain⟨⟨k,hk,e1,e2⟩,e3⟩:=adR _ hm;obtain⟨b,hb⟩:=c.cells I k hk e2;rw[e1]at hb;dsimp only at e3 hb;rw[hb]at e3;rw[hb,e3];rfl
def rZ(nt:Nat)(caps:List Nat)(σ:St):St:=i7 nt none++caps.map fun i=>(σ[i]?).getD none
theorem WK{sc:Scope}{N:List Str}{nt:Nat}{caps:List Nat}{fp:List ab}{h':Heap}{tk:Nat}(c:vM X sc N nt caps)(I:Inv X pins σ H s)(hfp:∀b∈fp,qx X pins H b/\b < s.heap.objs.size)
  (hn:h'.Ns s.heap.objs.size fun _=>none) (hk:∀b o,s.heap.get? b=some o->h'.get? b=some o) :
  Inv (jH X N s H sc (fX sc X.env) s.heap.objs.size fp pins) [] (rZ nt caps σ) H { s with heap:=h',toks:=tk }:=by
 have clX:∀{x:Str}{a:ab},(fX sc X.env).lookup x=some a->X.env.cells.lookup x=some a:=fun h=>c.cl I h;have stk:∀b,b≠X.env.locals->b∉X.fs->b∉pP X.stack:=fun b h1 h2 h3=>(bz.mp (I.vB b h3)).elim h1 h2;refine⟨⟨I.ok.mod,c.kind,I.ok.glob,I.ok.blt,br _,fun x y a h1 h2=>I.ok.inj x y a (clX h1) (clX h2),fun x hx=>?_,fun x a hf=>absurd (show false=true from hf) we,I.ok.hd,I.ok.frames,.inl rfl,fun b hb=>⟨bP (hfp b hb).2,fun x a ha=>(hfp b hb).1.2.2.2.2.1 x a (clX ha)⟩,
  fun b o e=>I.bs b o e,cz I.ok.bsz I.sz,fun b o e hb=>?_,fun b hb=>stk b (hfp b hb).1.2.1 (hfp b hb).1.2.2.1,I.stack,I.Ca⟩,
  rfl,I.bare,Un.kept hk,⟨_,hn,fun i x v h1 h2 h3=>?_⟩,fun x a ha=>?_,I.hok.fresh (br _),fun x a ha=>I.rH x a (clX ha),fun p hp=>?_,I.hok.kept hk,?_⟩
 ·-- has
  have hx':(relabel sc X.env).names.lookup x=some .cell∨(relabel sc X.env).names.lookup x=some .free:=hx;have:sc.names.lookup x=some .free:=by
   rcases hx' with hx'|hx'
   ·obtain⟨k',h1,h2⟩:=nM hx';rcases h2 with h2|⟨h2,_⟩
    ·subst h2;exact(c.Kh _ (hZ h1) rfl).elim
    ·rw[h1,h2]
   ·obtain⟨k',h1,h2⟩:=nM hx';rcases h2 with h2|⟨h2,e⟩
    ·rw[h1,h2]
    ·cases e
  exact wX (hZ this)
 ·-- aaV
  obtain⟨_,_,_,h4,_⟩:=(hfp b hb).1;rcases h4 with h4|h4
  ·exact I.ok.aaV b o e h4
  ·exact absurd (eJ (bu e) (cz I.ok.bsz h4)) (ir _)
 ·-- loc
  unfold rZ at h2;by_cases hi:i < (i7 nt (none:Option V)).length
  ·rw[i9 hi,mf]at h2;split at h2 <;> cases h2
  ·rw[i8 (by lia),cE]at h2;rw[oo]at h2 hi;cases e:caps[i - nt]? with
   |none=>rw[e]at h2;cases h2
   |some k =>
    rw[e]at h2;have h2':(σ[k]?).getD none=some v:=dq h2;have hs:σ[k]?=some (some v):=by
     cases e3:σ[k]? with
     |none=>rw[e3]at h2';cases h2'
     |some z=>rw[e3]at h2';exact congrArg some h2'
    obtain⟨hX,hl0⟩:=c.cap (i - nt) k x e (by rw[show nt + (i - nt)=i by lia];exact h1);have hf:(x,eK.free)∈sc.names:=hZ hl0;obtain⟨m,_,hl⟩:=I.loc;have hkind:=c.fr _ hf rfl;obtain⟨u,r,l⟩:=hl k x v hX hs (by rcases hkind with q|q;exact .inr (.inl q);exact .inr (.inr q));refine⟨u,r,.inr ⟨?_,?_⟩⟩
    ·have h3':(relabel sc X.env).names.lookup x=some .local∨(relabel sc X.env).names.lookup x=some .cell∨(relabel sc X.env).names.lookup x=some .free:=h3;rcases h3' with q|q|q
     ·obtain⟨k',a1,a2⟩:=nM q;exfalso;rw[hl0]at a1;cases a1;rcases a2 with a2|⟨_,a2⟩ <;> cases a2
     ·exact .inl q
     ·exact .inr q
    ·obtain⟨cc,hcc⟩:=wX (env:=X.env) hf;refine⟨cc,hcc,?_⟩;rcases l with ⟨q,_⟩|⟨_,c2,hc2,z⟩
     ·rcases hkind with q'|q' <;> (rw[q]at q';cases q')
     ·rw[clX hcc]at hc2;cases hc2;obtain⟨o,ho,hd⟩:=z;exact⟨o,hk _ _ ho,hd⟩
 ·obtain⟨v,o,ho,hd⟩:=I.cell x a (clX ha);exact⟨v,o,hk _ _ ho,hd⟩
 ·rw[kC]at hp;obtain⟨e,n,ne,nf,d⟩:=I.pin p hp;exact⟨hk _ _ e,n,bP (bu e),stk _ ne nf,d⟩
 ·unfold rZ;rw[eR,oo,cb];exact c.len.symm
end
def Yl(K:aw)(J:It)(ds:List D)(G:Hp):Prop:=∀(i:Nat) (G1 H1:Hp),Same G G1->Ext G1 H1 G1 H1 ->
 (∀d,ds[i]?=some d->J.go i H1/\∀x H2,J.yld i H1 x H2->∃G2,Ext G1 H1 G2 H2/\Rep K G2 d x)/\(ds.length<=i->J.stop i H1)
def adS(K:aw)(W:Wi)(σ:St)(G H:Hp)(r:Rs (List D))(R:It->Hp->Prop):Prop :=
 match r with
 | .ok ds=>∀J H' G',Ext G H G' H'->Yl K J ds G'->R J H'
 | .ex c n=>∀H' G',Ext G H G' H'->W c n σ H'
 | .no=>False
def tI(K:aw)(B:Bs)(W:Wi)(f:aK->Rs (List D)):TI:=fun σ H R=>∃ρ G,SR K B σ H ρ G/\adS K W σ G H (f ρ) R
def SI(X:Cx)(B:Bs)(W:Wi)(tg iter:ai)(f:aK->Rs (List D)):Prop:=PI X tg iter (tI X.K B W f)
def asL:D->Rs (List D)
 | .lst ds=>.ok ds
 |_=>.no
def Ga:D->Rs (List D)
 | .tup ds=>.ok ds
 |_=>.no
section
variable{X:Cx}{K:aw}{B:Bs}{W:Wi}{σ:St}{G H:Hp}{ρ:aK}{tg iter:ai}{f:aK->Rs D}
theorem PI.imp{t t':TI}(h:PI X tg iter t)(i:∀σ H R,t' σ H R->t σ H R):PI X tg iter t':=fun pins s σ H R I q=>h pins s σ H R I (i σ H R q)
theorem amO{a:ab}{ds:List D}{vs:List V}(q:ni K G a vs)(r:bN K G ds vs):Yl K (Itt K a) ds G:=by intro i G1 H1 gg e;have q1:=Same.fW e.gh (Same.fW gg q);refine⟨fun d hd=>?_,fun hl=>⟨vs,q1,by rw[<- r.length];exact hl⟩⟩;obtain⟨v,hv,rv⟩:=r.get hd;refine⟨⟨vs,v,q1,hv⟩,fun x H2 y=>?_⟩;obtain⟨e2,y⟩:=y;subst e2;have:=y vs q1;rw[hv]at this;cases this;exact⟨G1,e,rv.mono gg⟩
theorem Kl{as:D->Rs (List D)}{r:Rs D}{R:It->Hp->Prop}{Q:VK}(p:adS K W σ G H (r.bind as) R)(h:∀d v H' G' ds,as d=.ok ds->Ext G H G' H'->Rep K G' d v->(∀J Qn G'',Ext G' H' G'' Qn->Yl K J ds G''->R J Qn)->Q v H')(hn:∀d c n,as d≠.ex c n):Post K W σ G H r Q:=by
 cases r with
 |ok d =>
  intro v H' G' e rv;have p':adS K W σ G H (as d) R:=p;cases e1:as d with
  |ok ds=>rw[e1]at p';exact h d v H' G' ds e1 e rv fun J Qn G'' e' y=>p' J Qn G'' (e.trans e') y
  |ex c n=>exact(hn d c n e1).elim
  |no=>rw[e1]at p';exact p'.elim
 |ex c n=>exact p
 |no=>exact p
theorem ais(hi:SE X B W iter f):SI X B W tg iter (fun ρ=>(f ρ).bind asL):=by
 refine PI.imp (Zx hi) fun σ H R ⟨ρ,G,s,p⟩=>⟨ρ,G,s,Kl p (fun d v H' G' ds e1 e rv k=>?_) (fun d c n z=>by cases d <;> cases z)⟩
 cases d with
 |lst es =>
  cases e1;obtain⟨a,vs,rfl,q,rr⟩:=aY.mp rv;refine⟨a,rfl,⟨vs,e.gh.seq q⟩,k _ H' G' (.refl e.gh e.tp) ?_⟩;intro i G1 H1 gg e';have q1:=e'.gh.seq (gg.seq q);refine⟨fun d hd=>?_,fun hl=>⟨vs,q1,by rw[<- rr.length];exact hl⟩⟩;obtain⟨v,hv,rv⟩:=rr.get hd;refine⟨⟨vs,v,q1,hv⟩,fun x H2 y=>?_⟩;obtain⟨e2,y⟩:=y;subst e2;have:=y vs q1;rw[hv]at this;cases this;exact⟨G1,e',rv.mono gg⟩
 |_=>cases e1
theorem amP(hi:SE X B W iter f):SI X B W tg iter (fun ρ=>(f ρ).bind Ga):=by
 refine PI.imp (adb hi) fun σ H R ⟨ρ,G,s,p⟩=>⟨ρ,G,s,Kl p (fun d v H' G' ds e1 e rv k=>?_) (fun d c n z=>by cases d <;> cases z)⟩
 cases d with
 |tup es =>
  cases e1;obtain⟨a,vs,rfl,q,rr⟩:=bD.mp rv;exact⟨a,rfl,⟨vs,Same.fW e.gh q⟩,k _ H' G' (.refl e.gh e.tp) (amO q rr)⟩
 |_=>cases e1
def abm(ρ:aK):Prop:=∀(i:Nat) (z:Sl),ρ[i]?=some z->z.own=true->False
def vN(h:Tg):Prop:=∀d ρ ρ',abm ρ->h d ρ=some ρ'->abm ρ'
def fY(nt:Nat)(caps:List Nat)(ρ:aK):aK:=i7 nt .no++caps.map fun i=>match ρ[i]? with|some (.fz d)=>.fz d|_=>.no
def jr(h:Tg)(ft:aK->Rs Bool)(fe:aK->Rs D):List D->aK->Rs (List D)
 | [],_=>.ok []
 |d::ds,ρ=>match h d ρ with
  |none=>.no
  |some ρ1=>(ft ρ1).bind fun b=>if b=true then (fe ρ1).bind fun y=>(jr h ft fe ds ρ1).bind fun ys=>.ok (y::ys) else jr h ft fe ds ρ1
theorem qF{nt:Nat}{caps:List Nat}{ρ:aK}:abm (fY nt caps ρ):=fun i z q w=>by
 unfold fY at q;by_cases hi:i < (i7 nt Sl.no).length
 ·rw[i9 hi,mf]at q;split at q <;> cases q;cases w
 ·rw[i8 (by lia),cE]at q;cases e:caps[i - (i7 nt Sl.no).length]? with
  |none=>rw[e]at q;cases q
  |some k =>
   rw[e]at q;have q':(match ρ[k]? with|some (.fz d)=>Sl.fz d|_=>.no)=z:=dq q;split at q' <;> (subst q';cases w)
theorem ait{nt:Nat}{caps:List Nat}{p:ab}(s:SR K B σ H ρ G)(hp:H p=none):SR K ⟨G,H,0⟩ (rZ nt caps σ) (upd H p (.lst [])) (fY nt caps ρ) G:=by
 refine⟨ZJ s.en.gh s.en.tp hp,by simp[rZ,fY],fun i d q=>?_,fun i z q w=>(qF i z q w).elim,fun i j z z' a q w=>(qF i z q w).elim,fun i ds a q=>(qF i _ q rfl).elim,s.co.same (ZJ s.en.gh s.en.tp hp).hh⟩;unfold fY at q;unfold rZ;by_cases hi:i < nt
 ·rw[i9 (by simpa using hi),mf]at q;split at q <;> cases q
 ·rw[i8 (by simpa using hi),cE,oo]at q;rw[i8 (by simpa using hi),cE,oo];cases e:caps[i - nt]? with
  |none=>rw[e]at q;cases q
  |some k =>
   rw[e]at q;have q':(match ρ[k]? with|some (.fz d)=>Sl.fz d|_=>.no)=.fz d:=dq q;cases e2:ρ[k]? with
   |none=>rw[e2]at q';cases q'
   |some z =>
    rw[e2]at q';cases z with
    |fz d' =>
     cases q';obtain⟨v,h1,h2⟩:=s.fz k _ e2;exact⟨v,by simp[h1],h2⟩
    |no=>cases q'
    |ow _=>cases q'
    |od _=>cases q'
    |op _=>cases q'
theorem SR.off{p:ab}{vs us:List V}(s:SR K B σ H ρ G)(hn:abm ρ)(hp:H p=some (.lst vs))(g:G p=none)(b:B.2 p=none):SR K B σ (upd H p (.lst us)) ρ G:=by
 refine⟨⟨s.en.gg,fun c o z=>?_,fun c o z=>?_,fun c xs z=>?_,s.en.nw⟩,s.len,s.fz,fun i z q w=>(hn i z q w).elim,fun i j z z' a q w=>(hn i z q w).elim,fun i ds a q=>(hn i _ q rfl).elim,s.co.upd hp (fun _ z=>by cases z)⟩
 ·rw[bC (bH z b)];exact s.en.hh c o z
 ·rw[bC (bH z g)];exact s.en.gh c o z
 ·by_cases w:c=p
  ·subst w;rw[bF]at z;cases z
  ·rw[bC w]at z;exact s.en.tp c xs z
def cM(h:Tg)(ft:aK->Rs Bool)(fe:aK->Rs D)(nt:Nat)(caps:List Nat)(f:aK->Rs (List D)):aK->Rs D:=fun ρ =>
 (f ρ).bind fun ds=>Di ((jr h ft fe ds (fY nt caps ρ)).bind fun ys=>if ys.length<=1000000 then .ok (.lst ys) else .no)
theorem Km{prog:aE}{w:az}{A:a_}{E:aa->af->Prop}{s:af}{env:Env}{Q:Bool->af->Prop}(h:Q true s) :
  ag (ah prog w) A (forIn ([]:List ai) true fun c r=>if r=true then do let ok <- isTrue c env (ba c env);pure (ForInStep.yield ok) else pure (ForInStep.yield r)) Q E s:=by
 simp only[qV];exact ar h
theorem Ik{elt:ai}{ifs:List ai}{sc:Scope}{pos:Pos}{N:List Str}{nt:Nat}{caps:List Nat}{h:Tg}{ft:aK->Rs Bool}{fe:aK->Rs D}{fi:aK->Rs (List D)}
  (c:vM X sc N nt caps) (hc:X.calm=true) (hnames:∀y∈sc.names,y.2=.local->sc.names.lookup y.1=some .local) (hi:SI X B W tg iter fi) (hno:vN h)
  (ht:∀s₀ H₀ C ex pins B',SG (jH X N s₀ H₀ sc (fX sc X.env) C ex pins) B' tg h)
  (hif:(ifs=[]/\ft=fun _=>.ok true)∨∃c,ifs=[c]/\∀s₀ H₀ C ex pins B',ST (jH X N s₀ H₀ sc (fX sc X.env) C ex pins) B' WF c ft)
  (he:∀s₀ H₀ C ex pins B',SE (jH X N s₀ H₀ sc (fX sc X.env) C ex pins) B' WF elt fe)
  (hs:∀x,hV iter X.env x=pure x)
  {use:Option (aa->Sem Unit)}{QQ:aa->af->Prop}{pins:List (ab×Obj)}{s:af}{σ:St}{H G:Hp}{ρ:aK}(I:Inv X pins σ H s) (sr:SR X.K B σ H ρ G)
  (p:match cM h ft fe nt caps fi ρ with
   | .ok d=>∀(D' C:ab) (H' G':Hp) (s5:af) (fl:Flow),Ext G H G' H'->Rep X.K G' d (.ref D')->(∃m,s5.heap.Ns C m)->qx X pins H' C->(∀h',cS C s5.heap h'->Inv X pins σ H' { s5 with heap:=h' })->q8 (ah X.prog X.w) X.A X.xe use QQ (.ref D') C (.ok fl) s5
   | .ex c n=>∀H' G',Ext G H G' H'->W c n σ H'
   | .no=>False) :
  ag (ah X.prog X.w) X.A (comprehension (.ListComp elt [⟨tg,iter,ifs,0⟩] sc pos) sc X.env (firstIterPos [⟨tg,iter,ifs,0⟩] pos) (newList []) (firstAsync [⟨tg,iter,ifs,0⟩]) (firstIter [⟨tg,iter,ifs,0⟩] X.env) use) QQ X.xe s:=by
 refine wpAny_comprehension_free (use:=use) (cl:=fX sc X.env) rfl hs (rJ (c.cells I)) c.kind hnames ?_;show ag (ah X.prog X.w) X.A (ba iter X.env) _ X.xe s;refine eD (hi pins s σ H (fun J H2=>∃G2 ds,Ext G H G2 H2/\Yl X.K J ds G2/\∃YS,jr h ft fe ds (fY nt caps ρ)=.ok YS/\YS.length<=1000000/\∀(D' C:ab) (H' G':Hp) (s5:af) (fl:Flow),Ext G H G' H'->Rep X.K G' (.lst YS) (.ref D')->(∃m,s5.heap.Ns C m)->qx X pins H' C->(∀h',cS C s5.heap h'->Inv X pins σ H' { s5 with heap:=h' })->q8 (ah X.prog X.w) X.A X.xe use QQ (.ref D') C (.ok fl) s5) I ⟨ρ,G,sr,?_⟩) (fun v s1 h1=>eD h1 (fun itv s2 h2=>?_) fun _ _ z=>z) fun _ _ z=>z
 ·unfold cM at p;cases e:fi ρ with
  |ok ds =>
   rw[e]at p;have p2:match Di ((jr h ft fe ds (fY nt caps ρ)).bind fun ys=>if ys.length<=1000000 then .ok (.lst ys) else .no) with
    | .ok d=>∀(D' C:ab) (H' G':Hp) (s5:af) (fl:Flow),Ext G H G' H'->Rep X.K G' d (.ref D')->(∃m,s5.heap.Ns C m)->qx X pins H' C->(∀h',cS C s5.heap h'->Inv X pins σ H' { s5 with heap:=h' })->q8 (ah X.prog X.w) X.A X.xe use QQ (.ref D') C (.ok fl) s5
    | .ex c n=>∀H' G',Ext G H G' H'->W c n σ H'
    | .no=>False:=p
   refine fun J H' G' x y=>⟨G',ds,x,y,?_⟩
   cases e:jr h ft fe ds (fY nt caps ρ) with
   |ok YS =>
    rw[e]at p2;by_cases hl:YS.length<=1000000
    ·simp only[Rs.bind,if_pos hl,Di]at p2;exact⟨YS,rfl,hl,p2⟩
    ·simp only[Rs.bind,if_neg hl,Di]at p2
   |ex c n=>rw[e]at p2;exact p2.elim
   |no=>rw[e]at p2;exact p2.elim
  |ex c n=>rw[e]at p;exact p
  |no=>rw[e]at p;exact p
 obtain⟨it,fp,tn,J,H2,e,I2,T,st2,f2,G2,ds,x2,yl,YS,hYS,hlen,hQ⟩:=h2;subst e;refine gp (wpAny_newFunctionEnv c.Kh (by intro y hy;simp at hy) (fun h₁ hns₁ hsb₁=>?_) c.kind);have hD2:H2 s2.heap.objs.size=none:=I2.fresh;have I3:=I2.apo (ys:=[]) (its:=[]) (t':=s2.toks) .nil (by simp);have sr2:SR X.K B σ H2 ρ G2:=sr.ext x2;have fpl:∀b∈fp,b < s2.heap.objs.size:=fun b hb=>by obtain⟨o,ho,_⟩:=T.obj 0 _ st2 b hb;exact bu ho
 have hk:∀b o,(s2.heap.push { cls:=.type "list",data:=.seq ([]:List aa).toArray }).get? b=some o->h₁.get? b=some o:=fun b o z =>
  (hsb₁.2 b (bP (bu z))).trans (bX _ z)
 have apx:∀b∈fp,qx X pins (upd H2 s2.heap.objs.size (.lst [])) b/\b < (s2.heap.push { cls:=.type "list",data:=.seq ([]:List aa).toArray }).objs.size:=fun b hb=>by
  obtain⟨g1,g2⟩:=f2 b hb;refine⟨⟨?_,g2⟩,?_⟩
  ·rw[bC (bP (fpl b hb))];exact g1
  ·rw[mI];exact iE (fpl b hb)
 have IY:=WK (h':=h₁) (tk:=s2.toks + ([]:List (Str×aa)).length) c I3 apx hns₁ hk;generalize hC:(s2.heap.push { cls:=.type "list",data:=.seq ([]:List aa).toArray }).objs.size=C at *;have srY:=ait (nt:=nt) (caps:=caps) sr2 hD2;have stk:∀b,b≠X.env.locals->b∉X.fs->b∉pP X.stack:=fun b h1 h2 h3=>(bz.mp (I2.vB b h3)).elim h1 h2;have hCl:s2.heap.objs.size + 1=C:=by rw[<- hC,mI]
 have stat:∀{H':Hp},(∀b∈fp,H' b=none)->∀b∈fp,qx (jH X N { s2 with heap:=s2.heap.push { cls:=.type "list",data:=.seq ([]:List aa).toArray },toks:=s2.toks } (upd H2 s2.heap.objs.size (.lst [])) sc (fX sc X.env) C fp pins) [] H' b:=fun {H'} hn b hb=>by
  obtain⟨_,g2,g3,g4,g5,g6⟩:=f2 b hb;refine⟨hn b hb,?_,stk b g2 g3,.inl hb,fun x a ha=>g5 x a (c.cl I2 ha),fun p hp=>?_⟩
  ·show b≠C;exact bP (hCl▸iE (fpl b hb))
  ·rw[kC]at hp;exact g6 p hp
 let Y:=jH X N { s2 with heap:=s2.heap.push { cls:=.type "list",data:=.seq ([]:List aa).toArray },toks:=s2.toks } (upd H2 s2.heap.objs.size (.lst [])) sc (fX sc X.env) C fp pins
 let D':=s2.heap.objs.size
 let Jn:Nat->af->Prop:=fun n s4=>∃(i:Nat) (ρ':aK) (σ':St) (H' G':Hp) (yds:List D) (yvs:List V) (rest:List D),Inv Y [] σ' H' s4/\tn i s4.heap/\(∀b∈fp,H' b=none)/\SR X.K ⟨G2,H2,0⟩ σ' H' ρ' G'/\abm ρ'/\H' D'=some (.lst yvs)/\G' D'=none /\
  bN X.K G' yds yvs/\i<=ds.length/\n=ds.length - i/\jr h ft fe (ds.drop i) ρ'=.ok rest/\yds++rest=YS
 have loop:∀(n:Nat) (s4:af),Jn n s4->f7 (ah X.prog X.w) X.A (.compLoop (.ListComp elt [⟨tg,iter,ifs,0⟩] sc pos) 0 (.ref it) (.ref D') Y.env) (q8 (ah X.prog X.w) X.A X.xe use QQ (.ref D') C) s4:=by
  intro n0 s40 h0;refine Kg (J:=Jn) ?_ n0 h0;rintro n s4 ⟨i,ρ',σ',H',G',yds,yvs,rest,I4,Il,fr4,sr4,no4,hD4,hG4,ry4,hi4,rfl,hcd,hY⟩;by_cases hlt:i < ds.length
  ·obtain⟨yes,_⟩:=yl i G' H' sr4.en.gg sr4.vD;obtain⟨go,yields⟩:=yes ds[i] (by simp[hlt]);rw[jv hlt]at hcd;unfold jr at hcd;cases eh:h ds[i] ρ' with
   |none=>rw[eh]at hcd;cases hcd
   |some ρ1 =>
    rw[eh]at hcd;dsimp only at hcd;refine je (T.item Y rfl rfl rfl hc i [] s4 σ' H' (fun _ _=>False) I4 (stat fr4) Il go) fun r s5 fH=>?_;obtain⟨u,hr,h5⟩:=fH;subst hr;refine je h5 fun _ s6 fH=>?_;obtain⟨x,H6,I6,r6,y6,st6,fr6⟩:=fH;obtain⟨G6,e6,arT⟩:=yields x H6 y6;have sr6:=sr4.ext e6;have I6':=I6.pinned (stat fr6) (T.obj _ _ st6);refine je (ht _ _ _ _ _ ⟨G2,H2,0⟩ _ s6 σ' H6 x u (fun σ7 H7=>H7=H6/\SR X.K ⟨G2,H2,0⟩ σ7 H6 ρ1 G6) I6' r6 ⟨ρ',G6,ds[i],sr6,arT,ρ1,eh,fun σ7 z=>⟨rfl,z⟩⟩) fun _ s7 fH=>?_;obtain⟨σ7,H7,I7,eH7,sr7⟩:=fH;subst eH7;have no7:=hno _ _ _ no4 eh;have again:∀{σ8:St}{H8:Hp}{s8:af},Inv Y ([]++yO fp s6.heap) σ8 H8 s8->Inv Y [] σ8 H8 s8/\tn (i + 1) s8.heap/\∀b∈fp,H8 b=none:=fun {σ8 H8 s8} I8=>by refine⟨I8.wM,T.keep _ _ _ st6 fun b hb o e=>(I8.pin (b,o) (fq _ (fq _ (qy hb e)))).1,fun b hb=>?_⟩;obtain⟨o,e,d⟩:=T.obj _ _ st6 b hb;exact(I8.pin (b,o) (fq _ (fq _ (qy hb e)))).2.1
    obtain⟨b,hb,hcd⟩:∃b,ft ρ1=.ok b/\(if b=true then (fe ρ1).bind fun y=>(jr h ft fe (ds.drop (i + 1)) ρ1).bind fun ys=>.ok (y::ys) else jr h ft fe (ds.drop (i + 1)) ρ1)=.ok rest:=by
     cases e:ft ρ1 with
     |ok b=>rw[e]at hcd;exact⟨b,rfl,hcd⟩
     |ex c n=>rw[e]at hcd;cases hcd
     |no=>rw[e]at hcd;cases hcd
    have test:ag (ah X.prog X.w) X.A (forIn ifs true fun c r=>if r=true then do let ok <- isTrue c Y.env (ba c Y.env);pure (ForInStep.yield ok) else pure (ForInStep.yield r)) (TP Y ([]++yO fp s6.heap) σ7 fun b' H8=>b'=b/\∃G8,Ext G6 H7 G8 H8) (fun _ _=>False) s7:=by
     rcases hif with ⟨e1,e2⟩|⟨cc,e1,hst⟩
     ·subst e1 e2;cases hb;exact Km ⟨H7,I7,rfl,G6,sr7.vD⟩
     ·subst e1;refine wpAny_tests_one (hst _ _ _ _ _ ⟨G2,H2,0⟩ _ s7 σ7 H7 _ I7 ⟨ρ1,G6,sr7,?_⟩);rw[hb];exact fun H8 G8 e8=>⟨rfl,G8,e8⟩
    refine je test fun ok s8 fH=>?_;obtain⟨H8,I8,eb,G8,e8⟩:=fH;subst eb;have sr8:=sr7.ext e8;have hD8:H8 D'=some (.lst yvs):=e8.hh _ _ (e6.hh _ _ hD4);have hG8:G8 D'=none:=e8.nw _ _ (e6.hh _ _ hD4) (e6.nw _ _ hD4 hG4);have ry8:=(ry4.mono e6.gg).mono e8.gg;cases ok with
    |true =>
     rw[if_pos rfl]at hcd ⊢;obtain⟨y,ys,hy,hys,hr⟩:∃y ys,fe ρ1=.ok y/\jr h ft fe (ds.drop (i + 1)) ρ1=.ok ys/\rest=y::ys:=by
      cases e:fe ρ1 with
      |ok y =>
       rw[e]at hcd;have hcd':((jr h ft fe (ds.drop (i + 1)) ρ1).bind fun ys=>Rs.ok (y::ys))=.ok rest:=hcd;cases e3:jr h ft fe (ds.drop (i + 1)) ρ1 with
       |ok ys=>rw[e3]at hcd';cases hcd';exact⟨y,ys,rfl,rfl,rfl⟩
       |ex c n=>rw[e3]at hcd';cases hcd'
       |no=>rw[e3]at hcd';cases hcd'
      |ex c n=>rw[e]at hcd;cases hcd
      |no=>rw[e]at hcd;cases hcd
     subst hr;refine je (he _ _ _ _ _ ⟨G2,H2,0⟩ _ s8 σ7 H8 (fun v H9=>∃G9,Ext G8 H8 G9 H9/\Rep X.K G9 y v) I8 ⟨ρ1,G8,sr8,?_⟩) fun u9 s9 ⟨v9,H9,I9,r9,G9,e9,arZ⟩=>?_
     ·rw[hy];exact fun v H9 G9 e9 r=>⟨G9,e9,r⟩
     have hD9:=e9.hh _ _ hD8;have hG9:=e9.nw _ _ hD8 hG8;have ryl:=ry8.length;have hYl:yds.length < 1000000:=by have:=congrArg f9 hY;rw[eR,cx]at this;lia
     refine je (Ie (X:=Y) _ s9 σ7 H9 (.ref D') [v9] (.ref D') [u9] (fun _ H10=>H10=upd H9 D' (.lst (yvs++[v9]))) I9 rfl (.cons r9 .nil) ⟨D',yvs,v9,rfl,rfl,hD9,by rw[<- ryl];exact eJ hYl (by rw[d8];decide),rfl⟩) fun _ s10 fH=>?_;obtain⟨_,H10,I10,_,e10⟩:=fH;subst e10;obtain⟨J1,J2,J3⟩:=again I10;refine⟨ds.length - (i + 1),by lia,i + 1,ρ1,σ7,_,G9,yds++[y],yvs++[v9],ys,J1,J2,J3,(sr8.ext e9).off no7 hD9 hG9 hD2,no7,bF,hG9,(ry8.mono e9.gg).append (.one arZ),hlt,rfl,hys,by rw[jS];exact hY⟩
    |false =>
     rw[if_neg (by simp)]at hcd ⊢;obtain⟨J1,J2,J3⟩:=again I8;exact⟨ds.length - (i + 1),by lia,i + 1,ρ1,σ7,H8,G8,yds,yvs,rest,J1,J2,J3,sr8,no7,hD8,hG8,ry8,hlt,rfl,hcd,hY⟩
  ·have ei:i=ds.length:=by lia
   subst ei;obtain⟨_,no⟩:=yl ds.length G' H' sr4.en.gg sr4.vD;rw[qS]at hcd;cases hcd;rw[kC]at hY;subst hY;refine je (T.done Y rfl rfl rfl hc ds.length [] s4 σ' H' (fun _ _=>False) I4 (stat fr4) Il (no (br _))) fun r s5 fH=>?_;obtain⟨hr,I5⟩:=fH;subst hr;obtain⟨m,hm,_⟩:=I5.loc;have ne:∀b o,(s2.heap.push { cls:=.type "list",data:=.seq ([]:List aa).toArray }).get? b=some o->b≠C:=fun b o e z=>by have:=bu e;rw[hC,z]at this;exact ir _ this
   have U:=I5.base;have fC0:H' C=none:=I5.free;have IX:∀h',cS C s5.heap h'->Inv X pins σ H' { s5 with heap:=h' }:=fun h' hs'=>by
    refine I3.call' (ch:=fp) (s':={ s5 with heap:=h' }) I5.os ⟨fun b o e n hb hx=>?_,fun b o e n hb hx=>?_,U.free,fun b o e hx=>?_,U.tups,U.CG,U.Gd⟩ (fun b o e=>?_) I5.bare fun b hb=>?_
    ·exact(hs'.2 b (ne b o e)).trans (U.keep b o e n hb hx)
    ·obtain⟨sl,q⟩:=U.slot b o e n hb hx;exact⟨sl,(hs'.2 b (ne b o e)).trans q⟩
    ·obtain⟨o',q⟩:=U.there b o e hx;exact⟨o',(hs'.2 b (ne b o e)).trans q⟩
    ·have fC:H' C=none:=I5.free;refine(I5.hok b o e).stay (fun c' u' hc' q=>(hs'.2 c' ?_).trans q) (fun _ q=>q) (fun _ _ q=>q) fun _ _ q=>q;rintro rfl;rcases hc' with rfl|hc'
     ·rw[fC]at e;cases e
     ·rw[fC]at hc';cases hc'
    ·obtain⟨_,g2,_,g4,g5,g6⟩:=f2 b hb;exact⟨g4,g2,g5,g6⟩
   refine hQ D' C H' (upd G' D' (.lst yvs)) s5 _ ?_ ?_ ⟨m,hm⟩ (I3.Wr (Nat.le_of_eq hC) fC0) IX
   ·have gg:Same G' (upd G' D' (.lst yvs)):=fun b o z=>by rw[bC (bH z hG4)];exact z
    refine⟨(x2.gg.trans sr4.en.gg).trans gg,x2.hh.trans sr4.en.hh,fun b o z=>?_,fun b xs z=>?_,fun b o z w=>?_⟩
    ·by_cases e:b=D'
     ·subst e;rw[bF]at z;cases z;exact hD4
     ·rw[bC e]at z;exact sr4.en.gh b o z
    ·by_cases e:b=D'
     ·subst e;rw[hD4]at z;cases z
     ·rw[bC e];exact sr4.en.tp b xs z
    ·have z2:=x2.hh b o z;rw[bC (bH z2 hD2)];exact sr4.en.nw b o z2 (x2.nw b o z w)
   ·have gg:Same G' (upd G' D' (.lst yvs)):=fun b o z=>by rw[bC (bH z hG4)];exact z
    exact aY.mpr ⟨D',yvs,rfl,.of bF,ry4.mono gg⟩
 have first:∀tk,Jn ds.length { s2 with heap:=h₁,toks:=tk }:=fun tk=>by have IY':Inv Y [] (rZ nt caps σ) (upd H2 s2.heap.objs.size (.lst [])) { s2 with heap:=h₁,toks:=tk }:=IY.tok tk;refine⟨0,fY nt caps ρ,rZ nt caps σ,upd H2 D' (.lst []),G2,[],[],YS,IY',T.keep _ _ _ st2 fun b hb o e=>hk b o (bX _ e),fun b hb=>(apx b hb).1.1,srY,qF,bF,sr2.en.gh.free hD2,bx.mpr rfl,eC _,rfl,by simpa using hYS,rfl⟩
 exact codeAny_compStart_list (loop _ _ (first _)) (T.self _ 0 _ _ _ (T.keep _ _ _ st2 fun b hb o e=>hk b o (bX _ e)) (loop _ _ (first _)))
theorem aiu{elt:ai}{ifs:List ai}{sc:Scope}{pos:Pos}{N:List Str}{nt:Nat}{caps:List Nat}{h:Tg}{ft:aK->Rs Bool}{fe:aK->Rs D}{fi:aK->Rs (List D)}
  (c:vM X sc N nt caps) (hc:X.calm=true) (hnames:∀y∈sc.names,y.2=.local->sc.names.lookup y.1=some .local) (hi:SI X B W tg iter fi) (hno:vN h)
  (ht:∀s₀ H₀ C ex pins B',SG (jH X N s₀ H₀ sc (fX sc X.env) C ex pins) B' tg h)
  (hif:(ifs=[]/\ft=fun _=>.ok true)∨∃c,ifs=[c]/\∀s₀ H₀ C ex pins B',ST (jH X N s₀ H₀ sc (fX sc X.env) C ex pins) B' WF c ft)
  (he:∀s₀ H₀ C ex pins B',SE (jH X N s₀ H₀ sc (fX sc X.env) C ex pins) B' WF elt fe)
  (hs:∀x,hV iter X.env x=pure x:=by intro _;rfl) :
  SE X B W (.ListComp elt [⟨tg,iter,ifs,0⟩] sc pos) (cM h ft fe nt caps fi):=by
 intro pins s σ H Q I hw;obtain⟨ρ,G,sr,p⟩:=hw;rw[eval_ListComp];refine Ik c hc hnames hi hno ht hif he hs I sr ?_;cases e:cM h ft fe nt caps fi ρ with
 |ok d =>
  rw[e]at p;intro D' C H' G' s5 fl x r ⟨m,hm⟩ _ IX;exact⟨m,hm,fun h' hs'=>⟨.ref D',H',IX h' hs',rfl,p _ _ _ x r⟩⟩
 |ex c n=>rw[e]at p;exact p
 |no=>rw[e]at p;exact p
theorem Dj{i:Nat}{y:Str}{py spos:Pos}{elt:ai}{ifs:List ai}{sc:Scope}{pos:Pos}{N:List Str}{nt:Nat}{caps:List Nat}{h:Tg}{ft:aK->Rs Bool}{fe:aK->Rs D}{fi:aK->Rs (List D)}
  (hN:X.N.Nodup) (hi':X.N[i]?=some y) (hx:Wm X.env.scope y)
  (c:vM X sc N nt caps) (hc:X.calm=true) (hnames:∀y∈sc.names,y.2=.local->sc.names.lookup y.1=some .local) (hi:SI X B W tg iter fi) (hno:vN h)
  (ht:∀s₀ H₀ C ex pins B',SG (jH X N s₀ H₀ sc (fX sc X.env) C ex pins) B' tg h)
  (hif:(ifs=[]/\ft=fun _=>.ok true)∨∃c,ifs=[c]/\∀s₀ H₀ C ex pins B',ST (jH X N s₀ H₀ sc (fX sc X.env) C ex pins) B' WF c ft)
  (he:∀s₀ H₀ C ex pins B',SE (jH X N s₀ H₀ sc (fX sc X.env) C ex pins) B' WF elt fe)
  (hs:∀x,hV iter X.env x=pure x) (hsw:fm (.ListComp elt [⟨tg,iter,ifs,0⟩] sc pos) (some (.Name y py)) spos.line X.env=pure true)
  (hf:X.fn y=true∨X.env.scope.names.lookup y=some .local) :
  SS X B W (.Assign [.Name y py] (.ListComp elt [⟨tg,iter,ifs,0⟩] sc pos) spos) (fun ρ=>oR (cM h ft fe nt caps fi ρ) ρ fun d=>.nx (ρ.set i (.fz d))):=by
 intro pins s σ H De I hw;obtain⟨ρ,G,sr,p⟩:=hw;dsimp only at p;rw[exec_Assign_Name_used _ _ _ _ hsw];refine ae (vt (ae ?_));show ag _ X.A (do let _ <- comprehension (.ListComp elt [⟨tg,iter,ifs,0⟩] sc pos) sc X.env _ (newList []) _ _ (some (assign (.Name y py) X.env))) _ _ s;refine ae (eD (Ik (QQ:=fun _ s'=>_) c hc hnames hi hno ht hif he hs I sr ?_) (fun _ s' hq=>ar (ar hq)) fun _ _ e=>e);cases e:cM h ft fe nt caps fi ρ with
 |ok d =>
  rw[e]at p;intro D' C H' G' s5 fl x r ⟨m,hm⟩ fp IX;have I5:Inv X pins σ H' s5:=IX s5.heap (iF C s5.heap);refine wpAny_assign_Name (HS I5 hN hi' hx (show RelV (.ref D') (.ref D') from rfl) (fun s6 I6 ⟨a,hs6,ha⟩=>?_) hf);have hCa:C≠a:=by
   rcases ha with rfl|ha
   ·exact fp.2.1
   ·exact de (fp.2.2.2.2.1 _ _ ha)
  refine⟨m,hm.sameBut hs6 hCa,fun h' hs'=>?_⟩;exact⟨_,H',I6.turned (t':=s6.toks) (fun b o hb e=>(hs'.2 b hb).trans e) fp.1 fp.2.1 fp.2.2.2.1 fp.2.2.2.2.1 fp.2.2.2.2.2,p _ _ G' ((sr.ext x).set r) x.gg⟩
 |ex c n=>rw[e]at p;exact fun H' G' x=>p σ H' G' (sr.ext x) x.gg
 |no=>rw[e]at p;exact p
end
section
variable{X:Cx}{K:aw}{B:Bs}{W:Wi}{σ:St}{G H:Hp}{ρ:aK}{a b:ai}{pos p:Pos}{fa fb:aK->Rs D}
def apz(K:aw)(n:Nat):R2:=fun x y H Q=>∃d d',Rep K H d x/\Rep K H d' y/\cR d<=n/\cR d'<=n/\Q (.bl (qC d d')) H
def apA(K:aw)(n:Nat):R2:=fun x y H Q=>∃d d',Rep K H d x/\Rep K H d' y/\cR d<=n/\cR d'<=n/\Q (.bl (!qC d d')) H
theorem adT{n:Nat}(hu:X.A.units + n < be):uU X (fx .Eq) (apz X.K n):=by intro pins s σ H x y v u Q I rx ry ⟨d,d',r,r',hd,hd',q⟩;exact amw I hd hd' hu r r' rx ry X.prog X.w X.xe _ ⟨.bl _,H,I,rfl,q⟩
theorem adU{n:Nat}(hu:X.A.units + n < be):uU X (fx .NotEq) (apA X.K n):=by intro pins s σ H x y v u Q I rx ry ⟨d,d',r,r',hd,hd',q⟩;exact adA I hd hd' hu r r' rx ry X.prog X.w X.xe _ ⟨.bl _,H,I,rfl,q⟩
def wY:D->D->Rs D:=fun x y=>if cR x<=8/\cR y<=8 then .ok (.bl (qC x y)) else .no
def WL:D->D->Rs D:=fun x y=>if cR x<=8/\cR y<=8 then .ok (.bl (!qC x y)) else .no
theorem adV:Wy K (apz K 8) wY:=by
 intro B W σ ρ G H x y v u Q s rx ry p;unfold wY at p;by_cases h:cR x<=8/\cR y<=8
 ·rw[if_pos h]at p;exact⟨x,y,rx.mono s.en.gh,ry.mono s.en.gh,h.1,h.2,Post.ok s p (bQ.mpr rfl)⟩
 ·rw[if_neg h]at p;exact p.elim
theorem adW:Wy K (apA K 8) WL:=by
 intro B W σ ρ G H x y v u Q s rx ry p;unfold WL at p;by_cases h:cR x<=8/\cR y<=8
 ·rw[if_pos h]at p;exact⟨x,y,rx.mono s.en.gh,ry.mono s.en.gh,h.1,h.2,Post.ok s p (bQ.mpr rfl)⟩
 ·rw[if_neg h]at p;exact p.elim
theorem dR{k:Nat}(hr:pB k X.A):X.A.units + 8 < be:=by have:=hr.un;lia
theorem adX(hu:X.A.units + 8 < be)(ha:SE X B W a fa)(hb:SE X B W b fb):SE X B W (.Compare a [.Eq] [b] pos) (bJ wY fa fb):=Wz (adT hu) adV ha hb (vC _)
theorem alg(hu:X.A.units + 8 < be)(ha:SE X B W a fa)(hb:SE X B W b fb):SE X B W (.Compare a [.NotEq] [b] pos) (bJ WL fa fb):=Wz (adU hu) adW ha hb (vC _)
theorem Al(hu:X.A.units + 8 < be)(ha:SE X B W a fa)(hb:SE X B W b fb):ST X B W (.Compare a [.Eq] [b] pos) (fT (bJ wY fa fb)):=qD (adT hu) adV ha hb (vC _)
theorem adY(hu:X.A.units + 8 < be)(ha:SE X B W a fa)(hb:SE X B W b fb):ST X B W (.Compare a [.NotEq] [b] pos) (fT (bJ WL fa fb)):=qD (adU hu) adW ha hb (vC _)
def gLt:=gI0 fun i j=>D.bl (decide (i < j))
def gLe:=gI0 fun i j=>D.bl (decide (i<=j))
def gGt:=gI0 fun i j=>D.bl (decide (j < i))
def gGe:=gI0 fun i j=>D.bl (decide (j<=i))
theorem apB(ha:SE X B W a fa)(hb:SE X B W b fb):ST X B W (.Compare a [.Lt] [b] pos) (fT (bJ gLt fa fb)):=qD apd (JX fun _ _ _=>bQ.mpr rfl) ha hb (vC _)
theorem Qy(ha:SE X B W a fa)(hb:SE X B W b fb):ST X B W (.Compare a [.Gt] [b] pos) (fT (bJ gGt fa fb)):=qD ape (JX fun _ _ _=>bQ.mpr rfl) ha hb (vC _)
theorem alh(ha:SE X B W a fa)(hb:SE X B W b fb):ST X B W (.Compare a [.GtE] [b] pos) (fT (bJ gGe fa fb)):=qD apf (JX fun _ _ _=>bQ.mpr rfl) ha hb (vC _)
inductive Ty where
 |int|bool|str|tuple|list|dict
def apC:List D->Option (List Bool)
 | []=>some []
 | .bl b::ds=>(apC ds).map (b::·)
 |_=>none
end
theorem Inv.moved{X:Cx}{pins:List (ab×Obj)}{σ:St}{H:Hp}{s:af}{h':Heap}{t':Nat}(I:Inv X pins σ H s)(ch:List ab)
  (hch:∀b∈ch,X.s₀.heap.get? b=none/\b≠X.env.locals/\(∀x c,X.env.cells.lookup x=some c->c≠b)/\(∀p∈X.pn++pins,p.1≠b)/\H b=none)
  (keep:∀b o,b∉pP X.stack->b∉ch->s.heap.get? b=some o->h'.get? b=some o)
  (slot:∀b o,b∈pP X.stack->s.heap.get? b=some o->∃sl,h'.get? b=some { o with slots:=sl }):Inv X pins σ H { s with heap:=h',toks:=t' }:=by
 have sub:=I.vB;have sup:∀b∈X.fs,b∈pP X.stack:=fun b hb=>by
  rcases I.ok.stk with e|⟨e,hf⟩
  ·rw[e];exact hb
  ·rw[e];unfold pP;rw[lT,hf];exact dQ _ hb
 have neL:∀b o,X.s₀.heap.get? b=some o->b≠X.env.locals:=fun b o e=>bP (eJ (bu e) I.ok.above);have nch:∀b o,X.s₀.heap.get? b=some o->b∉ch:=fun b o e z=>by rw[(hch b z).1]at e;cases e
 have any:∀b o,b∉ch->s.heap.get? b=some o->∃sl,h'.get? b=some { o with slots:=sl }:=fun b o hc e=>by
  by_cases hb:b∈pP X.stack
  ·exact slot b o hb e
  ·exact⟨o.slots,keep b o hb hc e⟩
 have lch:X.env.locals∉ch:=fun z=>(hch _ z).2.1 rfl;have cch:∀x c,X.env.cells.lookup x=some c->c∉ch:=fun x c e z=>(hch c z).2.2.1 x c e rfl;have cellK:∀x c v,X.env.cells.lookup x=some c->s.heap.IsCell c v->h'.IsCell c v:=fun x c v e ⟨o,ho,hd⟩=>by obtain⟨sl,q⟩:=any c o (cch x c e) ho;exact⟨_,q,hd⟩
 refine⟨I.ok,I.os,I.bare,⟨fun b o e n hb hx=>?_,fun b o e n hb hx=>?_,I.base.free,fun b o e hx=>?_,I.base.tups,I.base.CG,I.base.Gd⟩,?_,fun x c e=>?_,I.free,I.rH,fun p hp=>?_,fun b o e=>?_,I.len⟩
 ·exact keep b o (fun z=>(bz.mp (sub b z)).elim (neL b o e) hb) (nch b o e) (I.base.keep b o e n hb hx)
 ·obtain⟨sl,q⟩:=I.base.slot b o e n hb hx;obtain⟨sl',q'⟩:=slot b _ (sup b hb) q;exact⟨sl',q'⟩
 ·obtain⟨o',q⟩:=I.base.there b o e hx;obtain⟨sl,q'⟩:=any b o' (nch b o e) q;exact⟨_,q'⟩
 ·obtain⟨m,⟨o,es,ep,ho,r⟩,hl⟩:=I.loc;obtain⟨sl,q⟩:=any _ o lch ho;refine⟨m,⟨_,es,ep,q,r⟩,fun i x v h1 h2 h3=>?_⟩;obtain⟨u,ru,l⟩:=hl i x v h1 h2 h3;refine⟨u,ru,?_⟩;rcases l with l|⟨k,c,e,z⟩
  ·exact .inl l
  ·exact .inr ⟨k,c,e,cellK x c _ e z⟩
 ·obtain⟨v,z⟩:=I.cell x c e;exact⟨v,cellK x c v e z⟩
 ·obtain⟨e,n,ne,nf,d⟩:=I.pin p hp;exact⟨keep _ _ (fun z=>(bz.mp (sub _ z)).elim ne nf) (fun z=>(hch _ z).2.2.2.1 p hp rfl) e,n,ne,nf,d⟩
 ·have tr:∀c u,H c=some u->c∉pP X.stack/\c∉ch:=fun c u z=>⟨fun w=>(by rw[I.Ca c w]at z;cases z),fun w=>(by rw[(hch c w).2.2.2.2]at z;cases z)⟩
  refine(I.hok b o e).stay (fun c u hc q=>?_) (fun _ q=>q) (fun _ _ q=>q) fun _ _ q=>q;rcases hc with hc|hc
  ·subst hc;exact keep c u (tr c _ e).1 (tr c _ e).2 q
  ·exact keep c u (tr c _ hc).1 (tr c _ hc).2 q
def Tr(h:Heap)(H:Hp)(old:Heap)(av:List ab)(ea:ab)(vs:Array aa):Prop:=∃T oT ts,vs[1]?=some (.ref T)/\T≠ea/\h.get? T=some oT/\oT.data=.fields ts/\ts[3]?=some .none/\H T=none/\old.get? T=none/\T∉av
def Fly(K:aw)(old:Heap)(av:List ab)(ea:ab)(c:Str)(n:Int)(h:Heap)(H:Hp)(tr:Bool):Prop :=
 ∃C oe vs a0,qB K bS c=some (some (.ref C))/\h.get? ea=some oe/\oe.cls=.ref C/\oe.data=.fields vs/\vs[0]?=some a0/\H ea=none/\old.get? ea=none/\ea∉av/\n=0 /\
  (if tr=true then Tr h H old av ea vs else vs[1]?=some .none)
def WM(P:aE)(w:az)(K:aw):CXT:=fun outer H s E e s'=>∃ea c n H',e=.ref ea/\s'.os=s.os/\q9 s'.gens/\Un (pP outer) [] H H' s.heap s'.heap/\yL P w H' s'.heap/\Fly K s.heap [] ea c n s'.heap H' true/\E (Ij c n) none H'
def ali(X:Cx)(W:Wi):Prop:=∀pins σ H s ea c n tr,Inv X pins σ H s->Fly X.K X.s₀.heap ((X.pn++pins).map (·.1)) ea c n s.heap H tr->W c n σ H->X.xe (.ref ea) s
section
variable{X:Cx}{pins:List (ab×Obj)}{σ:St}{H:Hp}{s:af}{ea:ab}{c:Str}{n:Int}{tr:Bool}
theorem amQ(I:Inv X pins σ H s){b:ab}{o:Obj}{vs:Array aa}(e:s.heap.get? b=some o)(d:o.data=.fields vs)(hold:X.s₀.heap.get? b=none)(hn:H b=none)(hp:∀p∈X.pn++pins,p.1≠b) :
  X.s₀.heap.get? b=none/\b≠X.env.locals/\(∀x c,X.env.cells.lookup x=some c->c≠b)/\(∀p∈X.pn++pins,p.1≠b)/\H b=none:=by
 refine⟨hold,fun z=>?_,fun x c hc z=>?_,hp,hn⟩
 ·obtain⟨m,⟨o',es,ep,ho,hd,_⟩,_⟩:=I.loc;rw[<- z,e]at ho;cases ho;rw[d]at hd;cases hd
 ·obtain⟨v,o',ho,hd⟩:=I.cell x c hc;rw[z,e]at ho;cases ho;rw[d]at hd;cases hd
theorem WQ{P:aE}{w:az}{H:Hp}{h:Heap}{a:ab}{o:HO}(x:dY P w H h a o):∃u,h.get? a=some u:=by
 induction o with
 |lst xs=>obtain⟨z,its,n,r,e⟩:=x;exact⟨_,e⟩
 |tup xs=>obtain⟨z,its,r,ob,e,c⟩:=x;exact⟨_,e⟩
 |dK kvs=>obtain⟨z,y,vs,r,ob,es,ep,e,c⟩:=x;exact⟨_,e⟩
 |dT kvs=>obtain⟨z,y,xs,r,ob,es,ep,e,c⟩:=x;exact⟨_,e⟩
 |set S n=>obtain⟨ob,es,ep,t,e,c⟩:=x;exact⟨_,e⟩
 |ins C dx fs=>obtain⟨d,z,ne,e,_⟩:=x;exact⟨_,e⟩
 |own y=>obtain⟨ob,e⟩:=x;exact⟨_,e⟩
 |xd fs=>obtain⟨mA,⟨od,es,ep,e,c⟩,r⟩:=x;exact⟨_,e⟩
 |rng lo hi=>obtain⟨t,u,v,e⟩:=x;exact⟨_,e⟩
 |Ak ob u ih=>obtain⟨e,q⟩:=x;exact⟨_,e⟩
 |tbl ps=>exact⟨_,(show h.get? a=some { cls:=.none,data:=.fields ps } from x)⟩
 |tab q=>obtain⟨_,e,_⟩:=x;exact⟨_,e⟩
 |Qd q=>obtain⟨_,_,_,e,_⟩:=x;exact⟨_,e⟩
 |met f y=>exact⟨_,(show h.get? a=some (qi (.ref f) (.ref y)) from x)⟩
 |ext φ=>obtain⟨p,⟨o,e⟩,st⟩:=x;exact⟨_,e⟩
theorem abn(I:Inv X pins σ H s){ch:List ab}{h':Heap}{t':Nat}(hch:∀b∈ch,∃o vs,s.heap.get? b=some o/\o.data=.fields vs/\X.s₀.heap.get? b=none/\H b=none/\b∉(X.pn++pins).map (·.1))
  (st:(kA s.heap (pP X.stack++ch)).StaysIn h') (up:s.heap.UpToSlots h'):Inv X pins σ H { s with heap:=h',toks:=t' }:=by
 refine Inv.moved I ch (fun b hb=>?_) (fun b o h1 h2 e=>st b o (vk _ e (by rw[d9];exact fun z=>z.elim h1 h2))) (fun b o hb e=>?_)
 ·obtain⟨o,vs,e,d,h1,h2,h3⟩:=hch b hb;exact amQ I e d h1 h2 fun p hp z=>h3 (b0.mpr ⟨p,hp,z⟩)
 ·obtain⟨_,o',ho,hnf⟩:=I.stack.mem hb;rw[e]at ho;cases ho;exact up b o e hnf
theorem aiv(I:Inv X pins σ H s)(hex:X.ex=[]){ch:List ab}{h':Heap}{T:ab}{oT:Obj}{ts:Array aa}(hch:∀b∈ch,∃o vs,s.heap.get? b=some o/\o.data=.fields vs/\X.s₀.heap.get? b=none/\H b=none/\b∉(X.pn++pins).map (·.1))
  (up:s.heap.UpToSlots h') (hT:h'.get? T=some oT) (dT:oT.data=.fields ts) (hn:(kA s.heap (pP X.stack++ch)).get? T=none) :
  H T=none/\X.s₀.heap.get? T=none/\T∉(X.pn++pins).map (·.1):=by
 by_cases hc:T∈ch
 ·obtain⟨o,vs,e,d,h1,h2,h3⟩:=hch T hc;exact⟨h2,h1,h3⟩
 have hf:T∉pP X.stack:=fun z=>by obtain⟨_,o',ho,hnf⟩:=I.stack.mem z;obtain⟨sl,q⟩:=up T o' ho hnf;rw[hT]at q;cases q;exact hnf ts dT
 have hs:s.heap.get? T=none:=by
  cases e:s.heap.get? T with
  |none=>rfl
  |some o=>rw[vk _ e (by rw[d9];exact fun z=>z.elim hf hc)]at hn;cases hn
 refine⟨?_,?_,fun z=>?_⟩
 ·cases e:H T with
  |none=>rfl
  |some u =>
   obtain⟨o,z⟩:=WQ (I.hok T u e);rw[hs]at z;cases z
 ·cases e:X.s₀.heap.get? T with
  |none=>rfl
  |some o =>
   obtain⟨o',q⟩:=I.base.there T o e (by rw[hex];simp);rw[hs]at q;cases q
 ·obtain⟨p,hp,e⟩:=b0.mp z;have:=(I.pin p hp).1;rw[e,hs]at this;cases this
end
section
variable{X:Cx}{pins:List (ab×Obj)}{σ:St}{H:Hp}{s:af}{ea:ab}{c:Str}{n:Int}{tr:Bool}
theorem amR(I:Inv X pins σ H s)(F:Fly X.K X.s₀.heap ((X.pn++pins).map (·.1)) ea c n s.heap H tr) :
  ∃ch:List ab,ea∈ch/\(∀b∈ch,∃o vs,s.heap.get? b=some o/\o.data=.fields vs/\X.s₀.heap.get? b=none/\H b=none/\b∉(X.pn++pins).map (·.1)) /\
   ∃C oe vs a0,qB X.K bS c=some (some (.ref C))/\s.heap.get? ea=some oe/\oe.cls=.ref C/\oe.data=.fields vs/\vs[0]?=some a0/\n=0/\X.s₀.heap.get? ea=none/\H ea=none/\ea∉(X.pn++pins).map (·.1) /\
    (if tr=true then ∃T oT ts,vs[1]?=some (.ref T)/\T∈ch/\T≠ea/\s.heap.get? T=some oT/\oT.data=.fields ts/\ts[3]?=some .none else vs[1]?=some .none):=by
 obtain⟨C,oe,vs,a0,h1,h2,h3,h4,h5,h6,h7,h8,h9,h10⟩:=F;cases tr with
 |false =>
  refine⟨[ea],by simp,fun b hb=>?_,C,oe,vs,a0,h1,h2,h3,h4,h5,h9,h7,h6,h8,h10⟩;obtain rfl:b=ea:=by simpa using hb
  exact⟨oe,vs,h2,h4,h7,h6,h8⟩
 |true =>
  rw[if_pos rfl]at h10;obtain⟨T,oT,ts,t1,t2,t3,t4,t5,t6,t7,t8⟩:=h10;refine⟨[ea,T],by simp,fun b hb=>?_,C,oe,vs,a0,h1,h2,h3,h4,h5,h9,h7,h6,h8,?_⟩
  ·rcases bz.mp hb with rfl|hb
   ·exact⟨oe,vs,h2,h4,h7,h6,h8⟩
   ·obtain rfl:b=T:=by simpa using hb
    exact⟨oT,ts,t3,t4,t7,t6,t8⟩
  ·rw[if_pos rfl];exact⟨T,oT,ts,t1,by simp,t2,t3,t4,t5⟩
theorem aiw{M:Model}{Q:Unit->af->Prop}{E:aa->af->Prop}{outer:List Env}{L:ab}(hst:X.stack=X.env::outer)(hf:X.env.frame=some L)(hex:X.ex=[])(I:Inv X pins σ H s)(F:Fly X.K X.s₀.heap ((X.pn++pins).map (·.1)) ea c n s.heap H tr)
  (hQ:∀h',Inv X pins σ H { s with heap:=h' }->Fly X.K X.s₀.heap ((X.pn++pins).map (·.1)) ea c n h' H true->Q () { s with heap:=h' }):ag M X.A (leaving X.env (.ref ea)) Q E s:=by
 obtain⟨ch,he,hch,C,oe,vs,a0,h1,h2,h3,h4,h5,h9,h7,h6,h8,h10⟩:=amR I F;have hfr:X.A.frames=some (X.env::outer):=by rw[<- hst];exact I.ok.frames
 have hl:s.heap.FunFrames (kA s.heap (pP X.stack++ch)) (X.env::outer):=by have:=PySem.W.funFrames_hide (as:=pP X.stack++ch) I.stack fun env he b hb=>l5 _ (kb.mpr ⟨env,he,hb⟩);rw[hst]at this ⊢;exact this
 have hkb:(kA s.heap (pP X.stack++ch)).StaysIn s.heap:=fun b o e=>PySem.W.of_hideAll _ e;have hn:∀b∈ch,(kA s.heap (pP X.stack++ch)).get? b=none:=fun b hb=>PySem.W.hideAll_none _ (fq _ hb);have dZ:∀h',(kA s.heap (pP X.stack++ch)).StaysIn h'->h'.TracedW (kA s.heap (pP X.stack++ch)) ea oe.cls a0->s.heap.UpToSlots h'->Q () { s with heap:=h' }:=fun h' k1 k2 k3=>by have I':=abn (t':=s.toks) I hch k1 k3;obtain⟨oe',vs',T,oT,ts,e1,⟨e2,e3⟩,e4,e5,e6,e7,e8,e9,e10⟩:=k2;obtain⟨n1,n2,n3⟩:=aiv I hex hch k3 e8 e9 e6;refine hQ h' I' ⟨C,oe',vs',a0,h1,e1,e2.trans h3,e4,e3,h6,h7,h8,h9,?_⟩;rw[if_pos rfl];exact⟨T,oT,ts,e5,e7,e8,e9,e10,n1,n2,n3⟩
 cases tr with
 |false =>
  rw[if_neg (by decide)]at h10;exact wpAny_leaving_firstW hfr hl hf h2 hkb (hn _ he) h4 h10 h5 fun h' ⟨k1,_,k2,k3⟩=>dZ h' k1 k2 k3
 |true =>
  rw[if_pos rfl]at h10;obtain⟨T,oT,ts,t1,t0,t2,t3,t4,t5⟩:=h10;exact wpAny_leaves_onW hfr hf ⟨hkb,hn _ he,hl,oe,vs,T,oT,ts,h2,⟨rfl,h5⟩,h4,t1,hn _ t0,t2,t3,t4,t5⟩ fun h' ⟨k1,_,_,k2⟩ k3=>dZ h' k1 k2 k3
end
section
variable{P:aE}{w:az}{K:aw}{mg:Str->Option aa}{base:Heap}{x qual:Str}{st:bj}{f:ab}{fd:cq}{N ps:List Str}{k:Nat}
theorem yU{scope:Scope}{cdv:aa}{A:a_}{outer:List Env}{s:af}{H:Hp}{E:XK}:ali (yP (WM P w K) P w K mg base N qual scope f cdv A outer s H E) (fun c n _ H'=>E (Ij c n) none H'):=by intro pins σ H1 s1 ea c n tr I F w1;refine aiw (L:=s.heap.objs.size) (outer:=outer) rfl rfl rfl I F fun h' I' F'=>?_;obtain⟨C,oe,vs,a0,h1,h2,h3,h4,h5,h6,h7,h8,h9,h10⟩:=F';refine⟨ea,c,n,H1,rfl,I'.os,I'.bare,I'.base,I'.hok,⟨C,oe,vs,a0,h1,h2,h3,h4,h5,h6,h7,by simp,h9,?_⟩,w1⟩;rw[if_pos rfl]at h10 ⊢;obtain⟨T,oT,ts,t1,t2,t3,t4,t5,t6,t7,t8⟩:=h10;exact⟨T,oT,ts,t1,t2,t3,t4,t5,t6,t7,by simp⟩
end
theorem aix{a b:Int}(h:zig a=zig b):a=b:=by unfold zig at h;split at h <;> split at h <;> lia
theorem aiy{c c':Str}{n n':Int}(h:Ij c n=Ij c' n'):c=c'/\n=n':=by unfold Ij at h;injection h with h1 h2;exact⟨h1,aix h2⟩
def Dl(X:Cx)(W:Wi):Prop:=∀(pins:List (ab×Obj)) (σ:St) (H:Hp) (s:af) (e:aa) (s':af),Inv X pins σ H s ->
 WM X.prog X.w X.K X.stack H s (fun v _ H'=>∃c n,v=Ij c n/\W c n σ H') e s'->X.xe e s'
theorem dI{X:Cx}:Dl X WF:=fun pins σ H s e s' I ⟨ea,c,n,H',_,_,_,_,_,_,_,_,_,w⟩=>w.elim
theorem Dm{X:Cx}{W:Wi}(hp:ali X W)(hex:X.ex=[]):Dl X W:=by
 intro pins σ H s e s' I ⟨ea,c,n,H',e1,os,bare,un,hok,F,c0,n0,e2,w⟩;subst e1;obtain⟨rfl,rfl⟩:=aiy e2;have I':Inv X pins σ H' s':=I.call' (ch:=[]) os un hok bare (fun b z=>absurd z (by simp));obtain⟨C,oe,vs,a0,h1,h2,h3,h4,h5,h6,h7,h8,h9,h10⟩:=F;have old:∀b,s.heap.get? b=none->X.s₀.heap.get? b=none:=fun b hb=>by
  cases q:X.s₀.heap.get? b with
  |none=>rfl
  |some o =>
   obtain⟨o',z⟩:=I.base.there b o q (by rw[hex];simp);rw[hb]at z;cases z
 have apE:∀b,s.heap.get? b=none->b∉(X.pn++pins).map (·.1):=fun b hb z=>by obtain⟨p,hp,e⟩:=b0.mp z;have:=(I.pin p hp).1;rw[e,hb]at this;cases this
 refine hp pins σ H' s' ea c n true I' ⟨C,oe,vs,a0,h1,h2,h3,h4,h5,h6,old _ h7,apE _ h7,h9,?_⟩ w;rw[if_pos rfl]at h10 ⊢;obtain⟨T,oT,ts,t1,t2,t3,t4,t5,t6,t7,t8⟩:=h10;exact⟨T,oT,ts,t1,t2,t3,t4,t5,t6,old _ t7,apE _ t7⟩
section
variable{P:aE}{w:az}{K:aw}{mg:Str->Option aa}{base:Heap}{x qual:Str}{st:bj}{f:ab}{fd:cq}{N ps:List Str}{k:Nat}
theorem apF{g:aK->Ou}(F:ur K x qual st f fd)(S:bR N ps (aG st))
  (hb:∀(cdv:aa) (A:a_) (outer:List Env) (s:af) (H:Hp) (E:XK) (B:Bs),pB k (A.deeper (q_ qual (aG st) s.heap.objs.size f cdv)) ->
   yS (yP (WM P w K) P w K mg base N qual (aG st) f cdv A outer s H E) B (fun c n _ H'=>E (Ij c n) none H') (bG st) g) :
  Wv P w K mg base (WM P w K) (k + 1) f fd ps (spV K ps.length fun ds=>dZ (g (aZ N ds))):=by
 obtain⟨oc,od,kV,doc,pm,an,cdv,ct,osl,rfl,lk,hcd⟩:=F.ex;refine ala lk hcd S (fun vs H Q E h=>h.1) fun A outer s H vs Q E hr h=>?_;obtain⟨_,G,ds,e,r,h⟩:=h;dsimp only at h;exact⟨_,hb cdv A outer s H E ⟨G,H,0⟩ hr,aZ N ds,G,Qw e r,Qx (B:=⟨G,H,0⟩) h⟩
end
def bA(n:Nat)(g:List D->Rs D):List D->Rs D:=fun ds=>if ds.length=n then g ds else .no
section
variable{X:Cx}{B:Bs}{W:Wi}
theorem aiz{x:Str}{p pos:Pos}{e:ai}{es:List ai}{fs:aK->Rs (List D)}{f:ab}{fd:cq}{ps:List Str}{k n:Nat}{g:List D->Rs D}(F:Wv X.prog X.w X.K X.mg X.base (WM X.prog X.w X.K) k f fd ps (spV X.K n g))(hr:pB k X.A)(hg:Gl X x)(hm:X.mg x=some (.ref f))(hk:kc X.K (.ref f)=true)(hb:Binds X.K fd ps [])
  (hx:Dl X W) (ha:SA X B W (e::es) fs) (hdb:(x == ("__debug__":Str))=false:=by decide) (he:bo (e::es) X.env=(false,ba e X.env)::bo es X.env:=by rfl) (hpl:(d6 pos (bo es X.env)).any (·.1)=false:=by rfl) :
  SE X B W (.Call (.Name x p) (e::es) [] pos) (fA fs (bA n g)):=by
 intro pins s σ H Q I h;refine qr (ahQ I hg hm ?_ hdb);have h2:tAF X.K B W fs σ H fun vs H1=>spV X.K n g vs H1 Q fun v _ H'=>∃c n,v=Ij c n/\W c n σ H':=by
  obtain⟨ρ,G,s,p⟩:=h;refine⟨ρ,G,s,?_⟩;unfold fA at p;cases e:fs ρ with
  |ex c n=>rw[e]at p;exact p
  |no=>rw[e]at p;exact p
  |ok ds =>
   rw[e]at p;intro vs H1 G1 x r;have p:=Post.ext x p;unfold bA at p;dsimp only[Rs.bind]at p;by_cases hl:ds.length=n
   ·rw[if_pos hl]at p;refine⟨by rw[<- r.length];exact hl,G1,ds,(s.ext x).ex0,r,?_⟩;cases e1:g ds with
    |ok d=>rw[e1]at p;exact p
    |ex c n=>rw[e1]at p;exact fun H' G' y=>⟨c,n,rfl,p H' G' y⟩
    |no=>rw[e1]at p;exact p.elim
   ·rw[if_neg hl]at p;exact p.elim
 refine PySem.W.callWith_K (h₀:=X.base) I.ok.mod.kin hk (je (ha pos pins s σ H _ I h2) fun us s1 ⟨vs,H1,I1,r,q⟩=>⟨I1.kIn,?_⟩) he hpl;have hl:(us++[]).length=ps.length:=by rw[kC,<- r.length];exact F.len _ _ _ _ q
 have hbb:=hb s1 us I1.kIn hl;rw[kC]at hbb;refine wpAny_call (oy (F.run X.A X.stack s1 H1 ⟨us,[]⟩ us vs Q _ hr I1.env0 hbb r q) fun r s' hq=>?_);cases r with
 |error e=>exact hx pins σ H1 s1 e s' I1 hq
 |ok fl =>
  cases fl with
  |ret u=>exact I1.after hq
  |next=>exact i_ hq
  |brk=>exact i_ hq
  |cont=>exact i_ hq
end
section
variable{X:Cx}{pins:List (ab×Obj)}{σ:St}{H:Hp}{s:af}{ea:ab}{c:Str}{n:Int}{tr:Bool}
end
section
variable{X:Cx}{pins:List (ab×Obj)}{σ:St}{H:Hp}{s:af}{ea:ab}
end
end Vl
namespace Vl
open PySem PySem.Spec PySem.Calls PySem.W L2
section
variable{K:aw}
end
section
variable{X:Cx}{B:Bs}{W:Wi}
end
def ux:aK->Ou:=fun ρ=>.nx ρ
def rNo:aK->Ou:=fun _=>.no
def bV(g k:aK->Ou):aK->Ou:=fun ρ=>adK (g ρ) k
def dz(f:aK->Rs D):aK->Ou:=fun ρ=>oR (f ρ) ρ .rt
def amS(f:aK->Rs D):aK->Ou:=fun ρ=>oR (f ρ) ρ fun _=>.nx ρ
def rK(c:aK->Rs Bool)(a b:aK->Ou):aK->Ou:=fun ρ=>oR (c ρ) ρ fun x=>if x=true then a ρ else b ρ
def jC(f:aK->Rs D)(h:Tg):aK->Ou:=fun ρ=>oR (f ρ) ρ fun d=>oO (h d ρ)
def ig(i:Nat)(f:aK->Rs D):aK->Ou:=fun ρ=>oR (f ρ) ρ fun d=>.nx (ρ.set i (.fz d))
def amT(x:Str)(fs:aK->Rs (List D)):aK->Ou:=fun ρ=>oR (fs ρ) ρ fun ds=>if ds.length<=1000 then .ex x 0 ρ else .no
def su(g:aK->Ou):aK->Ou:=fun ρ=>adP (g ρ)
def Gg(f:aK->Rs D):aK->Rs D:=fun ρ=>(f ρ).bind ail
def fB(f:aK->Rs D)(g:D->Rs D):aK->Rs D:=fun ρ=>(f ρ).bind g
def fL(f:aK->Rs D)(g:D->Rs (List D)):aK->Rs (List D):=fun ρ=>(f ρ).bind g
section
variable{X:Cx}{B:Bs}{W:Wi}
theorem eF:yS X B W [] ux:=amH
theorem aO{st:bj}{rest:List bj}{g k:aK->Ou}(h1:SS X B W st g)(h2:yS X B W rest k):yS X B W (st::rest) (bV g k):=aip h1 h2
theorem bB{st:bj}{g:aK->Ou}(h1:SS X B W st g):yS X B W [st] g:=amI h1
theorem aea{st:bj}:SS X B W st rNo:=adL
theorem bY{e:ai}{pos}{f:aK->Rs D}(h:SE X B W e f):SS X B W (.Return (some e) pos) (dz f):=amJ h
theorem iM{c:ai}{a b:List bj}{pos:Pos}{fc:aK->Rs Bool}{ga gb:aK->Ou}(hc:ST X B W c fc)(ha:yS X B W a ga)(hb:yS X B W b gb):SS X B W (.If c a b pos) (rK fc ga gb):=apu hc ha hb
theorem dW{tg e:ai}{pos:Pos}{f:aK->Rs D}{h:Tg}(he:SE X B W e f)(hg:SG X B tg h)(hs:l9 [tg] e pos.line X.env=pure false:=by rfl)(hw:l_ [tg] e X.env=pure none:=by rfl)
  (h1:(f6 [tg] X.env).map (·.2)=[assign tg X.env]:=by rfl):SS X B W (.Assign [tg] e pos) (jC f h):=amK he hg hs hw h1
theorem gP(i:Nat){x:Str}{e:ai}{pos pos':Pos}{f:aK->Rs D}(hN:X.N.Nodup)(he:SE X B W e f)(hi:X.N[i]?=some x:=by rfl)(hx:Wm X.env.scope x:=by first|exact Or.inl rfl|exact Or.inr rfl)(hs:fm e (some (.Name x pos')) pos.line X.env=pure false:=by rfl)(hf:X.fn x=true∨X.env.scope.names.lookup x=some .local:=by first|exact .inl rfl|exact .inr rfl|assumption) :
  SS X B W (.Assign [.Name x pos'] e pos) (ig i f):=amL hN hi hx he hs hf
theorem pC{st:bj}{g:aK->Ou}(h:SS X.nox B WF st g):SS X B W st (su g):=amN h
theorem Ko{a:ai}{pos:Pos}{fa:aK->Rs D}(ha:SE X B W a fa):SE X B W (.UnaryOp .USub a pos) (Gg fa):=amD ha
theorem rg(i:Nat){x:Str}{pos:Pos}(hN:X.N.Nodup)(hi:X.N[i]?=some x:=by rfl)(hx:Wm X.env.scope x:=by first|exact Or.inl rfl|exact Or.inr rfl)(hf:X.fn x=true∨X.env.scope.names.lookup x=some .local:=by first|exact .inl rfl|exact .inr rfl|assumption):SG X B (.Name x pos) (aP i) :=
 aiq hN hi hx hf
theorem wZ{tg iter:ai}{f:aK->Rs D}(hi:SE X B W iter f):SI X B W tg iter (fL f asL):=ais hi
theorem qG{tg iter:ai}{f:aK->Rs D}(hi:SE X B W iter f):SI X B W tg iter (fL f Ga):=amP hi
theorem cJ{e e':ai}{p pos:Pos}{fa fb:aK->Rs D}(hm:X.mg "divmod"=none) (ha:SE X B W e fa) (hb:SE X B W e' fb) (hg:Gl X "divmod":=by rfl) (he:bo [e,e'] X.env=[(false,ba e X.env),(false,ba e' X.env)]:=by rfl) (he':bo [e'] X.env=[(false,ba e' X.env)]:=by rfl) :
  SE X B W (.Call (.Name "divmod" p) [e,e'] [] pos) (fA (ao fa (ao fb aU)) Bl) :=
 lM Ke apt hg hm rfl (ak ha (ak hb aJ he') (by rw[he,he'])) (by decide) (by decide) (by rw[he,he']) (by rw[he'];rfl)
end
def fV(P:aE)(w:az)(K:aw)(mg:Str->Option aa)(base:Heap)(x:Str)(k n:Nat)(v:List D->Rs D):Prop :=
 ∃f fd ps,Wv P w K mg base (WM P w K) k f fd ps (spV K n v)/\mg x=some (.ref f)/\kc K (.ref f)=true/\Binds K fd ps []
theorem cW{P:aE}{w:az}{K:aw}{mg:Str->Option aa}{base:Heap}{x:Str}{st:bj}{f:ab}{fd:cq}{N ps:List Str}{k:Nat}{g:aK->Ou}(F:ur K x x st f fd)(hm:mg x=some (.ref f))(S:bR N ps (aG st))
  (hbi:∀(kV doc pm:aa) (an:Option ab) (cdv ct:aa) (us:List aa),us.length=ps.length->bindArgs (gi x x (bK st) (bG st) (aG st) .none kV doc pm an cdv ct) ⟨us,[]⟩=pure (ps.zip us))
  (hb:∀(cdv:aa) (A:a_) (outer:List Env) (s:af) (H:Hp) (E:XK) (B:Bs),pB k (A.deeper (q_ x (aG st) s.heap.objs.size f cdv)) ->
   Dl (yP (WM P w K) P w K mg base N x (aG st) f cdv A outer s H E) (fun c n _ H'=>E (Ij c n) none H') ->
   yS (yP (WM P w K) P w K mg base N x (aG st) f cdv A outer s H E) B (fun c n _ H'=>E (Ij c n) none H') (bG st) g) :
  fV P w K mg base x (k + 1) ps.length (fun ds=>dZ (g (aZ N ds))) :=
 ⟨f,fd,ps,apF F S fun cdv A outer s H E B hr=>hb cdv A outer s H E B hr (Dm yU rfl),hm,F.kp,F.binds hbi⟩
section
variable{X:Cx}{B:Bs}{W:Wi}
theorem bw{x:Str}{p pos:Pos}{e:ai}{es:List ai}{fs:aK->Rs (List D)}{k n:Nat}{g:List D->Rs D}(O:fV X.prog X.w X.K X.mg X.base x k n g) (hr:pB k X.A) (hx:Dl X W) (ha:SA X B W (e::es) fs) (hg:Gl X x:=by rfl) (hdb:(x == ("__debug__":Str))=false:=by decide)
  (he:bo (e::es) X.env=(false,ba e X.env)::bo es X.env:=by rfl) (hpl:(d6 pos (bo es X.env)).any (·.1)=false:=by rfl):SE X B W (.Call (.Name x p) (e::es) [] pos) (fA fs (bA n g)):=by
 obtain⟨f,fd,ps,F,hm,hk,hb⟩:=O;exact aiz F hr hg hm hk hb hx ha hdb he hpl
end
def alj(S sc:Scope)(NX N:List Str)(nt:Nat)(caps:List Nat):Bool :=
 decide (sc.kind=.function) && sc.names.all (fun y=>y.2 != .cell) && sc.names.all (fun y=>y.2 != .free || S.names.lookup y.1 == some .cell || S.names.lookup y.1 == some .free) && decide (N.length=nt + caps.length) &&
  (cn caps.length).all fun j=>match caps[j]?,N[nt + j]? with|some i,some x=>NX[i]? == some x && sc.names.lookup x == some .free|_,_=>true
theorem fZ{X:Cx}{sc:Scope}{N:List Str}{nt:Nat}{caps:List Nat}(S:Scope)(NX:List Str)(h:alj S sc NX N nt caps=true)(hS:X.env.scope=S:=by rfl)(hX:X.N=NX:=by rfl):vM X sc N nt caps:=by
 unfold alj at h;simp only[k4,decide_eq_true_eq,ko,bne_iff_ne,rf,beq_iff_eq,ne_eq]at h;obtain⟨⟨⟨⟨h1,h2⟩,h3⟩,h4⟩,h5⟩:=h;refine⟨h1,fun y hy=>h2 y hy,fun y hy hf=>?_,h4,fun j i x e1 e2=>?_⟩
 ·have:=h3 y hy;unfold Env.kindOf;rw[hS];rcases this with (h|h)|h
  ·exact absurd hf h
  ·exact .inl h
  ·exact .inr h
 ·have:=h5 j (by rw[fg];exact(eB.mp e1).1);rw[e1,e2]at this;simp only[k4,beq_iff_eq]at this;rw[hX];exact this
theorem dJ{i:Nat}:vN (aP i):=by
 intro d ρ ρ' no e j ds q;unfold aP at e;cases e;by_cases c:i=j
 ·subst c;have hl:i < ρ.length:=by have:=(eB.mp q).1;simpa using this
  rw[d_ hl]at q;cases q;exact fun w=>by cases w
 ·rw[dE c]at q;exact no j ds q
theorem qH{X:Cx}{B:Bs}{W:Wi}{tg iter:ai}{elt:ai}{sc:Scope}{pos:Pos}{N:List Str}{nt:Nat}{caps:List Nat}{h:Tg}{fe:aK->Rs D}{fi:aK->Rs (List D)}
  (c:vM X sc N nt caps) (hc:X.calm=true) (hnames:sc.names.all (fun y=>y.2 != .local || sc.names.lookup y.1 == some .local)=true) (hi:SI X B W tg iter fi) (hno:vN h)
  (ht:∀s₀ H₀ C ex pins B',SG (jH X N s₀ H₀ sc (fX sc X.env) C ex pins) B' tg h)
  (he:∀s₀ H₀ C ex pins B',SE (jH X N s₀ H₀ sc (fX sc X.env) C ex pins) B' WF elt fe)
  (hs:∀x,hV iter X.env x=pure x:=by intro _;rfl) :
  SE X B W (.ListComp elt [⟨tg,iter,[],0⟩] sc pos) (cM h (fun _=>.ok true) fe nt caps fi) :=
 aiu c hc (fun y hy hl=>by
  have:=ko.mp hnames y hy;simp only[rf,bne_iff_ne,beq_iff_eq,ne_eq]at this;exact this.elim (fun z=>absurd hl z) id) hi hno ht (.inl ⟨rfl,rfl⟩) he hs
def amU(i j:Nat)(fs:aK->Rs (List D)):aK->Ou:=fun ρ=>oR (fs ρ) ρ fun ds=>match ds with
 | [d,e]=>.nx ((ρ.set i (.fz d)).set j (.fz e))
 |_=>.no
section
variable{ρ ρ1:aK}{d x y z:D}{f fa fb:aK->Rs D}{g k a b:aK->Ou}{r:Ou}{ds:List D}{fs:aK->Rs (List D)}{c c1 c2:aK->Rs Bool}{t u:Bool}{i j:Nat}
theorem aW(h:g ρ=.nx ρ1)(h2:k ρ1=r):bV g k ρ=r:=by unfold bV;rw[h];exact h2
theorem nO(h:g ρ=.rt d):bV g k ρ=.rt d:=by unfold bV;rw[h];rfl
theorem bU:fC d ρ=.ok d:=rfl
theorem aq(h:ρ[i]?=some (.fz d)):aD i ρ=.ok d:=by unfold aD;rw[h]
theorem bf{o:D->D->Rs D}{r:Rs D}(h1:fa ρ=.ok x)(h2:fb ρ=.ok y)(h3:o x y=r):bJ o fa fb ρ=r:=by unfold bJ;rw[h1];show(fb ρ).bind _=_;rw[h2];exact h3
theorem ZQ{n:Int}(h1:fa ρ=.ok (.int n)):Gg fa ρ=.ok (.int (-n)):=by unfold Gg;rw[h1];rfl
theorem aM:aU ρ=.ok []:=rfl
theorem aj(h1:fa ρ=.ok x)(h2:fs ρ=.ok ds):ao fa fs ρ=.ok (x::ds):=by unfold ao;rw[h1];show(fs ρ).bind _=_;rw[h2];rfl
theorem cG{o:List D->Rs D}{r:Rs D}(h1:fs ρ=.ok ds)(h2:o ds=r):fA fs o ρ=r:=by unfold fA;rw[h1];exact h2
theorem v_b{o:D->Rs D}{r:Rs D}(h1:fa ρ=.ok x)(h2:o x=r):fB fa o ρ=r:=by unfold fB;rw[h1];exact h2
theorem bI{n:Nat}{v:List D->Rs D}{r:Rs D}(hl:ds.length=n)(h:v ds=r):bA n v ds=r:=by unfold bA;rw[if_pos hl];exact h
theorem alk(hl:ds.length<=1000):dF ds=.ok (.tup ds):=by unfold dF;rw[if_pos hl]
theorem Im(hl:ds.length<=1000):vJ ds=.ok (.lst ds):=by unfold vJ;rw[if_pos hl]
theorem mK(h:fa ρ=.ok (.bl t)):fT fa ρ=.ok t:=by unfold fT;rw[h];rfl
theorem amV(h:c1 ρ=.ok true):fOr c1 c2 ρ=.ok true:=by unfold fOr;rw[h];rfl
theorem aeb(h:c1 ρ=.ok false)(h2:c2 ρ=.ok t):fOr c1 c2 ρ=.ok t:=by unfold fOr;rw[h];exact h2
theorem Ci(h:c1 ρ=.ok false):vH c1 c2 ρ=.ok false:=by unfold vH;rw[h];rfl
theorem xg(h:c1 ρ=.ok true)(h2:c2 ρ=.ok t):vH c1 c2 ρ=.ok t:=by unfold vH;rw[h];exact h2
theorem iu(h:c ρ=.ok true)(h2:a ρ=r):rK c a b ρ=r:=by unfold rK;rw[h];exact h2
theorem dX(h:c ρ=.ok false)(h2:b ρ=r):rK c a b ρ=r:=by unfold rK;rw[h];exact h2
theorem gR(h:fa ρ=.ok x):ig i fa ρ=.nx (ρ.set i (.fz x)):=by unfold ig;rw[h];rfl
theorem dG(h:fa ρ=.ok x):dz fa ρ=.rt x:=by unfold dz;rw[h];rfl
theorem gC{h:Tg}(h1:fa ρ=.ok x)(h2:h x ρ=some ρ1):jC fa h ρ=.nx ρ1:=by unfold jC;rw[h1];show oO (h x ρ)=_;rw[h2];rfl
theorem nP:ux ρ=.nx ρ:=rfl
theorem xq(h:g ρ=.nx ρ1):su g ρ=.nx ρ1:=by unfold su;rw[h];rfl
theorem Kq{h:Tg}{n:Int}{N:Nat}(h1:fa ρ=.ok (.int n))(hb:n < 2 ^ 62)(hN:n=(N:Int))(h2:fJ h g ((cn N).map fun(i:Nat)=>.int i) ρ=r):wW h g fa ρ=r:=by
 have hc:-(2 ^ 62)<=n/\n < 2 ^ 62:=⟨by subst hN;lia,hb⟩
 unfold wW;rw[h1];simp only[oR];rw[if_pos hc,hN,mM];exact h2
theorem aec{h:Tg}(h1:fa ρ=.ok (.lst ds))(h2:fJ h g ds ρ=r):Qv h g fa ρ=r:=by unfold Qv;rw[h1];exact h2
theorem WR{h:Tg}(h1:fa ρ=.ok (.tup ds))(h2:fJ h g ds ρ=r):Ii h g fa ρ=r:=by unfold Ii;rw[h1];exact h2
theorem Dp{h:Tg}(P:aK->Prop):∀{ds:List D}{ρ:aK},P ρ->(∀d∈ds,∀ρ,P ρ->∃ρ1 ρ',h d ρ=some ρ1/\g ρ1=.nx ρ'/\P ρ')->∃ρ',fJ h g ds ρ=.nx ρ'/\P ρ'
 | [],ρ,p,_=>⟨ρ,rfl,p⟩
 |d::ds,ρ,p,st=>by obtain⟨ρ1,ρ2,e1,e2,p2⟩:=st d (by simp) ρ p;obtain⟨ρ',e,p'⟩:=Dp (ds:=ds) P p2 fun d' hd=>st d' (by simp[hd]);refine⟨ρ',?_,p'⟩;simp only[fJ,e1,e2];exact e
theorem aed{h:Tg}{ft:aK->Rs Bool}{fe:aK->Rs D}{nt:Nat}{caps:List Nat}{fi:aK->Rs (List D)}{ys:List D}(h1:fi ρ=.ok ds)(h2:jr h ft fe ds (fY nt caps ρ)=.ok ys)(hl:ys.length<=1000000):cM h ft fe nt caps fi ρ=.ok (.lst ys):=by unfold cM;rw[h1];show Di ((jr h ft fe ds (fY nt caps ρ)).bind _)=_;rw[h2];show Di (if ys.length<=1000000 then _ else _)=_;rw[if_pos hl];rfl
theorem v_l{o:D->Rs (List D)}(h1:fa ρ=.ok x)(h2:o x=.ok ds):fL fa o ρ=.ok ds:=by unfold fL;rw[h1];exact h2
variable{m n:Int}
theorem apG(h:Wu m n):iD (.int m) (.int n)=.ok (.int (m * n)):=by simp[iD,gI,h]
theorem Dq(h:0 < n):rP (.int m) (.int n)=.ok (.int (m % n)):=by simp[rP,gI,h]
theorem ZR(h:CDB m n):Dd (.int m) (.int n)=.ok (.int (m / n)):=by simp[Dd,gI,h]
theorem aee(h:adf m n):mj (.int m) (.int n)=.ok (.int (m ^ n.toNat)):=by simp[mj,gI,h]
theorem mq:dU (.int m) (.int n)=.ok (.int (m + n)):=rfl
theorem abo{a b:List D}(h:a.length + b.length<=1000000):dU (.lst a) (.lst b)=.ok (.lst (a++b)):=by simp only[dU];rw[if_pos h]
theorem jU:Vl.jf (.int m) (.int n)=.ok (.int (m - n)):=rfl
theorem qI(h:CDB m n):Bl [.int m,.int n]=.ok (.tup [.int (m / n),.int (m % n)]):=by simp[Bl,h]
theorem aiB:gLt (.int m) (.int n)=.ok (.bl (decide (m < n))):=rfl
theorem amW:gLe (.int m) (.int n)=.ok (.bl (decide (m<=n))):=rfl
theorem yV:gGt (.int m) (.int n)=.ok (.bl (decide (n < m))):=rfl
theorem aiC:gGe (.int m) (.int n)=.ok (.bl (decide (n<=m))):=rfl
theorem jV:wY (.int m) (.int n)=.ok (.bl (decide (m=n))):=by simp[wY,cR,qC];rfl
theorem aef:WL (.int m) (.int n)=.ok (.bl (!decide (m=n))):=by simp[WL,cR,qC];rfl
theorem apH(h1:cR x<=8)(h2:cR y<=8):wY x y=.ok (.bl (qC x y)):=by unfold wY;rw[if_pos ⟨h1,h2⟩]
theorem apI(h1:cR x<=8)(h2:cR y<=8):WL x y=.ok (.bl (!qC x y)):=by unfold WL;rw[if_pos ⟨h1,h2⟩]
theorem aeg(h:CV ds m=some d):fO (.tup ds) (.int m)=.ok d:=by simp[fO,h]
theorem Dr(h:CV ds m=some d):fO (.lst ds) (.int m)=.ok d:=by simp[fO,h]
end
end Vl
namespace Tb
open PySem
def it:Nat->Nat->Nat
 | 0,x=>x
 |m + 1,x=>5 * it m x + 1
theorem aeh(m n x:Nat):it (m + n) x=it m (it n x):=by
 induction m with
 |zero=>simp[it]
 |succ m ih=>rw[Nat.succ_add];simp only[it];rw[ih]
theorem amX(k:Nat):∃w,w % 2=1/\∀y,it (2 ^ k) y=y + 2 ^ k * w * (4 * y + 1):=by
 induction k with
 |zero=>exact⟨1,rfl,fun y=>by simp[it];lia⟩
 |succ k ih =>
  obtain⟨w,hw,h⟩:=ih;refine⟨w * (1 + 2 ^ (k + 1) * w),?_,fun y=>?_⟩
  ·have e:2 ^ (k + 1)=2 * 2 ^ k:=by rw[k5];lia
   rw[e,Nat.mul_add,Nat.mul_one,wm];have:w * (2 * 2 ^ k * w) % 2=0:=by
    have:w * (2 * 2 ^ k * w)=2 * (w * 2 ^ k * w):=by grind
    rw[this];exact Nat.mul_mod_right _ _
   lia
  ·have e:2 ^ (k + 1)=2 ^ k + 2 ^ k:=by rw[k5];lia
   rw[e,aeh,h,h]
   grind
theorem apJ(k:Nat):∀x e:Nat,∃m,m < 2 ^ k/\it m x % 2 ^ k=e % 2 ^ k:=by
 induction k with
 |zero=>exact fun x e=>⟨0,by decide,by simp[Nat.mod_one]⟩
 |succ k ih =>
  intro x e;obtain⟨m,hm,he⟩:=ih x e;obtain⟨w,hw,hp⟩:=amX k;have e2:2 ^ (k + 1)=2 ^ k * 2:=k5 ..;by_cases c:it m x % 2 ^ (k + 1)=e % 2 ^ (k + 1)
  ·exact⟨m,by rw[e2];lia,c⟩
  ·refine⟨2 ^ k + m,by rw[e2];lia,?_⟩;rw[aeh,hp];have pos:0 < 2 ^ k:=wo (by simp);generalize it m x=a at he c;obtain⟨q,hq⟩:∃q,w * (4 * a + 1)=2 * q + 1:=by
    refine⟨w * (4 * a + 1) / 2,?_⟩;have:w * (4 * a + 1) % 2=1:=by
     rw[wq];have:(4 * a + 1) % 2=1:=by lia
     rw[hw,this]
    lia
   have hq':2 ^ k * w * (4 * a + 1)=2 ^ k * 2 * q + 2 ^ k:=by rw[rh,hq];grind
   rw[hq',e2];rw[e2]at c;generalize 2 ^ k=M at *;have h1:(a + (M * 2 * q + M)) % (M * 2)=(a + M) % (M * 2):=by
    have:a + (M * 2 * q + M)=a + M + M * 2 * q:=by lia
    rw[this,rn]
   rw[h1];have a1:=Nat.mod_add_div a (M * 2);have b1:=Nat.mod_add_div e (M * 2);have al:=mN a (show 0 < M * 2 by lia);have bl:=mN e (show 0 < M * 2 by lia);generalize a % (M * 2)=ra at a1 al c;generalize e % (M * 2)=rb at b1 bl c ⊢;have ham:a % M=ra % M:=by rw[<- a1,rh,rn]
   have hbm:e % M=rb % M:=by rw[<- b1,rh,rn]
   have hrr:ra % M=rb % M:=by rw[<- ham,<- hbm];exact he
   have hA:(a + M) % (M * 2)=(ra + M) % (M * 2):=by
    rw[<- a1];have:ra + M * 2 * (a / (M * 2)) + M=ra + M + M * 2 * (a / (M * 2)):=by lia
    rw[this,rn]
   rw[hA];by_cases ha:ra < M
   ·have e3:ra % M=ra:=j0 ha;have hb:¬rb < M:=fun z=>c (by rw[j0 z]at hrr;lia);have e4:rb % M=rb - M:=by rw[rL (by lia),j0 (by lia)]
    rw[j0 (by lia)];lia
   ·have e3:ra % M=ra - M:=by rw[rL (by lia),j0 (by lia)]
    have hb:rb < M:=Nat.lt_of_not_le fun z=>c (by
     have e4:rb % M=rb - M:=by rw[rL (by lia),j0 (by lia)]
     lia)
    have e4:rb % M=rb:=j0 hb;rw[rL (by lia),j0 (by lia)];lia
end Tb
namespace Tb
open PySem PySem.SetTable
def lN(t:bq):Nat->Probe->Probe
 | 0,p=>p
 |s + 1,p=>lN t s (t.advance p)
theorem uy(t:bq)(a b:Nat)(p:Probe):lN t (a + b) p=lN t b (lN t a p):=by
 induction a generalizing p with
 |zero=>simp[lN]
 |succ a ih=>rw[Nat.succ_add];simp only[lN];exact ih _
theorem jJ(t:bq)(s:Nat)(p:Probe):lN t (s + 1) p=t.advance (lN t s p):=by rw[uy];rfl
def rM(mask i pt:Nat)(d:Option Nat):Probe:={ j:=i,more:=runEnd mask i - i,i:=i,perturb:=pt,dummy:=d }
theorem amY(mask i:Nat):runEnd mask i - i<=9:=by unfold runEnd;split <;> lia
theorem ZS(t:bq):∀(m:Nat) (p:Probe),m<=p.more->lN t m p={ p with j:=p.j + m,more:=p.more - m }:=by
 intro m
 induction m with
 |zero=>intro p _;simp[lN]
 |succ m ih =>
  intro p h;rw[jJ,ih p (by lia)];unfold advance;simp only;rw[if_pos (by lia)];simp only[Probe.mk.injEq,and_true,true_and];lia
theorem Ds(t:bq)(p:Probe):lN t (p.more + 1) p=rM t.mask (leap t.mask p.i p.perturb).1 (leap t.mask p.i p.perturb).2 p.dummy:=by rw[jJ,ZS t p.more p (br _)];unfold advance rM;simp only[Nat.sub_self,ir,gt_iff_lt,if_false]
def lp(mask:Nat):Nat->Nat×Nat->Nat×Nat
 | 0,x=>x
 |n + 1,x=>leap mask (lp mask n x).1 (lp mask n x).2
theorem amZ(t:bq)(d:Option Nat)(i pt:Nat):∀n,∃s,s<=10 * n/\lN t s (rM t.mask i pt d)=rM t.mask (lp t.mask n (i,pt)).1 (lp t.mask n (i,pt)).2 d:=by
 intro n
 induction n with
 |zero=>exact⟨0,by lia,rfl⟩
 |succ n ih =>
  obtain⟨s,hs,e⟩:=ih;refine⟨s + ((rM t.mask (lp t.mask n (i,pt)).1 (lp t.mask n (i,pt)).2 d).more + 1),?_,?_⟩
  ·have:=amY t.mask (lp t.mask n (i,pt)).1;simp only[rM];lia
  ·rw[uy,e,Ds];rfl
theorem apK(mask:Nat)(x:Nat×Nat):∀n,(lp mask n x).2=x.2 / 32 ^ n:=by
 intro n
 induction n with
 |zero=>simp[lp]
 |succ n ih=>simp only[lp,leap,ih];rw[Nat.div_div_eq_div_mul,k5]
theorem apL(mask:Nat)(x:Nat×Nat)(n:Nat):(lp mask (n + 1) x).1 < mask + 1:=mN _ (by lia)
theorem aei(mask:Nat)(x:Nat×Nat)(a b:Nat):lp mask (a + b) x=lp mask b (lp mask a x):=by
 induction b with
 |zero=>rfl
 |succ b ih=>rw[Nat.add_succ];simp only[lp,ih]
theorem aiD(mask i:Nat)(hi:i < mask + 1):∀n,lp mask n (i,0)=(it n i % (mask + 1),0):=by
 intro n
 induction n with
 |zero=>simp[lp,it,j0 hi]
 |succ n ih =>
  simp only[lp,ih,leap,it,rS,Nat.zero_div,mP,and_true];rw[Nat.mul_comm,wm,wq,Nat.mod_mod,<- wq,<- wm]
theorem aej{mask k:Nat}(hk:mask + 1=2 ^ k)(i pt:Nat)(hp:pt < 2 ^ 64){e:Nat}(he:e<=mask):∃n,n<=mask + 13/\(lp mask n (i,pt)).1=e:=by
 have h13:(lp mask 13 (i,pt)).2=0:=by rw[apK];exact Nat.div_eq_of_lt (wt hp (by decide))
 have hl:=apL mask (i,pt) 12;obtain⟨m,hm,e1⟩:=apJ k (lp mask 13 (i,pt)).1 e;refine⟨13 + m,by lia,?_⟩;rw[aei];have e2:lp mask 13 (i,pt)=((lp mask 13 (i,pt)).1,0):=by rw[<- h13]
 rw[e2,aiD _ _ hl,hk,e1,j0 (by lia)]
theorem hit{t:bq}{k:Nat}(hk:t.mask + 1=2 ^ k)(p:Probe)(h9:p.more<=9)(hp:p.perturb < 2 ^ 64){e:Nat}(he:e<=t.mask):∃s,s<=10 * (t.mask + 14)/\(lN t s p).j=e:=by have hq:(leap t.mask p.i p.perturb).2 < 2 ^ 64:=jn (Nat.div_le_self _ _) hp;obtain⟨n,hn,e1⟩:=aej hk (leap t.mask p.i p.perturb).1 (leap t.mask p.i p.perturb).2 hq he;obtain⟨s,hs,e2⟩:=amZ t p.dummy (leap t.mask p.i p.perturb).1 (leap t.mask p.i p.perturb).2 n;refine⟨p.more + 1 + s,by lia,?_⟩;rw[uy,Ds,e2];exact e1
theorem ana(t:bq)(p:Probe)(h9:p.more<=9)(hp:p.perturb < 2 ^ 64):∀s,(lN t s p).more<=9/\(lN t s p).perturb < 2 ^ 64/\(lN t s p).dummy=p.dummy:=by
 intro s
 induction s with
 |zero=>exact⟨h9,hp,rfl⟩
 |succ s ih =>
  rw[jJ];obtain⟨a,b,c⟩:=ih;unfold advance;split
  ·exact⟨by simp only;lia,b,c⟩
  ·exact⟨amY _ _,jn (Nat.div_le_self _ _) b,c⟩
theorem ZV(h:Int):bits h < 2 ^ 64:=by unfold bits;have:=j4 h (show(0:Int) < 2 ^ 64 by decide);have:=iL h (show(2 ^ 64:Int)≠0 by decide);lia
def pos(t:bq)(h:Int)(s:Nat):Nat:=(lN t s (t.probeStart h)).j
theorem xr(t:bq)(h:Int)(s:Nat):(lN t s (t.probeStart h)).more<=9/\(lN t s (t.probeStart h)).perturb < 2 ^ 64/\(lN t s (t.probeStart h)).dummy=none :=
 ana t _ (amY _ _) (ZV h) s
theorem Kr{t:bq}{k:Nat}(hk:t.mask + 1=2 ^ k)(h:Int)(s0:Nat){e:Nat}(he:e<=t.mask):∃s,s0<=s/\s<=s0 + 10 * (t.mask + 14)/\pos t h s=e:=by obtain⟨a,b,_⟩:=xr t h s0;obtain⟨s,hs,e1⟩:=hit hk (lN t s0 (t.probeStart h)) a b he;exact⟨s0 + s,by lia,by lia,by unfold pos;rw[uy];exact e1⟩
def rQ(xs:Array Nat):Prop:=∀a b,a < b->b < xs.size->xs.getD a 0 < xs.getD b 0
theorem aiE{xs:Array Nat}{a:Nat}(h:a < xs.size)(d:Nat):xs.getD a d=xs.getD a 0:=by simp[eL,h]
theorem aek{xs:Array Nat}{j:Nat}(R:rQ xs):∀(fuel lo hi:Nat),lo<=hi->hi<=xs.size->hi<=lo + fuel->(∀a,a < lo->xs.getD a 0 < j)->(∀a,hi<=a->a < xs.size->j<=xs.getD a 0) ->
  below.go xs j fuel lo hi<=xs.size/\(∀a,a < below.go xs j fuel lo hi->xs.getD a 0 < j)/\(∀a,below.go xs j fuel lo hi<=a->a < xs.size->j<=xs.getD a 0):=by
 intro fuel
 induction fuel with
 |zero =>
  intro lo hi h1 h2 h3 h4 h5;obtain rfl:lo=hi:=by lia
  exact⟨h2,h4,h5⟩
 |succ fuel ih =>
  intro lo hi h1 h2 h3 h4 h5;unfold below.go;by_cases c:lo < hi
  ·rw[if_pos c];simp only;have hm:(lo + hi) / 2 < xs.size:=by lia
   rw[aiE hm];by_cases d:xs.getD ((lo + hi) / 2) 0 < j
   ·rw[if_pos d];refine ih _ _ (by lia) h2 (by lia) (fun a ha=>?_) h5;by_cases e:a=(lo + hi) / 2
    ·rw[e];exact d
    ·exact wt (R a ((lo + hi) / 2) (by lia) hm) d
   ·rw[if_neg d];refine ih _ _ (by lia) (by lia) (by lia) h4 fun a ha hs=>?_;by_cases e:a=(lo + hi) / 2
    ·rw[e];lia
    ·exact cz (by lia) (gL (R ((lo + hi) / 2) a (by lia) hs))
  ·rw[if_neg c];obtain rfl:lo=hi:=by lia
   exact⟨h2,h4,h5⟩
theorem qJ{xs:Array Nat}(R:rQ xs)(j:Nat):below xs j<=xs.size/\(∀a,a < below xs j->xs.getD a 0 < j)/\(∀a,below xs j<=a->a < xs.size->j<=xs.getD a 0) :=
 aek R xs.size 0 xs.size (eC _) (br _) (by lia) (fun a h=>absurd h (by lia)) fun a h1 h2=>absurd h1 (by lia)
theorem Qz{xs:Array Nat}(R:rQ xs){i:Nat}(hi:i < xs.size):below xs (xs.getD i 0)=i:=by
 obtain⟨h1,h2,h3⟩:=qJ R (xs.getD i 0);by_cases c:below xs (xs.getD i 0) < i
 ·have:=h3 _ (br _) (by lia);have:=R _ i c hi;lia
 ·by_cases d:i < below xs (xs.getD i 0)
  ·have:=h2 i d;lia
  ·lia
def qK(t:bq)(j:Nat):Prop:=∃i,i < t.place.size/\t.place.getD i 0=j
theorem QB{xs:Array Nat}{i:Nat}(hi:i < xs.size):xs[i]?=some (xs.getD i 0):=by simp[eL,hi]
theorem uz{t:bq}(R:rQ t.place){i:Nat}(hi:i < t.place.size):t.slot (t.place.getD i 0)=.live i:=by unfold slot;simp only;rw[Qz R hi,QB hi];simp
theorem WT{t:bq}(nd:t.dummies=#[]){j:Nat}(h:¬qK t j):t.slot j=.empty:=by
 unfold slot;simp only;rw[if_neg,if_neg]
 ·unfold has;rw[nd];simp
 ·intro c;apply h;have c':t.place[below t.place j]?=some j:=by simpa using c
  obtain⟨hl,e⟩:=ic.mp c';exact⟨_,hl,by simp[eL,hl,e]⟩
theorem xu{t:bq}(R:rQ t.place){j:Nat}(h:qK t j):∃i,i < t.place.size/\t.place.getD i 0=j/\t.slot j=.live i:=by obtain⟨i,hi,e⟩:=h;exact⟨i,hi,e,by rw[<- e];exact uz R hi⟩
theorem aiF{xs:Array Nat}(R:rQ xs):∀i,i < xs.size->i<=xs.getD i 0:=by
 intro i
 induction i with
 |zero=>intro _;exact eC _
 |succ i ih=>intro h;have:=ih (by lia);have:=R i (i + 1) (by lia) h;lia
theorem Dt{t:bq}(R:rQ t.place)(hs:t.place.size<=t.mask):∃e,e<=t.mask/\¬qK t e:=by
 have key:∀n,n<=t.place.size->(∀a,a < n->t.place.getD a 0=a)∨∃e,e < n/\t.place.getD e 0≠e/\∀a,a < e->t.place.getD a 0=a:=by
  intro n
  induction n with
  |zero=>intro _;exact .inl fun a h=>absurd h (by lia)
  |succ n ih =>
   intro h;rcases ih (by lia) with h1|⟨e,h1,h2,h3⟩
   ·by_cases c:t.place.getD n 0=n
    ·refine .inl fun a ha=>?_;by_cases d:a=n
     ·rw[d];exact c
     ·exact h1 a (by lia)
    ·exact .inr ⟨n,by lia,c,h1⟩
   ·exact .inr ⟨e,by lia,h2,h3⟩
 rcases key t.place.size (br _) with h|⟨e,h1,h2,h3⟩
 ·refine⟨t.place.size,hs,fun⟨i,hi,e⟩=>?_⟩;have:=h i hi;lia
 ·refine⟨e,by lia,fun⟨i,hi,e'⟩=>?_⟩;by_cases c:i < e
  ·have:=h3 i c;lia
  ·have hge:=aiF R e h1;by_cases d:i=e
   ·subst d;exact h2 e'
   ·have:=R e i (by lia) hi;lia
theorem QC{t:bq}(R:rQ t.place)(nd:t.dummies=#[])(hashAt:Nat->Int)(h:Int):∀(fuel s0 s1:Nat),s0<=s1->s1 < s0 + fuel->¬qK t (pos t h s1) ->
    ∃s2,s0<=s2/\s2<=s1/\(∀s,s0<=s->s < s2->∃i,i < t.place.size/\t.place.getD i 0=pos t h s/\hashAt i≠h) /\
      ((¬qK t (pos t h s2) /\ probe.go t hashAt h fuel (lN t s0 (t.probeStart h)) = some (.empty (pos t h s2) none)) ∨
       ∃i,i < t.place.size/\t.place.getD i 0=pos t h s2/\hashAt i=h/\probe.go t hashAt h fuel (lN t s0 (t.probeStart h))=some (.candidate (pos t h s2) i (lN t (s2 + 1) (t.probeStart h)))):=by
  intro fuel
  induction fuel with
  |zero=>intro s0 s1 h1 h2;lia
  |succ fuel ih =>
    intro s0 s1 h1 h2 hl;have hd:=(xr t h s0).2.2;unfold probe.go;by_cases c:qK t (pos t h s0)
    . obtain⟨i,hi,e1,e2⟩:=xu R c
      have e2':t.slot (lN t s0 (t.probeStart h)).j=.live i:=e2;rw[e2'];simp only;by_cases d:hashAt i=h
      . refine⟨s0,br _,h1,fun s a b=>absurd a (by lia),.inr ⟨i,hi,e1,d,?_⟩⟩
        rw[if_pos (by simp[d]),jJ];rfl
      . rw[if_neg (by simp[d]),<- jJ]
        have hne:s0≠s1:=fun z=>hl (z▸c);obtain⟨s2,a1,a2,a3,a4⟩:=ih (s0 + 1) s1 (by lia) (by lia) hl;refine⟨s2,by lia,a2,fun s b1 b2=>?_,a4⟩;by_cases z:s=s0
        . subst z;exact⟨i,hi,e1,d⟩
        . exact a3 s (by lia) b2
    . refine⟨s0,br _,h1,fun s a b=>absurd a (by lia),.inl ⟨c,?_⟩⟩
      have e2:t.slot (lN t s0 (t.probeStart h)).j=.empty:=WT nd c;rw[e2];simp only;rw[hd];rfl
theorem ael{t t':bq}(e:t.mask=t'.mask):∀s p,lN t s p=lN t' s p:=by
 intro s
 induction s with
 |zero=>intro p;rfl
 |succ s ih =>
  intro p;simp only[lN];have:t.advance p=t'.advance p:=by unfold advance;rw[e]
  rw[this,ih]
theorem sy{t t':bq}(e:t.mask=t'.mask)(h:Int)(s:Nat):pos t h s=pos t' h s:=by
 unfold pos;have:t.probeStart h=t'.probeStart h:=by unfold probeStart;rw[e]
 rw[this,ael e]
abbrev jT:=Nat×Int×aa
structure Good (t:bq)(L:List jT):Prop where
 pw:∃k,t.mask + 1=2 ^ k
 m7:7<=t.mask
 nd:t.dummies=#[]
 pl:t.place=(L.map (·.1)).toArray
 so:(L.map (·.1)).Pairwise (· < ·)
 le:∀e∈L,e.1<=t.mask
 reach:∀e∈L,∃s,pos t e.2.1 s=e.1/\∀s',s' < s->∃e'∈L,e'.1=pos t e.2.1 s'
section
variable{t:bq}{L:List jT}
theorem Good.sz(g:Good t L):t.place.size=L.length:=by rw[g.pl];simp
theorem Good.at(g:Good t L){i:Nat}(hi:i < L.length):t.place.getD i 0=L[i].1:=by rw[g.pl];simp[eL,hi]
theorem Good.rise(g:Good t L):rQ t.place:=by intro a b hab hb;rw[g.sz]at hb;rw[g.at (show a < L.length by lia),g.at hb];have:=(j5.mp g.so) a b (by simpa using(show a < L.length by lia)) (by simpa using hb) hab;simpa using this
theorem Good.live(g:Good t L){j:Nat}:qK t j↔∃e∈L,e.1=j:=by
 constructor
 ·rintro⟨i,hi,e⟩;rw[g.sz]at hi;rw[g.at hi]at e;exact⟨L[i],dm hi,e⟩
 ·rintro⟨e,he,q⟩;obtain⟨i,hi,e1⟩:=f_.mp he;exact⟨i,by rw[g.sz];exact hi,by rw[g.at hi,e1];exact q⟩
theorem Good.uniq(g:Good t L){e e':jT}(h:e∈L)(h':e'∈L)(q:e.1=e'.1):e=e':=by
 obtain⟨i,hi,rfl⟩:=f_.mp h;obtain⟨j,hj,rfl⟩:=f_.mp h';have R:=g.rise;by_cases c:i < j
 ·have:=R i j c (by rw[g.sz];exact hj);rw[g.at hi,g.at hj]at this;lia
 ·by_cases d:j < i
  ·have:=R j i d (by rw[g.sz];exact hi);rw[g.at hi,g.at hj]at this;lia
  ·obtain rfl:i=j:=by lia
   rfl
end
theorem pD{α:Type}(xs:List α)(p:Nat)(hp:p<=xs.length)(x:α):insertAt xs.toArray p x=(xs.take p++x::xs.drop p).toArray:=by unfold insertAt;apply oD.mp;simp only[List.extract_toArray,cK,iN,rV,w6,Nat.sub_zero,List.drop_zero];rw[rX (l:=xs.drop p) (by simp)];simp
theorem Ks(t:bq)(nd:t.dummies=#[])(j:Nat):t.put j=({ t with place:=insertAt t.place (below t.place j) j },below t.place j):=by
 unfold put;have:has t.dummies j=false:=by unfold has;rw[nd];simp
 simp only[this,aS,if_false]
theorem Good.put{t:bq}{L:List jT}(g:Good t L){j:Nat}{h:Int}{x:aa}(hj:j<=t.mask)(hn:¬qK t j)(hr:∃s,pos t h s=j/\∀s',s' < s->∃e'∈L,e'.1=pos t h s') :
  (t.put j).2<=L.length/\Good (t.put j).1 (L.take (t.put j).2++(j,h,x)::L.drop (t.put j).2):=by
 rw[Ks t g.nd];obtain⟨b1,b2,b3⟩:=qJ g.rise j;rw[g.sz]at b1 b3;simp only;generalize hp:below t.place j=p at *;refine⟨b1,?_⟩;have mem:∀e:jT,e∈L.take p++(j,h,x)::L.drop p↔e=(j,h,x)∨e∈L:=fun e=>by
  have:L=L.take p++L.drop p:=(k6 p L).symm;constructor
  ·intro z;rcases d9.mp z with z|z
   ·exact .inr (mS z)
   ·rcases bz.mp z with z|z
    ·exact .inl z
    ·exact .inr (r0 z)
  ·rintro(z|z)
   ·subst z;simp
   ·rw[this]at z;rcases d9.mp z with z|z
    ·exact l5 _ z
    ·exact fq _ (dQ _ z)
 have pm:∀(hh:Int) (s:Nat),pos { t with place:=insertAt t.place p j } hh s=pos t hh s:=fun hh s=>sy (by rfl) hh s;refine⟨g.pw,g.m7,g.nd,?_,?_,fun e he=>?_,fun e he=>?_⟩
 ·show insertAt t.place p j=_;rw[g.pl,pD _ _ (by simpa using b1)];simp[w8,w9]
 ·simp only[k7,ck];rw[gN];refine⟨?_,?_,?_⟩
  ·rw[w8];exact kq (ml _ _) g.so
  ·rw[gc];refine⟨fun a ha=>?_,?_⟩
   ·obtain⟨e,he,rfl⟩:=b0.mp ha;obtain⟨i,hi,rfl⟩:=f_.mp he;have hi':p + i < L.length:=by simp at hi;lia
    have q:=b3 (p + i) (by lia) hi';rw[g.at hi']at q;have ne:L[p + i].1≠j:=fun z=>hn (g.live.mpr ⟨_,dm hi',z⟩);simp only[r8];show j < _;lia
   ·rw[w9];exact kq (r_ _ _) g.so
  ·intro a ha b hb;obtain⟨e,he,rfl⟩:=b0.mp ha;obtain⟨i,hi,rfl⟩:=f_.mp he;have hi':i < p:=by simp at hi;lia
   have q:=b2 i hi';rw[g.at (show i < L.length by lia)]at q;simp only[List.getElem_take];rcases bz.mp hb with z|z
   ·rw[z];exact q
   ·obtain⟨e',he',rfl⟩:=b0.mp z;obtain⟨i',hi2,rfl⟩:=f_.mp he';have hi3:p + i' < L.length:=by simp at hi2;lia
    have:=b3 (p + i') (by lia) hi3;rw[g.at hi3]at this;simp only[r8];lia
 ·rcases(mem e).mp he with z|z
  ·rw[z];exact hj
  ·exact g.le e z
 ·rcases(mem e).mp he with z|z
  ·subst z;obtain⟨s,e1,e2⟩:=hr;refine⟨s,by rw[pm];exact e1,fun s' hs=>?_⟩;obtain⟨e',h1,h2⟩:=e2 s' hs;exact⟨e',(mem e').mpr (.inr h1),by rw[pm];exact h2⟩
  ·obtain⟨s,e1,e2⟩:=g.reach e z;refine⟨s,by rw[pm];exact e1,fun s' hs=>?_⟩;obtain⟨e',h1,h2⟩:=e2 s' hs;exact⟨e',(mem e').mpr (.inr h1),by rw[pm];exact h2⟩
def jK(owner:Array (Option Nat))(j:Nat):Prop:=owner.getD j (some 0)=none
theorem abp{mask:Nat}{t:bq}(ht:t.mask=mask)(owner:Array (Option Nat)):∀(fuel i pt n:Nat),n < fuel->jK owner (lp mask n (i,pt)).1 ->
  ∃j s,layClean.free mask owner fuel i pt=some j/\(lN t s (rM mask i pt none)).j=j/\jK owner j/\∀s',s' < s->¬jK owner (lN t s' (rM mask i pt none)).j:=by
 intro fuel
 induction fuel with
 |zero=>intro i pt n h;lia
 |succ fuel ih =>
  intro i pt n hn hN;unfold layClean.free;have run:∀s,s<=runEnd mask i - i->(lN t s (rM mask i pt none)).j=i + s:=fun s hs=>by rw[ZS t s _ hs];rfl
  have hre:i<=runEnd mask i:=by unfold runEnd;split <;> lia
  cases e:(cn (runEnd mask i + 1 - i)).find? fun k=>(owner.getD (i + k) (some 0)).isNone with
  |some k =>
   simp only;have h1:=List.find?_some e;have h2:=List.mem_of_find?_eq_some e;have h3:=fg.mp h2;refine⟨i + k,k,rfl,run k (by lia),by simpa[jK] using h1,fun s' hs z=>?_⟩;rw[run s' (by lia)]at z;have:=List.find?_eq_some_iff_append.mp e;obtain⟨_,as,bs,e1,e2⟩:=this;have hs':s'∈as:=by
    have hm:s'∈cn (runEnd mask i + 1 - i):=fg.mpr (by lia);have ps:=List.pairwise_lt_range (n:=runEnd mask i + 1 - i);rw[e1]at hm ps;rcases d9.mp hm with hm|hm
    ·exact hm
    ·rcases bz.mp hm with hm|hm
     ·lia
     ·have:=(gc.mp (gN.mp ps).2.1).1 s' hm;lia
   have:=e2 s' hs';rw[show owner.getD (i + s') (some 0)=none from z]at this;simp at this
  |none =>
   simp only;have h1:=List.find?_eq_none.mp e;have no:∀s,s<=runEnd mask i - i->¬jK owner (i + s):=fun s hs z=>by have:=h1 s (fg.mpr (by lia));rw[show owner.getD (i + s) (some 0)=none from z]at this;simp at this
   cases n with
   |zero=>exact absurd hN (no 0 (by lia))
   |succ n =>
    have e3:lp mask (n + 1) (i,pt)=lp mask n (leap mask i pt):=by rw[w_,aei];rfl
    rw[e3]at hN;obtain⟨j,s,a1,a2,a3,a4⟩:=ih (leap mask i pt).1 (leap mask i pt).2 n (by lia) hN;have hl:lN t (runEnd mask i - i + 1) (rM mask i pt none)=rM mask (leap mask i pt).1 (leap mask i pt).2 none:=by have:=Ds t (rM mask i pt none);rw[ht]at this;exact this
    refine⟨j,runEnd mask i - i + 1 + s,a1,by rw[uy,hl];exact a2,a3,fun s' hs z=>?_⟩;by_cases c:s'<=runEnd mask i - i
    ·rw[run s' c]at z;exact no s' c z
    ·obtain⟨q,rfl⟩:∃q,s'=runEnd mask i - i + 1 + q:=⟨s' - (runEnd mask i - i + 1),by lia⟩
     rw[uy,hl]at z;exact a4 q (by lia) z
theorem xG{α β:Type}{f g:α->Option β}:∀{l:List α},(∀a∈l,f a=g a)->l.filterMap f=l.filterMap g
 | [],_=>rfl
 |a::l,h=>by have ih:=xG (l:=l) fun b hb=>h b (dQ _ hb);simp only[lT,ih,h a dA]
def iw(M:Nat)(owner:Array (Option Nat)):List (Nat×Nat):=(cn M).filterMap fun j=>(owner.getD j none).map (j,·)
theorem qL{M:Nat}{owner:Array (Option Nat)}{j i:Nat}:(j,i)∈iw M owner↔j < M/\owner.getD j none=some i:=by
 unfold iw;simp only[kb,fg,se,rS];constructor
 ·rintro⟨a,h1,b,h2,rfl,rfl⟩;exact⟨h1,h2⟩
 ·rintro⟨h1,h2⟩;exact⟨j,h1,i,h2,rfl,rfl⟩
theorem Gh{M:Nat}{owner:Array (Option Nat)}:((iw M owner).map (·.1)).Pairwise (· < ·):=by
 have e:(iw M owner).map (·.1)=(cn M).filter fun j=>(owner.getD j none).isSome:=by unfold iw;rw[xc,<- List.filterMap_eq_filter];congr 1;funext j;generalize hz:owner.getD j none=o;cases o <;> simp[Option.guard,hz]
 rw[e];exact kq List.filter_sublist List.pairwise_lt_range
theorem QD{f f':Nat->Option (Nat×Nat)}{j:Nat}{v:Nat×Nat}:∀{l:List Nat},l.Nodup->j∈l->f j=none->f' j=some v->(∀a,a≠j->f' a=f a)->(l.filterMap f').Perm (v::l.filterMap f)
 | [],_,h,_,_,_=>by cases h
 |a::l,nd,h,h1,h2,h3=>by
  have nd':=eQ.mp nd;by_cases c:a=j
  ·subst c;have same:l.filterMap f'=l.filterMap f:=xG fun b hb=>h3 b fun z=>nd'.1 (z▸hb);rw[oI h2,xf h1,same]
  ·have hm:j∈l:=(bz.mp h).resolve_left (de c);have ih:=QD nd'.2 hm h1 h2 h3;cases e:f a with
   |none =>
    rw[xf (by rw[h3 a c];exact e),xf e];exact ih
   |some b =>
    rw[oI (by rw[h3 a c];exact e),oI e];exact(ih.cons b).trans (ie.swap ..)
theorem WW{M:Nat}{owner:Array (Option Nat)}(hs:owner.size=M){j k:Nat}(hj:j < M)(hn:owner.getD j none=none):(iw M (owner.setIfInBounds j (some k))).Perm ((j,k)::iw M owner):=by
 unfold iw;refine QD (j:=j) List.nodup_range (fg.mpr hj) (by rw[hn];rfl) ?_ fun a ha=>?_
 ·have:(owner.setIfInBounds j (some k)).getD j none=some k:=by simp[eL,hs,hj]
  rw[this];rfl
 ·have:(owner.setIfInBounds j (some k)).getD a none=owner.getD a none:=by simp only[kH];rw[Array.getElem?_setIfInBounds_ne (de ha)]
  rw[this]
structure LC (t:bq)(hs:List Int)(owner:Array (Option Nat))(k:Nat):Prop where
 sz:owner.size=t.mask + 1
 pm:((iw (t.mask + 1) owner).map (·.2)).Perm (cn k)
 reach:∀j i,(j,i)∈iw (t.mask + 1) owner->∃h,hs[i]?=some h/\∃s,pos t h s=j/\∀s',s' < s->¬jK owner (pos t h s')
theorem ZW{owner:Array (Option Nat)}{j:Nat}(h:jK owner j):j < owner.size/\owner.getD j none=none:=by
 unfold jK at h;by_cases c:j < owner.size
 ·simp only[eL,c,dif_pos]at h ⊢;exact⟨trivial,h⟩
 ·simp[eL,c]at h
theorem LC.step{t:bq}{hs:List Int}{owner:Array (Option Nat)}{k:Nat}(g:LC t hs owner k)(pw:∃q,t.mask + 1=2 ^ q)(hk:k<=t.mask){h:Int}(hh:hs[k]?=some h) :
  ∃j,layClean.free t.mask owner (turns t.mask) (bits h % (t.mask + 1)) (bits h)=some j/\LC t hs (owner.setIfInBounds j (some k)) (k + 1):=by
 obtain⟨q,hq⟩:=pw;have emp:∃e,e<=t.mask/\jK owner e:=by
  refine sf fun c=>?_;have all:∀e,e < t.mask + 1->∃i,(e,i)∈iw (t.mask + 1) owner:=fun e he=>by
   cases z:owner.getD e none with
   |some i=>exact⟨i,qL.mpr ⟨he,z⟩⟩
   |none =>
    refine absurd ⟨e,by lia,?_⟩ c;have hl:e < owner.size:=by rw[g.sz];exact he
    simp only[jK,eL,hl,dif_pos]at z ⊢;exact z
  have l1:(iw (t.mask + 1) owner).length=k:=by have:=g.pm.length_eq;simpa using this
  have l2:((iw (t.mask + 1) owner).map (·.1))=cn (t.mask + 1):=by
   unfold iw;rw[xc];have:(cn (t.mask + 1)).filterMap (fun x=>Option.map (·.1) (Option.map (x,·) (owner.getD x none)))=(cn (t.mask + 1)).filterMap some:=by refine xG fun x hx=>?_;obtain⟨i,hi⟩:=all x (fg.mp hx);rw[(qL.mp hi).2];rfl
   rw[this];simp
  have l3:=congrArg f9 l2;simp at l3;lia
 obtain⟨e,he,hN⟩:=emp;obtain⟨n,hn,en⟩:=aej hq (bits h % (t.mask + 1)) (bits h) (ZV h) he;obtain⟨j,s,f1,f2,f3,f4⟩:=abp (t:=t) rfl owner (turns t.mask) (bits h % (t.mask + 1)) (bits h) n (by unfold turns;lia) (by rw[en];exact hN);obtain⟨hj,hjn⟩:=ZW f3;have hp:=WW (k:=k) g.sz (by rw[<- g.sz];exact hj) hjn;have stays:∀a,¬jK owner a->¬jK (owner.setIfInBounds j (some k)) a:=fun a ha z=>by
  by_cases c:a=j
  ·subst c;have:=ZW z;simp[eL,hj]at this
  ·apply ha;unfold jK at z ⊢;simp only[kH]at z ⊢;rw[Array.getElem?_setIfInBounds_ne (de c)]at z;exact z
 refine⟨j,f1,⟨by simp[g.sz],?_,fun j' i' hm=>?_⟩⟩
 ·have:=(hp.map (fun(x:Nat×Nat)=>x.2)).trans (ie.cons k g.pm);refine this.trans ?_;rw[List.range_succ];exact kK (l₁:=[k]) (l₂:=cn k)
 ·rcases bz.mp (hp.mem_iff.mp hm) with z|z
  ·cases z;exact⟨h,hh,s,f2,fun s' hs'=>stays _ (f4 s' hs')⟩
  ·obtain⟨h',e1,s1,e2,e3⟩:=g.reach j' i' z;exact⟨h',e1,s1,e2,fun s' hs'=>stays _ (e3 s' hs')⟩
theorem aem{mask i:Nat}(h:i<=mask):i + (runEnd mask i - i)<=mask:=by unfold runEnd;split <;> lia
theorem anb(t:bq)(p:Probe)(h:p.j + p.more<=t.mask):∀s,(lN t s p).j + (lN t s p).more<=t.mask:=by
 intro s
 induction s with
 |zero=>exact h
 |succ s ih =>
  rw[jJ];unfold advance;split
  ·simp only;lia
  ·exact aem (Nat.le_of_lt_succ (mN _ (by lia)))
theorem aen(t:bq)(h:Int)(s:Nat):pos t h s<=t.mask:=by have:=anb t (t.probeStart h) (aem (Nat.le_of_lt_succ (mN _ (by lia)))) s;unfold pos;lia
theorem aeo{t:bq}(pw:∃q,t.mask + 1=2 ^ q)(hs:List Int)(hn:hs.length<=t.mask):∀(rest pre:List Int) (owner:Array (Option Nat)),hs=pre++rest->LC t hs owner pre.length ->
  ∃Ku,rest.foldl (init:=some (owner,pre.length)) (fun acc h=>do
    let (owner,k) <- acc
    let j <- layClean.free t.mask owner (turns t.mask) (bits h % (t.mask + 1)) (bits h)
    pure (owner.setIfInBounds j (some k),k + 1))=some (Ku,hs.length)/\LC t hs Ku hs.length:=by
 intro rest
 induction rest with
 |nil =>
  intro pre owner e g;rw[kC]at e;subst e;exact⟨owner,rfl,g⟩
 |cons h rest ih =>
  intro pre owner e g;have hk:hs[pre.length]?=some h:=by rw[e];simp
  have hl:pre.length<=t.mask:=by rw[e]at hn;simp at hn;lia
  obtain⟨j,f1,g1⟩:=g.step pw hl hk;obtain⟨Ku,e1,g2⟩:=ih (pre++[h]) (owner.setIfInBounds j (some pre.length)) (by rw[e];simp) (by simpa using g1);refine⟨Ku,?_,g2⟩;rw[jI];have:(some (owner,pre.length) >>= fun x=>match x with
    | (owner,k)=>layClean.free t.mask owner (turns t.mask) (bits h % (t.mask + 1)) (bits h) >>= fun j=>pure (owner.setIfInBounds j (some k),k + 1))=some (owner.setIfInBounds j (some pre.length),(pre++[h]).length):=by
   show(layClean.free t.mask owner (turns t.mask) (bits h % (t.mask + 1)) (bits h) >>= fun j=>pure (owner.setIfInBounds j (some pre.length),pre.length + 1))=_;rw[f1];simp
  exact(congrArg (fun o=>rest.foldl _ o) this).trans e1
theorem LC.start(t:bq)(hs:List Int):LC t hs (sg (t.mask + 1) none) 0:=by
 have e:iw (t.mask + 1) (sg (t.mask + 1) none)=[]:=by
  unfold iw;rw[List.filterMap_eq_nil_iff];intro j hj;have:(sg (t.mask + 1) (none:Option Nat)).getD j none=none:=by simp only[kH,Array.getElem?_replicate];split <;> rfl
  rw[this];rfl
 refine⟨by simp,by rw[e];exact .refl _,fun j i h=>?_⟩;rw[e]at h;cases h
theorem QF{t:bq}(pw:∃q,t.mask + 1=2 ^ q)(hs:Array Int)(hn:hs.size<=t.mask):∃owner,layClean t.mask hs=some owner/\LC t hs.toList owner hs.size:=by obtain⟨owner,e,g⟩:=aeo pw hs.toList (by simpa using hn) hs.toList [] (sg (t.mask + 1) none) rfl (LC.start t _);refine⟨owner,?_,by simpa using g⟩;unfold layClean;rw[<- Array.foldl_toList];have e':=congrArg (Option.map (·.1)) e;exact e'
theorem Kv:∀(fuel size n:Nat),(∃q,size=2 ^ q)->8<=size->n < size * 2 ^ fuel->∃q,sizeAbove.go n fuel size=2 ^ q/\8<=sizeAbove.go n fuel size/\n < sizeAbove.go n fuel size/\(sizeAbove.go n fuel size=size∨sizeAbove.go n fuel size<=2 * n):=by
 intro fuel
 induction fuel with
 |zero=>intro size n ⟨q,hq⟩ h8 h;exact⟨q,hq,h8,by simpa[sizeAbove.go] using h,.inl rfl⟩
 |succ fuel ih =>
  intro size n ⟨q,hq⟩ h8 h;unfold sizeAbove.go;by_cases c:size<=n
  ·rw[if_pos c];obtain⟨q',a1,a2,a3,a4⟩:=ih (size * 2) n ⟨q + 1,by rw[hq,k5]⟩ (by lia) (by rw[rh,<- Nat.pow_succ'];exact h);refine⟨q',a1,a2,a3,.inr ?_⟩;rcases a4 with a4|a4
   ·rw[a4];lia
   ·exact a4
  ·rw[if_neg c];exact⟨q,hq,h8,by lia,.inl rfl⟩
theorem mL(n:Nat)(hn:n < 2 ^ 60):(∃q,sizeAbove n - 1 + 1=2 ^ q)/\7<=sizeAbove n - 1/\n<=sizeAbove n - 1/\(sizeAbove n - 1=7∨sizeAbove n<=2 * n):=by
 obtain⟨q,a1,a2,a3,a4⟩:=Kv 64 8 n ⟨3,rfl⟩ (br _) (wt hn (by decide));unfold sizeAbove;refine⟨⟨q,by rw[<- a1];lia⟩,by lia,by lia,?_⟩;rcases a4 with a4|a4
 ·left;lia
 ·right;exact a4
theorem uD{mask:Nat}(pw:∃q,mask + 1=2 ^ q)(m7:7<=mask)(finger moves:Nat)(led plain:Bool)(es:List (Int×aa))(hn:es.length<=mask) :
  ∃t' order L,laid mask finger moves led plain (es.map (·.1)).toArray=some (t',order)/\t'.mask=mask/\t'.led=led/\t'.plain=plain/\t'.moves=moves/\Good t' L/\order.filterMap (fun i=>es.toArray[i]?)=(L.map (·.2)).toArray/\(L.map (·.2)).Perm es:=by
 let t0:bq:={ mask,place:=#[],dummies:=#[],finger,led,moves,plain }
 obtain⟨owner,e1,g⟩:=QF (t:=t0) pw (es.map (·.1)).toArray (by simpa using hn)
 let live:=iw (mask + 1) owner
 let t1:bq:={ mask,place:=(live.map (·.1)).toArray,dummies:=#[],finger,led,moves,plain }
 have hi:∀j i,(j,i)∈live->∃e,es[i]?=some e:=fun j i h=>by obtain⟨hh,a1,_⟩:=g.reach j i h;simp only[cE,se]at a1;obtain⟨e,a2,_⟩:=a1;exact⟨e,a2⟩
 let L:List jT:=live.filterMap fun x=>(es[x.2]?).map fun e=>(x.1,e)
 have hL1:∀l:List (Nat×Nat),(∀x∈l,∃e,es[x.2]?=some e)->(l.filterMap fun x=>(es[x.2]?).map fun e=>((x.1,e):jT)).map (·.1)=l.map (·.1):=by
  intro l
  induction l with
  |nil=>intro _;rfl
  |cons x l ih =>
   intro h;obtain⟨e,he⟩:=h x dA;rw[oI (by rw[he];rfl),ck,ck,ih fun y hy=>h y (dQ _ hy)]
 have hL2:∀l:List (Nat×Nat),(l.filterMap fun x=>(es[x.2]?).map fun e=>((x.1,e):jT)).map (·.2)=(l.map (·.2)).filterMap fun i=>es[i]?:=by intro l;rw[xc,List.filterMap_map];refine xG fun x _=>?_;simp only[Function.comp];cases es[x.2]? <;> rfl
 have rg:∀l:List (Int×aa),(cn l.length).filterMap (fun i=>l[i]?)=l:=by
  intro l
  induction l with
  |nil=>rfl
  |cons a l ih =>
   rw[cx,oB,oI (by rfl),List.filterMap_map];congr 1
 have pmL:(L.map (·.2)).Perm es:=by
  show((live.filterMap fun x=>(es[x.2]?).map fun e=>((x.1,e):jT)).map (·.2)).Perm es;rw[hL2];have:=(g.pm.filterMap fun i=>es[i]?)
  have e2:(es.map (·.1)).toArray.size=es.length:=by simp
  rw[e2]at this;rw[rg]at this;exact this
 refine⟨t1,(live.map (·.2)).toArray,L,?_,rfl,rfl,rfl,rfl,⟨pw,m7,rfl,?_,?_,fun e he=>?_,fun e he=>?_⟩,?_,pmL⟩
 ·unfold laid;have e1':layClean mask (es.map (·.1)).toArray=some owner:=e1;rw[e1'];rfl
 ·show(live.map (·.1)).toArray=_;rw[show L.map (·.1)=live.map (·.1) from hL1 live fun x hx=>hi x.1 x.2 hx]
 ·rw[show L.map (·.1)=live.map (·.1) from hL1 live fun x hx=>hi x.1 x.2 hx];exact Gh
 ·obtain⟨x,hx,h2⟩:=kb.mp he;obtain⟨e',_,rfl⟩:=se.mp h2;have:=(qL (j:=x.1) (i:=x.2)).mp hx;show x.1<=mask;lia
 ·obtain⟨x,hx,h2⟩:=kb.mp he;obtain⟨e',h3,rfl⟩:=se.mp h2;obtain⟨hh,a1,s,a2,a3⟩:=g.reach x.1 x.2 hx;simp only[cE,h3,oP,Option.some.injEq]at a1;subst a1;have pm:∀s,pos t1 e'.1 s=pos t0 e'.1 s:=fun s=>sy (t:=t1) (t':=t0) rfl _ s;refine⟨s,by rw[pm];exact a2,fun s' hs=>?_⟩;have nn:=a3 s' hs;have hlt:pos t0 e'.1 s' < mask + 1:=Nat.lt_succ_of_le (aen t0 e'.1 s');cases z:owner.getD (pos t0 e'.1 s') none with
  |none =>
   refine absurd ?_ nn;have hl:pos t0 e'.1 s' < owner.size:=by rw[g.sz];exact hlt
   simp only[jK,eL,hl,dif_pos]at z ⊢;exact z
  |some i =>
   have hm:(pos t0 e'.1 s',i)∈live:=qL.mpr ⟨hlt,z⟩;obtain⟨e2,he2⟩:=hi _ _ hm;refine⟨(pos t0 e'.1 s',e2),kb.mpr ⟨_,hm,by rw[he2];rfl⟩,by rw[pm]⟩
 ·rw[show L.map (·.2)=(live.map (·.2)).filterMap fun i=>es[i]? from hL2 live];simp
end Tb
namespace Tb
open PySem PySem.Spec PySem.SetTable
abbrev TK(prog:aE)(w:az):=oi (bE prog w)
abbrev hK(prog:aE)(w:az)(ks:List Int):Int:=tupleKeyHash (bE prog w) ks
def Kw(prog:aE)(w:az)(h:Heap)(e:jT)(ks:List Int):Prop:=∃b,e.2.2=.ref b/\cv (bE prog w) h ks b/\e.2.1=hK prog w ks
section
variable{prog:aE}{w:az}{A:a_}{E:aa->af->Prop}{s:af}
theorem Ky{n:Nat}{v:aa}(h:si v=true):sj n v=pure false:=by
 cases v with
 |ref a=>simp[si]at h
 |_=>first|rfl|(unfold sj;rfl)
theorem xH{ks:List Int}{b:ab}{Q:Bool->af->Prop}(hk:cv (bE prog w) s.heap ks b)(h:Q false s):ag (ah prog w) A (sj 8 (.ref b)) Q E s:=by
 have hT:=hk.typeIs;obtain⟨o,items,n,ho,hc,hd,hi⟩:=hk;unfold sj;refine ae (mT hT ?_);simp only[beq_self_eq_true,if_true];refine ae (ar ?_);simp only[dS,aS,if_false];refine ae (ku ho hd ?_);refine ae ?_;show ag _ _ (forIn items _ _) _ _ s;rw[<- m8];refine sk _ (fun rest r s'=>r.1=none/\s'=s/\∀v∈rest,si v=true) _ ?_ ?_ _ _ ⟨rfl,rfl,hi.byValue⟩
 ·rintro v rest r s' ⟨hr,rfl,hall⟩;rw[Ky (hall v dA)];refine ae (ar ?_);simp only[aS,if_false];exact ar ⟨rfl,rfl,fun u hu'=>hall u (dQ _ hu')⟩
 ·rintro⟨r1,r2⟩ s' ⟨hr,rfl,_⟩;simp only at hr;subst hr;exact ar h
theorem Kz{ks:List Int}{b:ab}{Q:Bool->af->Prop}(hk:cv (bE prog w) s.heap ks b)(ys:List aa)(hy:∀y∈ys,∃k' b',y=.ref b'/\cv (bE prog w) s.heap k' b')(h:Q false s) :
  ag (ah prog w) A (searchCouldBeSeen (.ref b) ys) Q E s:=by
 unfold searchCouldBeSeen;refine ae ?_;refine sk _ (fun rest r s'=>r.1=none/\s'=s/\∀y∈rest,∃k' b',y=.ref b'/\cv (bE prog w) s.heap k' b') _ ?_ ?_ _ _ ⟨rfl,rfl,hy⟩
 ·rintro v rest r s' ⟨hr,rfl,hall⟩;obtain⟨k',b',rfl,hk'⟩:=hall v dA;have ZX:∀y∈rest,∃k' b',y=aa.ref b'/\cv (bE prog w) s'.heap k' b':=fun y hy=>hall y (dQ _ hy);dsimp only;by_cases c:b=b'
  ·subst c;simp only[beq_self_eq_true,Bool.true_or,if_true];exact ar ⟨rfl,rfl,ZX⟩
  ·have hc:(b == b')=false:=by simpa using c
   simp only[hc,si,kT,sm,aS,if_false];refine ae (wpAny_eqIsQuiet_tuple hk ?_);simp only[dS,aS,if_false];refine ae (wpAny_eqIsQuiet_tuple hk' ?_);simp only[dS,aS,if_false];refine ae (xH hk ?_);simp only[aS,if_false];refine ae (xH hk' ?_);simp only[aS,if_false];exact ar ⟨rfl,rfl,ZX⟩
 ·rintro⟨r1,r2⟩ s' ⟨hr,rfl,_⟩;simp only at hr;subst hr;exact ar h
theorem sG{a:ab}{Q:Bool->af->Prop}(h:Q true s):ag (ah prog w) A (isSame (.ref a) (.ref a)) Q E s:=by unfold isSame;simp only[beq_self_eq_true,if_true];exact ar h
end
section
variable{prog:aE}{w:az}{A:a_}{E:aa->af->Prop}{s:af}
abbrev cL(L:List jT)(ep:Nat)(t:bq):Obj:={ cls:=.type "set",dict:=none,data:=.set (L.map (·.2)).toArray ep t }
theorem Good.fits{t:bq}{L:List jT}(g:Good t L)(hl:L.length<=t.mask):t.fits ((L.map (·.2)).toArray).size=true:=by
 unfold j3.fits;have h1:t.fill<=t.mask:=by unfold fill;rw[g.nd,g.sz];simpa using hl
 simp[g.sz,h1]
theorem Good.odd{t:bq}{L:List jT}(g:Good t L):t.gaveWay=false:=by
 obtain⟨k,hk⟩:=g.pw;have h7:=g.m7;unfold gaveWay;cases k with
 |zero=>simp at hk;lia
 |succ k =>
  have:t.mask % 2=1:=by rw[k5]at hk;lia
  simp[this]
theorem WX{a b:ab}{ks:List Int}{L:List jT}{ep:Nat}{t:bq}{f:jT->List Int}{Q:SetFound->af->Prop}(ho:s.heap.get? a=some (cL L ep t))(g:Good t L)(hl:L.length<=t.mask)(hf:∀e∈L,Kw prog w s.heap e (f e))
  (hb:cv (bE prog w) s.heap ks b) (hu:A.units < be) (q1:(∃e∈L,f e=ks)->Q (.there none) s)
  (q2:∀j,j<=t.mask->¬qK t j->(∃n,pos t (hK prog w ks) n=j/\∀n',n' < n->∃e'∈L,e'.1=pos t (hK prog w ks) n')->(∀e∈L,f e≠ks)->Q (.free j false) s) :
  ∀(fuel s0 sE:Nat) (nQ:Option Probe),s0<=sE->sE < s0 + fuel->sE < s0 + 10 * turns t.mask->¬qK t (pos t (hK prog w ks) sE)->nQ.getD (t.probeStart (hK prog w ks))=lN t s0 (t.probeStart (hK prog w ks)) ->
   (∀n,n < s0->∃e∈L,e.1=pos t (hK prog w ks) n/\f e≠ks)->ag (ah prog w) A (ij a (.ref b) (hK prog w ks) true fuel nQ) Q E s:=by
 intro fuel
 induction fuel with
 |zero=>intro s0 sE _ h1 h2;lia
 |succ fuel ih =>
  intro s0 sE nQ h1 h2 h2' hE hst hpre;unfold ij;refine ae (d7 ho rfl (g.fits hl) ?_);simp only[g.odd,aS,if_false];obtain⟨s2,a1,a2,a3,a4⟩:=QC g.rise g.nd (fun i=>((((L.map (·.2)).toArray)[i]?).map (·.1)).getD 0) (hK prog w ks) (10 * turns t.mask) s0 sE h1 h2' hE;have hh:∀i (hi:i < L.length),((((L.map (·.2)).toArray)[i]?).map (·.1)).getD 0=L[i].2.1:=fun i hi=>by simp[hi]
  have passed:∀n,n < s2->∃e∈L,e.1=pos t (hK prog w ks) n/\f e≠ks:=fun n hn=>by
   by_cases c:n < s0
   ·exact hpre n c
   ·obtain⟨i,hi,e1,e2⟩:=a3 n (by lia) hn;rw[g.sz]at hi;rw[g.at hi]at e1;rw[hh i hi]at e2;refine⟨L[i],dm hi,e1,fun z=>e2 ?_⟩;obtain⟨b',_,_,e3⟩:=hf _ (dm hi);rw[e3,z]
  rcases a4 with ⟨hne,hp⟩|⟨i,hi,e1,e2,hp⟩
  ·-- an empty slot
   have hp':t.probe (fun i=>((((L.map (·.2)).toArray)[i]?).map (·.1)).getD 0) (hK prog w ks) (nQ.getD (t.probeStart (hK prog w ks)))=some (.empty (pos t (hK prog w ks) s2) none):=by rw[hst];exact hp
   generalize hr:t.probe _ (hK prog w ks) (nQ.getD (t.probeStart (hK prog w ks)))=r;obtain rfl:r=_:=hr.symm.trans hp';simp only;refine ar (q2 _ (aen t _ _) hne ⟨s2,rfl,fun n hn=>?_⟩ fun e he z=>?_)
   ·obtain⟨e,he,q,_⟩:=passed n hn;exact⟨e,he,q⟩
   ·obtain⟨b',_,_,e3⟩:=hf e he;obtain⟨n,r1,r2⟩:=g.reach e he;rw[e3,z]at r1 r2;by_cases c:n < s2
    ·obtain⟨e',he',q,ne⟩:=passed n c;have:=g.uniq he' he (q.trans r1);subst this;exact ne z
    ·by_cases d:s2 < n
     ·obtain⟨e',he',q⟩:=r2 s2 d;exact hne (g.live.mpr ⟨e',he',q⟩)
     ·obtain rfl:n=s2:=by lia
      exact hne (g.live.mpr ⟨e,he,r1.symm⟩)
  ·-- a key with the same hash
   rw[g.sz]at hi;have e1':=e1;rw[g.at hi]at e1;obtain⟨b',hv,hk',hx⟩:=hf _ (dm hi);have hp':t.probe (fun i=>((((L.map (·.2)).toArray)[i]?).map (·.1)).getD 0) (hK prog w ks) (nQ.getD (t.probeStart (hK prog w ks)))=some (.candidate (pos t (hK prog w ks) s2) i (lN t (s2 + 1) (t.probeStart (hK prog w ks)))):=by rw[hst];exact hp
   generalize hr:t.probe _ (hK prog w ks) (nQ.getD (t.probeStart (hK prog w ks)))=r;obtain rfl:r=_:=hr.symm.trans hp';simp only;have ei:((L.map (·.2)).toArray)[i]?=some (L[i].2.1,.ref b'):=by
    have:((L.map (·.2)).toArray)[i]?=some L[i].2:=by simp[hi]
    rw[this,<- hv]
   have rest:ag (ah prog w) A (do
     let some (_,y):=((L.map (·.2)).toArray)[i]?|unsupported "internal:set-entry"
     let equal <- ef [y] (eqBool y (.ref b))
     let (es',_,t') <- setState a
     if true && equal then return .there none
     let some same:=t'.sameMemory t.moves t.mask|unsupported "set.changed-during-lookup:is-the-new-block-at-the-old-address"
     let still <- match (if same then t'.slot (pos t (hK prog w ks) s2) else .empty) with
      | .live i'=>match es'[i']? with
       |some (_,y')=>do pure (if <- isSame y' y then some i' else none)
       |none=>pure none
      |_=>pure none
     match still with
     |none=>rule "set.search.anew";ij a (.ref b) (hK prog w ks) true fuel none
     |some i'=>if equal then return .there (some i') else ij a (.ref b) (hK prog w ks) true fuel (some (lN t (s2 + 1) (t.probeStart (hK prog w ks))))) Q E s:=by
    rw[ei];simp only;refine ae (dP ((TK prog w).eqBool hu hk' hb ?_));refine ae (d7 ho rfl (g.fits hl) ?_);by_cases c:f L[i]=ks
    ·simp only[c,decide_true,Bool.and_self,if_true];exact ar (q1 ⟨_,dm hi,c⟩)
    ·simp only[c,decide_false,oC,aS,if_false];have hsm:t.sameMemory t.moves t.mask=some true:=by unfold sameMemory;simp
     rw[hsm];simp only[if_true];have hsl:t.slot (pos t (hK prog w ks) s2)=.live i:=by rw[<- e1'];exact uz g.rise (by rw[g.sz];exact hi)
     rw[hsl];simp only[ei];refine ae (sG (ae (ar ?_)));simp only[if_true];have hne:s2≠sE:=fun z=>hE (z▸g.live.mpr ⟨_,dm hi,e1⟩);refine ih (s2 + 1) sE _ (by lia) (by lia) (by lia) hE rfl fun n hn=>?_;by_cases d:n=s2
     ·subst d;exact⟨_,dm hi,e1,c⟩
     ·exact passed n (by lia)
   cases apM:t.led with
   |true=>simp only[dS,aS,if_false];exact rest
   |false =>
    simp only[j6,if_true];refine ae (Kz hb _ (fun y hy=>?_) ?_)
    ·obtain⟨e,he,rfl⟩:=b0.mp hy;have he':e∈(L.map (·.2)):=by have:=xh.mp he;have:=(xi.mp this).1;simpa using this
     obtain⟨e0,h0,rfl⟩:=b0.mp he';obtain⟨b2,hv2,hk2,_⟩:=hf e0 h0;exact⟨_,b2,hv2,hk2⟩
    ·simp only[aS,if_false];exact rest
end
section
variable{prog:aE}{w:az}{A:a_}{E:aa->af->Prop}{s:af}
theorem QG{ks:List Int}{b:ab}{Q:Bool->af->Prop}(hk:cv (bE prog w) s.heap ks b)(h:Q true s):ag (ah prog w) A (sq 8 (.ref b)) Q E s:=by
 have hT:=hk.typeIs;obtain⟨o,items,n,ho,hc,hd,hi⟩:=hk;have allI:∀v∈items.toList,∃i t,v=.int i t:=by
  clear hd;generalize items.toList=l at hi
  induction hi with
  |nil=>intro v hv;cases hv
  |cons h1 _ ih =>
   intro v hv;rcases bz.mp hv with rfl|hv
   ·cases v with
    |int i t=>exact⟨i,t,rfl⟩
    |_=>simp[bE,lz]at h1
   ·exact ih v hv
 unfold sq;refine ae (m9 hT F.slot_tuple_hash.lookup ?_);simp only;refine ae (ku ho hd ?_);simp only[oQ];refine ae ?_;rw[<- m8];refine sk _ (fun rest r s'=>r.1=none/\s'=s/\∀v∈rest,∃i t,v=.int i t) _ ?_ ?_ _ _ ⟨rfl,rfl,allI⟩
 ·rintro v rest r s' ⟨hr,rfl,hall⟩;obtain⟨i,t,rfl⟩:=hall v dA;have:sq 7 (.int i t)=pure true:=by unfold sq;rfl
  rw[this];refine ae (ar ?_);simp only[dS,aS,if_false];exact ar ⟨rfl,rfl,fun u hu'=>hall u (dQ _ hu')⟩
 ·rintro⟨r1,r2⟩ s' ⟨hr,rfl,_⟩;simp only at hr;subst hr;exact ar h
abbrev qM(w:az):Bool:=w.params.followText "set-order"
def bL(prog:aE)(w:az)(U:ab->List Int->Prop)(h:Heap)(a:ab)(aH:List (List Int)):Prop :=
 ∃(L:List jT) (ep:Nat) (t:bq) (f:Int×aa->List Int),h.get? a=some (cL L ep t)/\Good t L/\L.length * 5 < t.mask * 3/\t.mask < 8000/\(t.plain=true/\t.led=!qM w)/\(∀e∈L,Kw prog w h e (f e.2))/\(L.map fun e=>f e.2).Perm aH/\aH.Nodup/\∀e∈L,∀b,e.2.2=.ref b->U b (f e.2)
theorem lO{h h':Heap}{a:ab}{L:List jT}{ep:Nat}{t:bq}{ks:List Int}{b:ab}(ho:h.get? a=some (cL L ep t))(hs:cS a h h')(hk:cv (bE prog w) h ks b):cv (bE prog w) h' ks b:=by
 obtain⟨o,items,n,h1,h2,h3,h4⟩:=hk;have ne:b≠a:=fun z=>by subst z;rw[ho]at h1;cases h1;cases h3
 exact⟨o,items,n,(hs.2 b ne).trans h1,h2,h3,h4⟩
theorem nR{a:ab}{L L':List jT}{ep:Nat}{t t':bq}{Q:Unit->af->Prop}(ho:s.heap.get? a=some (cL L ep t))(hz:L'.length<=1000000)(h:∀h',cS a s.heap h'->h'.get? a=some (cL L' (ep + 1) t')->Q () { s with heap:=h' }) :
  ag (ah prog w) A (oS a (L'.map (·.2)).toArray t') Q E s:=by
 refine wpAny_storeSet_of ho rfl (h _ (m_ s.heap a _) ?_) (by rw[d8];simp;lia);have hd:(cL L ep t).data=.set (L.map (·.2)).toArray ep t:=rfl;have:=fy (Obj.putSet (L'.map (·.2)).toArray t') ho (by rw[putSet_of _ _ hd];rfl);rw[putSet_of _ _ hd]at this;exact this
theorem aep{a:ab}{L:List jT}{ep:Nat}{t:bq}{Q:Unit->af->Prop}(ho:s.heap.get? a=some (cL L ep t))(g:Good t L)(hl:L.length<=t.mask)(h1:1<=L.length)(hz:L.length<=1000)(hp:t.plain=true)
  (h:∀h' L' t',cS a s.heap h'->h'.get? a=some (cL L' (ep + 1) t')->Good t' L'->L'.length * 5 < t'.mask * 3->(t'.mask=7∨t'.mask + 1<=8 * L'.length)->(t'.plain=true/\t'.led=t.led)->(L'.map (·.2)).Perm (L.map (·.2))->Q () { s with heap:=h' }) :
  ag (ah prog w) A (o3 a (grown L.length)) Q E s:=by
 have hg:grown L.length=L.length * 4:=by unfold grown;rw[if_neg (by lia)]
 rw[hg];obtain⟨s1,s2,s3,s4⟩:=mL (L.length * 4) (by lia);unfold o3;refine ae (d7 ho rfl (g.fits hl) ?_);have hsz:¬sizeAbove (L.length * 4) > sizeLine:=by rw[d8];lia
 simp only[hsz,if_false];obtain⟨t',order,L',e1,e2,e3,e4,e5,g',e6,e7⟩:=uD s1 s2 t.finger (t.movedTo (sizeAbove (L.length * 4) - 1)) t.led t.plain (L.map (·.2)) (by simp;lia);have hlen:L'.length=L.length:=by have:=e7.length_eq;simpa using this
 have er:t.relaid (((L.map (·.2)).toArray).map (·.1)) (L.length * 4)=some (t',order):=by
  unfold relaid;have:((L.map (·.2)).toArray).map (·.1)=((L.map (·.2)).map (·.1)).toArray:=by simp
  rw[this];exact e1
 have main:ag (ah prog w) A (do
   let some (t,order):=t.relaid (((L.map (·.2)).toArray).map (·.1)) (L.length * 4)|unsupported "internal:set-table-without-room"
   let es':=order.filterMap (((L.map (·.2)).toArray)[·]?)
   if es'.size != ((L.map (·.2)).toArray).size then unsupported "internal:set-table-lost-an-element"
   pure (es',t)) (fun r s'=>ag (ah prog w) A (oS a r.1 r.2) Q E s') E s:=by
  rw[er];simp only;rw[e6];have:((L'.map (·.2)).toArray.size != ((L.map (·.2)).toArray).size)=false:=by simp[hlen]
  rw[this];simp only[aS,if_false];refine ar ?_;refine nR (t':=t') ho (by lia) fun h' hs hg=>h h' L' t' hs hg g' (by rw[e2,hlen];lia) ?_ ⟨e4.trans hp,e3⟩ e7;rw[e2,hlen];rcases s4 with s4|s4
  ·exact .inl s4
  ·right;lia
 exact ae main
end
section
variable{prog:aE}{w:az}{U:ab->List Int->Prop}{A:a_}{E:aa->af->Prop}{s:af}
theorem bL.len{h:Heap}{a:ab}{aH:List (List Int)}(x:bL prog w U h a aH):∃(L:List jT) (ep:Nat) (t:bq),h.get? a=some (cL L ep t)/\L.length=aH.length:=by obtain⟨L,ep,t,f,ho,_,_,_,_,_,hp,_⟩:=x;exact⟨L,ep,t,ho,by have:=hp.length_eq;simpa using this⟩
theorem qN{a b:ab}{ks:List Int}{aH:List (List Int)}{Q:Bool->af->Prop}(hS:bL prog w U s.heap a aH)(hn:aH.length < 1000)(hb:cv (bE prog w) s.heap ks b)(hU:U b ks)(hu:A.units < be)
  (h:∀h' added,cS a s.heap h'->bL prog w U h' a (if ks∈aH then aH else ks::aH)->Q added { s with heap:=h' }):ag (ah prog w) A (xj a (.ref b) (hK prog w ks)) Q E s:=by
 have hS0:=hS;obtain⟨L,ep,t,f,ho,g,room,mb,⟨pl,ld⟩,hf,hp,nd,uu⟩:=hS;have hlen:L.length=aH.length:=by have:=hp.length_eq;simpa using this
 have h7:=g.m7;have hl:L.length<=t.mask:=by lia
 have alm:t.mask < 8000:=mb;have self:∀added,(ks∈aH)->Q added s:=fun added hm=>by have:=h s.heap added (iF a s.heap) (by rw[if_pos hm];exact hS0);cases s;exact this
 unfold xj;refine dP ?_;unfold setAddHashedIn;refine ae (d7 ho rfl (g.fits hl) ?_);have hby:nc (.ref b) (L.map (·.2)).toArray=false:=by simp[nc,xk]
 simp only[hby,aS,if_false];obtain⟨e0,he0,hE0⟩:=Dt g.rise (by rw[g.sz];exact hl);obtain⟨k,hk⟩:=g.pw;obtain⟨sE,_,hsE,pE⟩:=Kr hk (hK prog w ks) 0 he0;refine ae ?_;unfold setSearch;refine WX (f:=fun e=>f e.2) (Q:=fun r s'=>ag (ah prog w) A (match r with
  | .free slot wasDummy=>_
  |_=>_) Q E s') ho g hl hf hb hu (fun hm=>?_) (fun j hj hnl hr hno=>?_) 100000 0 sE none (eC _) (by lia) (by unfold turns;lia) (by rw[pE];exact hE0) rfl (fun n hn=>absurd hn (by lia))
 ·obtain⟨e,he,q⟩:=hm;exact ar (self false (hp.mem_iff.mp (b0.mpr ⟨e,he,q⟩)))
 ·have hnk:¬ks∈aH:=fun z=>by obtain⟨e,he,q⟩:=b0.mp (hp.mem_iff.mpr z);exact hno e he q
  obtain⟨p1,g'⟩:=g.put (h:=hK prog w ks) (x:=.ref b) hj hnl hr;simp only;refine ae (d7 ho rfl (g.fits hl) ?_);have epl:(t.put j).1.plain=true:=by rw[Ks t g.nd];exact pl
  have emk:(t.put j).1.mask=t.mask:=by rw[Ks t g.nd]
  have eld:(t.put j).1.led=!qM w:=by rw[Ks t g.nd];exact ld
  generalize hpt:t.put j=tp at p1 g' epl emk eld;obtain⟨t',p⟩:=tp;simp only at p1 g' epl emk eld ⊢;simp only[epl,if_true];refine ae (QG hb ?_);simp only[if_true];have ein:insertAt (L.map (·.2)).toArray p (hK prog w ks,aa.ref b)=((L.take p++(j,hK prog w ks,aa.ref b)::L.drop p).map (·.2)).toArray:=by rw[pD _ _ (by simpa using p1)];simp[w8,w9]
  rw[ein];generalize hL':L.take p++(j,hK prog w ks,aa.ref b)::L.drop p=L' at g' ⊢;have hlen':L'.length=L.length + 1:=by rw[<- hL'];simp;lia
  have aer:L'.Perm ((j,hK prog w ks,aa.ref b)::L):=by rw[<- hL'];refine(List.perm_middle).trans ?_;rw[k6]
  have hfj:∀e∈L,e.2≠(hK prog w ks,aa.ref b):=fun e he z=>by obtain⟨b',h1,h2,h3⟩:=hf e he;rw[z]at h1;cases h1;exact hno e he (h2.inj hb)
  let f':Int×aa->List Int:=fun x=>if x=(hK prog w ks,aa.ref b) then ks else f x
  have keys:∀{h':Heap},cS a s.heap h'->∀e∈L',Kw prog w h' e (f' e.2):=fun {h'} hs e he=>by
   rcases bz.mp (aer.mem_iff.mp he) with z|z
   ·subst z;exact⟨b,rfl,by simp only[f',if_true];exact lO ho hs hb,by simp only[f',if_true]⟩
   ·obtain⟨b',h1,h2,h3⟩:=hf e z;have:f' e.2=f e.2:=by simp only[f'];rw[if_neg (hfj e z)]
    exact⟨b',h1,by rw[this];exact lO ho hs h2,by rw[this];exact h3⟩
  have aln:(L'.map fun e=>f' e.2).Perm (ks::aH):=by
   refine(aer.map _).trans ?_;simp only[ck,f',if_true];refine ie.cons _ ?_;have:(L.map fun e=>if e.2=(hK prog w ks,aa.ref b) then ks else f e.2)=L.map fun e=>f e.2:=o4 fun e he=>by rw[if_neg (hfj e he)]
   rw[this];exact hp
  have nd':(ks::aH).Nodup:=eQ.mpr ⟨hnk,nd⟩;have uu':∀e∈L',∀c,e.2.2=.ref c->U c (f' e.2):=fun e he c ec=>by
   rcases bz.mp (aer.mem_iff.mp he) with z|z
   ·subst z;cases ec;simp only[f',if_true];exact hU
   ·rw[show f' e.2=f e.2 by simp only[f'];rw[if_neg (hfj e z)]];exact uu e z c ec
  refine ae (nR (t':=t') ho (by lia) fun h1 hs1 ho1=>?_);have hfill:t'.fill=L'.length:=by unfold fill;rw[g'.nd,g'.sz];simp
  have esz:(L.map (·.2)).toArray.size + 1=L'.length:=by simp[hlen']
  cases htf:t'.tooFull with
  |false =>
   simp only[j6,oC,aS,if_false];refine ar (h h1 true hs1 ?_);rw[if_neg hnk];have hroom:L'.length * 5 < t'.mask * 3:=by unfold tooFull at htf;rw[hfill]at htf;simpa using htf
   exact⟨L',ep + 1,t',f',ho1,g',hroom,by rw[emk];exact mb,⟨epl,eld⟩,keys hs1,aln,nd',uu'⟩
  |true =>
   simp only[j6,qE,if_true];rw[esz];refine ae (aep (s:={ s with heap:=h1 }) ho1 g' (by rw[emk];lia) (by lia) (by lia) epl fun h2 L2 t2 hs2 ho2 g2 r2 m2 p2 pm2=>?_);refine ar (h h2 true (hs1.trans hs2) ?_);rw[if_neg hnk];have hv:∀e∈L2,∃e1∈L',e1.2=e.2:=fun e he=>by have:e.2∈L'.map (·.2):=pm2.mem_iff.mp (b0.mpr ⟨e,he,rfl⟩);obtain⟨e1,h1,h2⟩:=b0.mp this;exact⟨e1,h1,h2⟩
   have hl2:L2.length=L'.length:=by have:=pm2.length_eq;simpa using this
   refine⟨L2,ep + 1 + 1,t2,f',ho2,g2,r2,(by rcases m2 with z|z <;> lia),⟨p2.1,p2.2.trans eld⟩,fun e he=>?_,?_,nd',fun e he c ec=>let ⟨e1,h1,q⟩:=hv e he;by rw[<- q];exact uu' e1 h1 c (by rw[q];exact ec)⟩
   ·obtain⟨e1,he1,q⟩:=hv e he;obtain⟨b',k1,k2,k3⟩:=keys (hs1.trans hs2) e1 he1;rw[q]at k1 k2 k3;exact⟨b',k1,k2,k3⟩
   ·have:=(pm2.map f')
    rw[d5,d5]at this;exact this.trans aln
theorem abq{a b:ab}{ks:List Int}{aH:List (List Int)}{Q:Bool->af->Prop}(hS:bL prog w U s.heap a aH)(hn:aH.length < 1000)(hb:cv (bE prog w) s.heap ks b)(hU:U b ks)(hu:A.units < be)
  (h:∀h' added tk,cS a s.heap h'->bL prog w U h' a (if ks∈aH then aH else ks::aH)->Q added { s with heap:=h',toks:=s.toks + tk }):ag (ah prog w) A (setAdd a (.ref b)) Q E s:=by
 unfold setAdd;refine dP (ae (wpAny_pyHash_tuple hu hb ?_));exact qN (s:={ s with toks:=s.toks + (ks.length + 1) }) hS hn hb hU hu fun h' added hs hS'=>h h' added _ hs hS'
end
def ins(acc:List (List Int))(k:List Int):List (List Int):=if k∈acc then acc else k::acc
def bT(l:List (List Int)):List (List Int):=l.foldl ins []
theorem aiG(acc:List (List Int))(k:List Int):(ins acc k).length<=acc.length + 1:=by unfold ins;split <;> simp
theorem jZ(l:List (List Int)):(bT l).length<=l.length:=by
 unfold bT;have:∀(l acc:List (List Int)),(l.foldl ins acc).length<=acc.length + l.length:=by
  intro l
  induction l with
  |nil=>intro acc;simp
  |cons a l ih=>intro acc;rw[jI];have:=ih (ins acc a);have:=aiG acc a;simp only[cx];lia
 simpa using this l []
theorem anc(acc:List (List Int))(k:List Int):acc.length<=(ins acc k).length:=by unfold ins;split <;> simp
theorem Am(l:List (List Int))(k:List Int):bT (l++[k])=ins (bT l) k:=by unfold bT;rw[List.foldl_append];rfl
theorem Io(l:List (List Int)):∀m,(bT l).length<=(bT (l++m)).length
 | []=>by simp
 |x::m=>by have:=Io (l++[x]) m;rw[jS,List.singleton_append]at this;exact cz (by rw[Am];exact anc _ _) this
section
variable{prog:aE}{w:az}{U:ab->List Int->Prop}{A:a_}{R:Result->af->Prop}{I:ab}{fp wr:List ab}{G:Array l4->Array l4->Prop}{n:Nat}{P:Nat->aa->Prop}{St:Nat->af->Prop}
theorem bL.moved{h h':Heap}{a:ab}{aH:List (List Int)}(x:bL prog w U h a aH)(k:∀b o,(b=a∨∃ks,cv (bE prog w) h ks b)->h.get? b=some o->h'.get? b=some o):bL prog w U h' a aH:=by obtain⟨L,ep,t,f,ho,g,room,mb,pl,hf,hp,nd⟩:=x;refine⟨L,ep,t,f,k _ _ (.inl rfl) ho,g,room,mb,pl,fun e he=>?_,hp,nd⟩;obtain⟨b,h1,h2,h3⟩:=hf e he;have h2':=h2;obtain⟨o,items,m,q1,q2,q3,q4⟩:=h2;exact⟨b,h1,⟨o,items,m,k _ _ (.inr ⟨_,h2'⟩) q1,q2,q3,q4⟩,h3⟩
theorem WY{h:Heap}{b c:ab}{ks:List Int}{o:Obj}(hk:cv (bE prog w) h ks b)(hc:h.get? c=some o)(hd:∀xs m,o.data≠.seq xs m):b≠c:=fun z=>by subst z;obtain⟨o',items,m,q1,q2,q3,q4⟩:=hk;rw[hc]at q1;cases q1;exact hd _ _ q3
theorem alo(W:WalksS prog w A.in1 I fp wr G n P St)(D:ab)(hDf:D∉fp)(hu:A.in1.units < be)(ks:Nat->List Int)(hn:(bT ((cn n).map ks)).length < 1000)(hwt:∀i s,St i s->∀b∈wr,∀o,s.heap.get? b=some o->∀xs m,o.data≠.seq xs m) :
  ∀(k i:Nat) (s:af),n - i=k->i<=n->St i s->(∀j v,P j v->∃b,v=.ref b/\b∉wr/\cv (bE prog w) s.heap (ks j) b/\U b (ks j)) ->
   bL prog w U s.heap D (bT ((cn i).map ks)) ->
   (∀s',Moved (D::wr) G s s'->bL prog w U s'.heap D (bT ((cn n).map ks))->R (.ok (.ret .none)) s') ->
   f7 (ah prog w) A (.builtin "set.update.loop" ⟨[.ref D,.ref I],[]⟩) R s:=by
 have hDw:D∉wr:=fun h=>hDf (W.sub _ h);have sub:∀b∈wr,b∈D::wr:=fun b hb=>dQ _ hb;intro k
 induction k with
 |zero =>
  intro i s hk hi st hP hS hR;have hw:=hwt i s st;obtain rfl:i=n:=by lia
  refine gr PyProof.Rows.F.entry_set_update_loop ?_;rw[gS xl _];show ag _ A.in1 (eA (.ref I) >>= _) _ _ s;refine ae (W.done s _ _ st fun s1 hm=>?_);show ag _ A.in1 (ret aa.none) _ _ s1;refine ar (hR s1 (hm.mono sub) (hS.moved fun b o hb e=>hm.heap b o (fun hbw=>?_) e));rcases hb with rfl|⟨k',hk'⟩
  ·exact hDw hbw
  ·exact WY hk' e (hw b hbw o e) rfl
 |succ k ih =>
  intro i s hk hi st hP hS hR;have hw:=hwt i s st;refine gr PyProof.Rows.F.entry_set_update_loop ?_;rw[gS xl _];show ag _ A.in1 (eA (.ref I) >>= _) _ _ s;refine ae (W.item i s _ _ (by lia) st fun v s1 hv st1 hm=>?_);have nw:∀b o,(b=D∨∃k',cv (bE prog w) s.heap k' b)->s.heap.get? b=some o->b∉wr:=fun b o hb e hbw=>by
   rcases hb with rfl|⟨k',hk'⟩
   ·exact hDw hbw
   ·exact WY hk' e (hw b hbw o e) rfl
  have key1:∀{b:ab}{k':List Int},cv (bE prog w) s.heap k' b->cv (bE prog w) s1.heap k' b:=fun {b k'} hk'=>by have hk0:=hk';obtain⟨o,items,m,q1,q2,q3,q4⟩:=hk';exact⟨o,items,m,hm.heap b o (nw b o (.inr ⟨_,hk0⟩) q1) q1,q2,q3,q4⟩
  have hS1:bL prog w U s1.heap D (bT ((cn i).map ks)):=hS.moved fun b o hb e=>hm.heap b o (nw b o hb e) e;obtain⟨b,rfl,hbw,hbk,hbU⟩:=hP i v hv;show ag _ A.in1 (ef [aa.ref b] (setAdd D (.ref b)) >>= _) _ _ s1;have hlen:(bT ((cn i).map ks)).length < 1000:=by
   have e:cn n=cn i++(cn (n - i)).map (i + ·):=by rw[<- List.range_add];congr 1;lia
   rw[e,k7]at hn;exact jn (Io _ _) hn
  refine ae (dP (abq hS1 hlen (key1 hbk) hbU hu fun h2 added tk hs2 hS2=>?_));have hS2':bL prog w U h2 D (bT ((cn (i + 1)).map ks)):=by rw[List.range_succ,k7,List.map_singleton,Am];exact hS2
  obtain⟨L1,ep1,t1,ho1,_⟩:=hS1.len;refine ar ⟨fF xl _,ih (i + 1) _ (by lia) (by lia) (W.frame _ s1 _ _ st1 (xm _ _) fun b hb o e=>?_) (fun j v hv=>?_) hS2' fun s3 hm3 hS3=>?_⟩
  ·rw[hs2.2 b (fun z:b=D=>hDf (z▸hb))];exact e
  ·obtain⟨b,rfl,q1,q2,q3⟩:=hP j v hv;exact⟨b,rfl,q1,lO ho1 hs2 (key1 q2),q3⟩
  ·refine hR s3 (sx W.gtrans ((hm.mono sub).then_heap (xm _ _) fun b o hb e=>?_) hm3) hS3;rw[hs2.2 b (fun z:b=D=>hb (by rw[z];exact dA))];exact e
end
section
variable{prog:aE}{w:az}{A:a_}{E:aa->af->Prop}{s:af}
abbrev cT(led:Bool):Obj:={ cls:=.type "set",dict:=none,data:=.set #[] 0 (.fresh 0 0 led) }
theorem aeu(v:aa){Q₁:aa->af->Prop}(h:Q₁ (.ref s.heap.objs.size) { s with heap:=s.heap.push (cT (!qM w)) }) :
  f7 (ah prog w) A (.call (.builtin "set.__new__") ⟨[.type "set",v],[]⟩) (wants Q₁ E) s:=by
 refine codeAny_of_tree ?_;show ag _ A.in1 (do { checkBuiltinCall "set.__new__" ⟨[.type "set",v],[]⟩;again (.builtin "set.__new__" ⟨[.type "set",v],[]⟩) }) _ _ s;refine ae (iO (F.newCall_set_1 v) (ar ⟨fF F.plain_set_new _,gr F.entry_set_new ?_⟩));rw[gS F.plain_set_new _];have e:=sC;obtain⟨hp,g,d,tk,os⟩:=s;unfold Builtin.«set.__new__» cy.Frozenset.newClass;dsimp only
 wp_walk
 refine kv (ar ?_);simp only[newObj];exact ae (wpAny_alloc (ar (ar h)))
theorem QH{v:aa}{Q:aa->af->Prop}
  (hup:ag (ah prog w) A.in1.in1 (nh "set.__init__" s.heap.objs.size v) (fun _ s2=>Q (.ref s.heap.objs.size) s2) E { s with heap:=s.heap.push (cT (!qM w)) }) :
  ag (ah prog w) A (call (.type "set") [v]) Q E s:=by
 obtain⟨cc,tl,hmro⟩:=kL.mro;have hmade:=kL.made;have hsub:=kL.sub;have nt:=kL.notType;have cc:=kL.canCreate;have tc:=F.typeCall_set_1 v;refine wpAny_call (codeAny_of_tree ?_);show ag _ _ (callAny (.type "set") _) _ _ _;refine ar ⟨Code.quiet_builtin _ (by decide+kernel),gr F.entry_type_call ?_⟩;rw[a_.under_plain (weight_type_call_type "set" [v] []) rfl]
 repeat (any_goals (first|assumption|wp_step))
 refine oy (aeu v (E:=E) (Q₁:=fun obj s1=>obj=.ref s.heap.objs.size/\s1={ s with heap:=s.heap.push (cT (!qM w)) }) ⟨rfl,rfl⟩) fun r s1 hr=>?_;cases r with
 |error e=>exact hr
 |ok fl =>
  cases fl with
  |ret obj =>
   obtain⟨e1,e2⟩:=hr;subst e1 e2;have hget:(s.heap.push (cT (!qM w))).get? s.heap.objs.size=some (cT (!qM w)):=dc _ rfl;have hty:xn { s with heap:=s.heap.push (cT (!qM w)) } (.ref s.heap.objs.size) "set":=⟨_,hget,rfl⟩
   have li:=kL.init.lookup;have bi:=kL.init.bind (.ref s.heap.objs.size)
   repeat (any_goals (first|assumption|wp_step))
   refine oy (codeAny_call_builtin (R:=wants (fun r s2=>r=.none/\Q (.ref s.heap.objs.size) s2) E) kL.init.plain F.entry_set_init (check_set_init_1 hty ?_)) fun r2 s2 hr2=>?_
   ·unfold Builtin.«set.__init__» noKeywords;have hu:=hup;generalize hU:nh=U at hu ⊢
    wp_walk
    exact eD hu (fun _ s2 hq=>ar ⟨rfl,hq⟩) fun _ _ x=>x
   ·cases r2 with
    |error e=>exact hr2
    |ok fl2 =>
     cases fl2 with
     |ret r =>
      obtain⟨rfl,hq⟩:=hr2
      repeat (any_goals (first|assumption|wp_step))
     |_=>exact hr2.elim
  |_=>exact hr.elim
end
namespace F
theorem sub_tuple_set:isSubtype (.type "tuple") (.type "set")=pure false:=by rw[j7];kernel_rfl
theorem sub_tuple_frozenset:isSubtype (.type "tuple") (.type "frozenset")=pure false:=by rw[j7];kernel_rfl
end F
section
variable{prog:aE}{w:az}{U:ab->List Int->Prop}{A:a_}{E:aa->af->Prop}{s:af}
theorem KC{h:Heap}{D:ab}(ho:h.get? D=some (cT (!qM w))):bL prog w U h D []:=by
 have no:∀(e:jT) (p:Prop),e∈([]:List jT)->p:=fun e p he=>by cases he
 exact⟨[],0,.fresh 0 0 (!qM w),fun _=>[],ho,⟨⟨3,rfl⟩,br 7,rfl,rfl,qA.nil,fun e he=>no e _ he,fun e he=>no e _ he⟩,(show 0 < 21 by decide),(show(7:Nat) < 8000 by decide),⟨rfl,rfl⟩,fun e he=>no e _ he,ie.refl _,o5,fun e he=>no e _ he⟩
theorem QJ{l D:ab}{items:Array aa}{aH:List (List Int)}{Q:Unit->af->Prop}(hh:A.handled=none)(hu:A.units + 2 < be)(hl:s.heap.IsList l items)(hS:bL prog w U s.heap D [])(hlD:l≠D)(hz:(bT aH).length < 1000)
  (hk:∀(i:Nat) v,items[i]?=some v->∃b,v=.ref b/\cv (bE prog w) s.heap (aH.getD i []) b/\U b (aH.getD i [])) (hlen:aH.length=items.size)
  (h:∀h' tk,(∀b o,b≠D->s.heap.get? b=some o->h'.get? b=some o)->bL prog w U h' D (bT aH)->Q () { s with heap:=h',toks:=tk }) :
  ag (ah prog w) A (nh "set.__init__" D (.ref l)) Q E s:=by
 have hl0:=hl;have er:(cn items.size).map (fun i=>aH.getD i [])=aH:=by
  rw[<- hlen];apply k8
  ·simp
  ·intro i h1 h2;simp at h1;simp[o6,h1]
 obtain⟨ol,hol,hcl,nl,hdl⟩:=hl;obtain⟨oc,od,odt,osl⟩:=ol;simp only at hcl hdl;subst hcl hdl;have e1:=F.sub_list_set;have e2:=F.sub_list_frozenset;have e3:(aa.type "list" == aa.type "dict")=false:=by decide
 unfold nh;generalize hPI:kB=PI
 wp_walk
 subst hPI;refine qo hl0 ?_;refine ae (sD ?_);have hlt:l < s.heap.objs.size:=bu hol;obtain⟨L0,ep0,t0,hD0,_⟩:=hS.len;have sH:D < s.heap.objs.size:=bu hD0;have push:∀b o,s.heap.get? b=some o->(s.heap.push { cls:=.type "list_iterator",data:=.fields #[.ref l,.int 0 0] }).get? b=some o:=fun b o e=>bX _ e;have W:=(o7 (prog:=prog) (w:=w) (A:=A.in1) (by simpa using hh) s.heap.objs.size l (bP hlt) items).toS;refine alo W D (fun z=>?_) (by show A.units + 1 < be;lia) (fun i=>aH.getD i []) (by rw[er];exact hz) (fun i s' st b hb o e xs m=>?_) (items.size - 0) 0 _ rfl (eC _) ⟨⟨_,dc _ rfl,rfl,rfl⟩,hl0.push _⟩ (fun j v hv=>?_) (hS.moved fun b o _ e=>push b o e) fun s' hm hS'=>?_
 ·simp only[bz,gd,or_false]at z;rcases z with z|z
  ·exact absurd z (bP sH)
  ·exact hlD z.symm
 ·obtain rfl:b=s.heap.objs.size:=by simpa using hb
  obtain⟨⟨o',h1,h2,h3⟩,_⟩:=st;rw[e]at h1;cases h1;rw[h3];intro z;cases z
 ·obtain⟨b,rfl,hb,hU⟩:=hk j v hv;have hb0:=hb;obtain⟨o,its,m,q1,q2,q3,q4⟩:=hb;refine⟨b,rfl,?_,⟨o,its,m,push _ _ q1,q2,q3,q4⟩,hU⟩;simp only[bz,gd,or_false];exact bP (bu q1)
 ·obtain⟨h',g',d',tk',os'⟩:=s';have eg:g'=s.gens:=hm.gens;have ed:d'=s.drawn:=hm.drawn;have eo:os'=s.os:=hm.os;subst eg ed eo;rw[er]at hS';refine ar (h h' tk' (fun b o hb e=>hm.heap b o ?_ (push b o e)) hS');simp only[bz,gd,or_false,not_or];exact⟨hb,bP (bu e)⟩
theorem KD{l D:ab}{items:Array aa}{aH:List (List Int)}{Q:Unit->af->Prop}(hh:A.handled=none)(hu:A.units + 2 < be)(hl:s.heap.IsTuple l items)(hS:bL prog w U s.heap D [])(hlD:l≠D)(hz:(bT aH).length < 1000)
  (hk:∀(i:Nat) v,items[i]?=some v->∃b,v=.ref b/\cv (bE prog w) s.heap (aH.getD i []) b/\U b (aH.getD i [])) (hlen:aH.length=items.size)
  (h:∀h' tk,(∀b o,b≠D->s.heap.get? b=some o->h'.get? b=some o)->bL prog w U h' D (bT aH)->Q () { s with heap:=h',toks:=tk }) :
  ag (ah prog w) A (nh "set.__init__" D (.ref l)) Q E s:=by
 have hl0:=hl;have er:(cn items.size).map (fun i=>aH.getD i [])=aH:=by
  rw[<- hlen];apply k8
  ·simp
  ·intro i h1 h2;simp at h1;simp[o6,h1]
 obtain⟨ol,hol,hcl,nl,hdl⟩:=hl;obtain⟨oc,od,odt,osl⟩:=ol;simp only at hcl hdl;subst hcl hdl;have e1:=F.sub_tuple_set;have e2:=F.sub_tuple_frozenset;have e3:(aa.type "tuple" == aa.type "dict")=false:=by decide
 unfold nh;generalize hPI:kB=PI
 wp_walk
 subst hPI;refine wpAny_pyIter_tuple hl0 ?_;refine ae (sD ?_);have hlt:l < s.heap.objs.size:=bu hol;obtain⟨L0,ep0,t0,hD0,_⟩:=hS.len;have sH:D < s.heap.objs.size:=bu hD0;have push:∀b o,s.heap.get? b=some o->(s.heap.push { cls:=.type "tuple_iterator",data:=.fields #[.ref l,.int 0 0] }).get? b=some o:=fun b o e=>bX _ e;have W:=(Walks.tuple (prog:=prog) (w:=w) (A:=A.in1) (by simpa using hh) s.heap.objs.size l (bP hlt) items).toS;refine alo W D (fun z=>?_) (by show A.units + 1 < be;lia) (fun i=>aH.getD i []) (by rw[er];exact hz) (fun i s' st b hb o e xs m=>?_) (items.size - 0) 0 _ rfl (eC _) ⟨⟨_,dc _ rfl,rfl,rfl⟩,hl0.push _⟩ (fun j v hv=>?_) (hS.moved fun b o _ e=>push b o e) fun s' hm hS'=>?_
 ·simp only[bz,gd,or_false]at z;rcases z with z|z
  ·exact absurd z (bP sH)
  ·exact hlD z.symm
 ·obtain rfl:b=s.heap.objs.size:=by simpa using hb
  obtain⟨⟨o',h1,h2,h3⟩,_⟩:=st;rw[e]at h1;cases h1;rw[h3];intro z;cases z
 ·obtain⟨b,rfl,hb,hU⟩:=hk j v hv;have hb0:=hb;obtain⟨o,its,m,q1,q2,q3,q4⟩:=hb;refine⟨b,rfl,?_,⟨o,its,m,push _ _ q1,q2,q3,q4⟩,hU⟩;simp only[bz,gd,or_false];exact bP (bu q1)
 ·obtain⟨h',g',d',tk',os'⟩:=s';have eg:g'=s.gens:=hm.gens;have ed:d'=s.drawn:=hm.drawn;have eo:os'=s.os:=hm.os;subst eg ed eo;rw[er]at hS';refine ar (h h' tk' (fun b o hb e=>hm.heap b o ?_ (push b o e)) hS');simp only[bz,gd,or_false,not_or];exact⟨hb,bP (bu e)⟩
theorem KH{l:ab}{items:Array aa}{aH:List (List Int)}{Q:aa->af->Prop}(hh:A.handled=none)(hu:A.units + 8 < be)(hl:s.heap.IsList l items∨s.heap.IsTuple l items)(hz:(bT aH).length < 1000)
  (hk:∀(i:Nat) v,items[i]?=some v->∃b,v=.ref b/\cv (bE prog w) s.heap (aH.getD i []) b/\U b (aH.getD i [])) (hlen:aH.length=items.size)
  (h:∀h' tk,(∀b o,s.heap.get? b=some o->h'.get? b=some o)->bL prog w U h' s.heap.objs.size (bT aH)->Q (.ref s.heap.objs.size) { s with heap:=h',toks:=tk }) :
  ag (ah prog w) A (call (.type "set") [.ref l]) Q E s:=by
 refine QH ?_;have push:∀b o,s.heap.get? b=some o->(s.heap.push (cT (!qM w))).get? b=some o:=fun b o e=>bX _ e;have hlt:l < s.heap.objs.size:=by rcases hl with ⟨o,e,_⟩|⟨o,e,_⟩ <;> exact bu e
 have hk':∀(i:Nat) v,items[i]?=some v->∃b,v=.ref b/\cv (bE prog w) (s.heap.push (cT (!qM w))) (aH.getD i []) b/\U b (aH.getD i []):=fun i v hv=>by obtain⟨b,e,⟨o,its,m,q1,q2,q3,q4⟩,hU⟩:=hk i v hv;exact⟨b,e,⟨o,its,m,push _ _ q1,q2,q3,q4⟩,hU⟩
 have hS:bL prog w U (s.heap.push (cT (!qM w))) s.heap.objs.size []:=KC (dc _ rfl);have dZ:∀h' tk,(∀b o,b≠s.heap.objs.size->(s.heap.push (cT (!qM w))).get? b=some o->h'.get? b=some o)->bL prog w U h' s.heap.objs.size (bT aH)->Q (.ref s.heap.objs.size) { s with heap:=h',toks:=tk }:=fun h' tk k hS' =>
  h h' tk (fun b o e=>k b o (bP (bu e)) (push b o e)) hS'
 rcases hl with hl|hl
 ·exact QJ (s:={ s with heap:=s.heap.push (cT (!qM w)) }) (by simpa using hh) (by show A.units + 1 + 1 + 2 < be;lia) (hl.push _) hS (bP hlt) hz hk' hlen dZ
 ·exact KD (s:={ s with heap:=s.heap.push (cT (!qM w)) }) (by simpa using hh) (by show A.units + 1 + 1 + 2 < be;lia) (hl.push _) hS (bP hlt) hz hk' hlen dZ
end
end Tb
namespace Tb
open PySem PySem.Spec PySem.SetTable
theorem nT{α:Type}:∀{l:List α}{n:Nat}(h:n < l.length),(l[n]::l.eraseIdx n).Perm l
 |a::l,0,_=>by simp
 |a::l,n + 1,h=>by have ih:=nT (l:=l) (n:=n) (by simpa using h);simp only[List.getElem_cons_succ,sF];exact(ie.swap ..).trans (ih.cons a)
theorem aiH{α:Type}(next:Nat->Nat):∀(fuel k:Nat) (left:List α) (out:Array α),left.length<=fuel->(xo next fuel k left out).toList.Perm (out.toList++left):=by
 intro fuel
 induction fuel with
 |zero =>
  intro k left out h;obtain rfl:left=[]:=ik.mp (by lia);unfold xo;simp
 |succ fuel ih =>
  intro k left out h;unfold xo;cases left with
  |nil=>simp
  |cons a l =>
   have hlt:next k % (a::l).length < (a::l).length:=mN _ (by simp);rw[eI hlt];simp only;have hlen:((a::l).eraseIdx (next k % (a::l).length)).length<=fuel:=by rw[sL hlt];simp only[cx]at h ⊢;lia
   refine(ih (k + 1) _ _ hlen).trans ?_;rw[rV,jS];exact o8 _ (nT hlt)
theorem abr{α:Type}(next:Nat->Nat)(xs:Array α):(xp next xs).toList.Perm xs.toList:=by unfold xp;simpa using aiH next xs.size 0 xs.toList #[] (by simp)
def fu(w:az)(D:ab)(ep:Nat)(L:List jT):Array (Int×aa):=if qM w=true then xp (w.params.setOrder D ep) (L.map (·.2)).toArray else (L.map (·.2)).toArray
theorem uE(w:az)(D:ab)(ep:Nat)(L:List jT):(fu w D ep L).toList.Perm (L.map (·.2)):=by
 unfold fu;split
 ·simpa using abr (w.params.setOrder D ep) (L.map (·.2)).toArray
 ·exact .refl _
theorem jt(w:az)(D:ab)(ep:Nat)(L:List jT):(fu w D ep L).size=L.length:=by have:=(uE w D ep L).length_eq;simpa using this
structure Lies (t:bq)(L:List jT):Prop where
 pl:t.place=(L.map (·.1)).toArray
 so:(L.map (·.1)).Pairwise (· < ·)
 fl:t.fill<=t.mask
theorem Lies.sz{t:bq}{L:List jT}(g:Lies t L):t.place.size=L.length:=by rw[g.pl];simp
theorem Lies.at{t:bq}{L:List jT}(g:Lies t L){i:Nat}(hi:i < L.length):t.place.getD i 0=L[i].1:=by rw[g.pl];simp[eL,hi]
theorem Lies.rise{t:bq}{L:List jT}(g:Lies t L):rQ t.place:=by intro a b hab hb;rw[g.sz]at hb;rw[g.at (show a < L.length by lia),g.at hb];have:=(j5.mp g.so) a b (by simpa using(show a < L.length by lia)) (by simpa using hb) hab;simpa using this
theorem Lies.fits{t:bq}{L:List jT}(g:Lies t L)(hl:L.length<=t.mask):t.fits ((L.map (·.2)).toArray).size=true:=by unfold j3.fits;have h1:=g.fl;simp[g.sz,h1]
theorem Good.lies{t:bq}{L:List jT}(g:Good t L)(hl:L.length<=t.mask):Lies t L:=⟨g.pl,g.so,by unfold fill;rw[g.nd,g.sz];simpa using hl⟩
def iR(w:az)(t:bq)(i:Nat):Nat:=if qM w=true then 0 else if i=0 then 0 else t.place.getD (i - 1) 0 + 1
section
variable{prog:aE}{w:az}{A:a_}{E:aa->af->Prop}{s:af}
theorem aac{D:ab}{L:List jT}{ep:Nat}{t:bq}{i:Nat}{Q:Option (aa×Nat)->af->Prop}(ho:s.heap.get? D=some (cL L ep t))(g:Lies t L)(hl:L.length<=t.mask)(pl:t.plain=true)(ld:t.led=!qM w)(hi:i<=L.length)
  (h:Q (((fu w D ep L)[i]?).map fun e=>(e.2,iR w t (i + 1))) s):ag (ah prog w) A (setNext D (iR w t i) i ep) Q E s:=by
 unfold setNext;refine ae (d7 ho rfl (g.fits hl) ?_);unfold nv;refine ae (ae (kv (ar ?_)));cases hb:qM w with
 |true =>
  have hb':((ah prog w).w.params.followText "set-order")=true:=hb;simp only[hb',if_true,bne_self_eq_false,aS,if_false];unfold setWalk nv;refine ae (ae (d7 ho rfl (g.fits hl) ?_));refine ae (ae (kv (ar ?_)));simp only[hb',if_true];refine ae (kv (ar (ar ?_)));unfold fu iR at h;simp only[hb,if_true]at h;simp only[iR,hb,if_true];exact h
 |false =>
  have hb':((ah prog w).w.params.followText "set-order")=false:=hb;simp only[hb',aS,if_false];rw[hb]at ld;have hbl:below t.place (iR w t i)=i:=by
   unfold iR;rw[hb];simp only[aS,if_false];obtain⟨b1,b2,b3⟩:=qJ g.rise (if i=0 then 0 else t.place.getD (i - 1) 0 + 1);by_cases c:i=0
   ·subst c;simp only[if_true]at b2 ⊢;cases hz:below t.place 0 with
    |zero=>rfl
    |succ n=>have:=b2 0 (by lia);lia
   ·rw[if_neg c]at b1 b2 b3 ⊢;have him:i - 1 < t.place.size:=by rw[g.sz];lia
    have c1:¬below t.place (t.place.getD (i - 1) 0 + 1) < i:=fun z=>by have:=b3 (i - 1) (by lia) him;lia
    have c2:¬i < below t.place (t.place.getD (i - 1) 0 + 1):=fun z=>by have h1:=b2 i z;have h2:=g.rise (i - 1) i (by lia) (by lia);lia
    lia
  have dZ:ag (ah prog w) A (pure (match ((L.map (·.2)).toArray)[below t.place (iR w t i)]?,t.place[below t.place (iR w t i)]? with
    |some (_,x),some j=>some (x,j + 1)
    |_,_=>none):Sem (Option (aa×Nat))) Q E s:=by
   rw[hbl];refine ar ?_;unfold fu iR at h;simp only[hb,aS,if_false,Nat.add_eq_zero_iff,sM,and_false,Nat.add_sub_cancel]at h;by_cases c:i < L.length
   ·have e1:((L.map (·.2)).toArray)[i]?=some L[i].2:=by simp[c]
    have e2:t.place[i]?=some (t.place.getD i 0):=QB (by rw[g.sz];exact c);rw[e1]at h ⊢;rw[e2];exact h
   ·have e1:((L.map (·.2)).toArray)[i]?=none:=by simp;lia
    rw[e1]at h ⊢;exact h
  have hdr:∀c:Bool,(!t.plain && c)=false:=fun c=>by rw[pl];rfl
  have hld:∀c:Bool,(!t.led && c)=false:=fun c=>by rw[ld];rfl
  have drop:∀{c:Bool}{x y:Sem (Option (aa×Nat))},c=false->ag (ah prog w) A y Q E s->ag (ah prog w) A (if c=true then x else y) Q E s:=fun {c x y} hc hy=>by rw[hc];exact hy
  refine drop (hdr _) ?_;refine ae ?_;show ag _ _ (if (!t.led && !((L.map (·.2)).toArray).isEmpty)=true then unsupported "set:maker-not-led" else pure ()) _ _ _;rw[hld];exact ar dZ
end
theorem gG:Slot "set_iterator" "__next__" "set_iterator.__next__" :=
 .of (owner:="set_iterator") (n:="__next__") (by rw[ny,nz];kernel_rfl) (by decide+kernel) (by decide+kernel) (by decide+kernel) (by first|exact .inl (by decide+kernel)|exact .inr (by decide+kernel)) (by rw[j7];kernel_rfl)
theorem sI:nB table "set_iterator.__next__"=some Builtin.«set_iterator.__next__»:=entryFor_of_tree (by kernel_rfl)
theorem vd(a:aa):j8 "set_iterator.__next__" ⟨[a],[]⟩:=by unfold j8;kernel_rfl
theorem KJ:nB table "set.__iter__"=some Builtin.«frozenset.__iter__»:=sN (id':="frozenset.__iter__") (by kernel_rfl) rfl (by decide+kernel) (by kernel_rfl)
theorem vf:Slot "set_iterator" "__iter__" "set_iterator.__iter__" :=
 .of (owner:="set_iterator") (n:="__iter__") (by rw[ny,nz];kernel_rfl) (by decide+kernel) (by decide+kernel) (by decide+kernel) (by first|exact .inl (by decide+kernel)|exact .inr (by decide+kernel)) (by rw[j7];kernel_rfl)
theorem Du:nB table "set_iterator.__iter__"=some Builtin.«dict_keyiterator.__iter__»:=sN (id':="dict_keyiterator.__iter__") (by kernel_rfl) rfl (by decide+kernel) (by kernel_rfl)
theorem Gi(a:aa):j8 "set_iterator.__iter__" ⟨[a],[]⟩:=by unfold j8;kernel_rfl
def gj(w:az)(t:bq)(D:ab)(n ep i:Nat):Obj:={ cls:=.type "set_iterator",data:=.fields #[c_ (iR w t i),c_ i,.ref D,c_ n,c_ ep] }
section
variable{prog:aE}{w:az}{A:a_}{E:aa->af->Prop}{s:af}{D I:ab}{L:List jT}{ep:Nat}{t:bq}
structure Goes (w:az)(L:List jT)(t:bq):Prop where
 g:Lies t L
 hl:L.length<=t.mask
 pl:t.plain=true
 ld:t.led=!qM w
theorem aev{Q:aa->af->Prop}(ho:s.heap.get? D=some (cL L ep t))(g:Goes w L t)(h:Q (.ref s.heap.objs.size) { s with heap:=s.heap.push (gj w t D L.length ep 0) }):ag (ah prog w) A (kB (.ref D)) Q E s:=by
 have hT:s.TypeIs (.ref D) "set":=⟨_,ho,rfl⟩
 refine sP hT F.slot_set_iter (gT F.slot_set_iter hT KJ ?_ (F.args_set_iter_1 _));unfold Builtin.«frozenset.__iter__» cy.Frozenset.slot0 xt iP;simp only[sQ,o9,dS,aS,if_false,fv,bne_self_eq_false];refine ae (ae (ar (ar ?_)));refine ae (ae (sR ho rfl (g.g.fits g.hl) (ar ?_)));have hdr:ag (ah prog w) A.in1 (setDrawn D) (fun b s'=>b=false/\s'=s) E s:=by unfold setDrawn nv;refine ae (d7 ho rfl (g.g.fits g.hl) ?_);refine ae (ae (kv (ar (ar ⟨?_,rfl⟩))));show(_ && (!t.plain && _))=false;rw[g.pl];simp
 refine ae (eD hdr (fun b s' hb=>?_) fun _ _ z=>z);obtain⟨rfl,rfl⟩:=hb;simp only[aS,if_false];refine ae (ar ?_);refine ae (nE ho rfl (g.g.fits g.hl) ?_);have e0:iR w t 0=0:=by unfold iR;simp
 have eo:(gj w t D L.length ep 0)={ cls:=.type "set_iterator",data:=.fields ([c_ 0,c_ 0,aa.ref D,c_ ((L.map (·.2)).toArray.size:Nat),c_ (ep:Nat)]:List aa).toArray }:=by unfold gj;rw[e0];simp
 rw[eo]at h;exact ae (gp (ar ⟨_,rfl,"set_iterator",_,⟨_,dc _ rfl,rfl⟩,gG.lookup,h⟩))
theorem abt{i:Nat}{Q:Option aa->af->Prop}{e:Int×aa}(hI:s.heap.get? I=some (gj w t D L.length ep i))(ho:s.heap.get? D=some (cL L ep t))(g:Goes w L t)(hi:i < L.length)(he:(fu w D ep L)[i]?=some e)
  (h:∀h',cS I s.heap h'->h'.get? I=some (gj w t D L.length ep (i + 1))->Q (some e.2) { s with heap:=h' }):ag (ah prog w) A (eA (.ref I)) Q E s:=by
 have hT:s.TypeIs (.ref I) "set_iterator":=⟨_,hI,rfl⟩
 unfold eA;refine ae (kM (nI (name:=nK "__next__") hT gG (gT gG hT sI ?_ (vd _))));unfold Builtin.«set_iterator.__next__»;simp only[sQ,o9,dS,aS,if_false,fv,bne_self_eq_false];refine ae (ar ?_);refine ae (sT hI rfl ?_);simp only[c_];refine ae (sR ho rfl (g.g.fits g.hl) ?_);have hz:((((L.map (·.2)).toArray.size:Nat):Int) != ((L.length:Nat):Int))=false:=by simp
 simp only[hz,aS,if_false,mM];refine ae (aac ho g.g g.hl g.pl g.ld (gL hi) ?_);rw[he];simp only[oP];have hd0:(gj w t D L.length ep i).data=.fields #[c_ (iR w t i),c_ i,.ref D,c_ L.length,c_ ep]:=rfl;refine ae (o_ hI hd0 (by simp) ?_);have hd1:=s_ hd0 (·.setIfInBounds 0 (c_ (iR w t (i + 1))));have hI1:=fy (pd (·.setIfInBounds 0 (c_ (iR w t (i + 1))))) hI (xv hd1);refine ae (o_ hI1 hd1 (by simp) ?_);have hd2:=s_ hd1 (·.setIfInBounds 1 (c_ (i + 1:Nat)));have hI2:=fy (pd (·.setIfInBounds 1 (c_ (i + 1:Nat)))) hI1 (xv hd2);refine ar ⟨_,rfl,ar (h _ ((m_ ..).trans (m_ ..)) ?_)⟩;refine hI2.trans ?_;unfold gj pd;simp[c_]
theorem abu{Q:Option aa->af->Prop}(hh:A.handled=none)(hI:s.heap.get? I=some (gj w t D L.length ep L.length))(ho:s.heap.get? D=some (cL L ep t))(g:Goes w L t)
  (h:∀h',td I s.heap h'->Q none { s with heap:=h' }):ag (ah prog w) A (eA (.ref I)) Q E s:=by
 have hT:s.TypeIs (.ref I) "set_iterator":=⟨_,hI,rfl⟩
 unfold eA;refine ae (kM (nI (name:=nK "__next__") hT gG (gT gG hT sI ?_ (vd _))));unfold Builtin.«set_iterator.__next__»;simp only[sQ,o9,dS,aS,if_false,fv,bne_self_eq_false];refine ae (ar ?_);refine ae (sT hI rfl ?_);simp only[c_];refine ae (sR ho rfl (g.g.fits g.hl) ?_);have hz:((((L.map (·.2)).toArray.size:Nat):Int) != ((L.length:Nat):Int))=false:=by simp
 simp only[hz,aS,if_false,mM];refine ae (aac ho g.g g.hl g.pl g.ld (br _) ?_);have he:(fu w D ep L)[L.length]?=none:=by rw[tf];rw[jt];exact br _
 rw[he];simp only[Option.map_none];have hd0:(gj w t D L.length ep L.length).data=.fields #[c_ (iR w t L.length),c_ L.length,.ref D,c_ L.length,c_ ep]:=rfl;refine ae (o_ hI hd0 (by simp) ?_);refine ae ?_;simp only[newExc,newTuple];refine ae (gp ?_ (by size_fits));refine ae (m:=nL _ _) (iO (a:=aa.none) (by first|rfl|(simp only[nL];rfl)) ?_);refine gp ?_ (by size_fits);simp only[raiseNew];refine ae (xw ?_);rw[show A.in1.handled=none from hh];refine ae (ar (xx ?_));refine ae (kx (T:="StopIteration") (b:=true) ⟨_,dc _ rfl,rfl⟩ xy ?_);exact ar (h _ (((m_ ..).extBut.push _).push _))
theorem abv(hh:A.handled=none)(hne:D≠I)(g:Goes w L t) :
  Walks prog w A I [I,D] [I] L.length (fun i v=>∃e,(fu w D ep L)[i]?=some e/\v=e.2) (fun i h=>h.get? I=some (gj w t D L.length ep i)/\h.get? D=some (cL L ep t)) where
 sub:=fun b hb=>by simp at hb;simp[hb]
 frame:=fun _ _ _ st hk=>⟨hk I (by simp) _ st.1,hk D (by simp) _ st.2⟩
 item:=fun i s Q E hi st hQ=>by
  have hlt:i < (fu w D ep L).size:=by rw[jt];exact hi
  refine abt st.1 st.2 g hi (nN hlt) fun h' hs hI'=>?_;exact hQ _ h' s.toks ⟨_,nN hlt,rfl⟩ ⟨hI',(hs.2 D hne).trans st.2⟩ fun b o hb e=>(hs.2 b (fun z=>hb (by simp[z]))).trans e
 done:=fun s Q E st hQ=>abu hh st.1 st.2 g fun h' he=>hQ h' s.toks fun b o hb e=>he b o (fun z=>hb (by simp[z])) e
 self:=fun i s Q E st hQ=>by
  have hT:s.TypeIs (.ref I) "set_iterator":=⟨_,st.1,rfl⟩
  refine sP hT vf (gT vf hT Du ?_ (Gi _));show ag _ _ (ret (.ref I)) _ _ s;exact ar ⟨_,rfl,"set_iterator",_,hT,gG.lookup,hQ⟩
end
section
variable{prog:aE}{w:az}{A:a_}{E:aa->af->Prop}{s:af}{D I:ab}{L:List jT}{ep:Nat}{t:bq}
abbrev cP:Obj:={ cls:=.type "list",data:=.seq ([]:List aa).toArray }
theorem aew{Q:Bool->af->Prop}(ho:s.heap.get? D=some (cL L ep t))(h:Q false s):ag (ah prog w) A (tj (.ref D)) Q E s:=by
 have hT:s.TypeIs (.ref D) "set":=⟨_,ho,rfl⟩
 unfold tj;refine ae (m9 hT F.slot_set_len.lookup ?_);have e1:splitId "set.__len__"=some ("set","__len__"):=by kernel_rfl
 simp only[e1];refine ae (kx hT sC ?_);simp only[dS,aS,if_false];have pick:∀{c:Bool}{x y:Sem Bool},c=true->ag (ah prog w) A x Q E s->ag (ah prog w) A (if c=true then x else y) Q E s:=fun {c x y} hc hy=>by rw[hc];exact hy
 refine pick (by decide+kernel) ?_;refine ae (mT hT ?_);exact ar h
theorem Ao{Q:List aa->af->Prop}(hh:A.handled=none)(ho:s.heap.get? D=some (cL L ep t))(g:Goes w L t)(hn:L.length<=1000)
  (hQ:∀h' tk,(∀b o,s.heap.get? b=some o->h'.get? b=some o)->s.heap.objs.size<=h'.objs.size->Q ((fu w D ep L).toList.map (·.2)) { s with heap:=h',toks:=tk }):ag (ah prog w) A (collect (.ref D)) Q E s:=by
 have sH:D < s.heap.objs.size:=bu ho;unfold collect;refine ae (sD (gr F.entry_proto_collect ?_));rw[gS F.plain_proto_collect _];show ag _ A.in1 (newList [] >>= fun l=>again (.builtin "list.__iadd__" ⟨[l,.ref D],[]⟩)) _ _ s;refine ae (gp ?_);refine ar ⟨fF tm _,gr F.entry_list_iadd ?_⟩;rw[gS tm _];have p1:∀b o,s.heap.get? b=some o->(s.heap.push cP).get? b=some o:=fun b o e=>bX _ e;have hD1:(s.heap.push cP).get? D=some (cL L ep t):=p1 _ _ ho;have hS1:(s.heap.push cP).get? s.heap.objs.size=some cP:=dc _ rfl;show ag _ A.in1 (kN (.ref s.heap.objs.size) (.ref D) (.ref s.heap.objs.size)) _ _ _;unfold kN;have hT:xn { s with heap:=s.heap.push cP } (.ref D) "set":=⟨_,hD1,rfl⟩
 refine ae (mT hT ?_);have k1:nS (.ref s.heap.objs.size) (.ref D)=false:=by simp[nS];exact hG sH
 have k2:(aa.type "set" == aa.type "list")=false:=by decide
 have k3:(aa.type "set" == aa.type "tuple")=false:=by decide
 simp only[k1,k2,k3,sm,aS,if_false];refine ae (aev hD1 g ?_);have p2:∀b o,(s.heap.push cP).get? b=some o->((s.heap.push cP).push (gj w t D L.length ep 0)).get? b=some o:=fun b o e=>bX _ e;have hD2:=p2 _ _ hD1;have hS2:=p2 _ _ hS1;have hI2:((s.heap.push cP).push (gj w t D L.length ep 0)).get? (s.heap.push cP).objs.size=some (gj w t D L.length ep 0):=dc _ rfl;have KN:(s.heap.push cP).objs.size=s.heap.objs.size + 1:=mI ..;refine ae (dP (aew hD2 ?_));have pick:∀{c:Bool}{x y:Sem k9}{R:k9->af->Prop}{F':aa->af->Prop}{s':af},c=true->ag (ah prog w) A.in1 x R F' s'->ag (ah prog w) A.in1 (if c=true then x else y) R F' s':=fun {c x y R F' s'} hc hy=>by rw[hc];exact hy
 refine pick (by decide+kernel) ?_;refine ae (gu ?_);refine ae ?_;show ag _ A.in1 (j9 s.heap.objs.size (·.push .none) >>= fun _=>j9 s.heap.objs.size (·.pop)) _ _ _;refine ae (gx hS2 rfl ?_);have hS3:=fy (di (·.push aa.none)) hS2 rfl;refine gx hS3 rfl ?_;have Gj:=fy (di (·.pop)) hS3 rfl;generalize hH:(((s.heap.push cP).push (gj w t D L.length ep 0)).update s.heap.objs.size (di (·.push aa.none))).update s.heap.objs.size (di (·.pop))=H at Gj;have oth:∀b o,b≠s.heap.objs.size->((s.heap.push cP).push (gj w t D L.length ep 0)).get? b=some o->H.get? b=some o:=fun b o hb e=>by rw[<- hH];exact(eS _ _ (de hb)).trans ((eS _ _ (de hb)).trans e)
 have W:=(abv (prog:=prog) (w:=w) (A:=A.in1) (D:=D) (I:=(s.heap.push cP).objs.size) (ep:=ep) (by simpa using hh) (by rw[KN];exact bP (iE sH)) g).toS;have hSf:s.heap.objs.size∉[(s.heap.push cP).objs.size,D]:=by simp only[bz,gd,or_false,not_or];exact⟨by rw[KN];exact bP (Nat.lt_succ_self _),hG sH⟩
 refine ar ⟨fF tq _,xC W (by rw[d8];lia) s.heap.objs.size hSf _ L.length 0 _ _ _ rfl (eC _) ⟨oth _ _ (by rw[KN];exact sM _) hI2,oth _ _ (bP sH) hD2⟩ Gj (xD _) fun s' acc c hm hS' hacc=>?_⟩;show ag _ A (load s.heap.objs.size >>= _) _ _ s';refine ae (wpAny_load hS' ?_);have hacc':acc.toList=(fu w D ep L).toList.map (·.2):=by
  apply tw;intro i;rw[cE,h_,h_];cases e:acc[i]? with
  |some v =>
   obtain⟨x,hx,rfl⟩:=hacc.2 i v e;rw[hx];rfl
  |none =>
   have:acc.size<=i:=by simpa using e
   rw[hacc.1]at this;rw[tf (by rw[jt];exact this)];rfl
 obtain⟨h',g',d',tk',os'⟩:=s';have eg:g'=s.gens:=hm.gens;have ed:d'=s.drawn:=hm.drawn;have eo:os'=s.os:=hm.os;subst eg ed eo;show ag _ _ (pure acc.toList) _ _ _;rw[hacc'];refine ar (hQ h' tk' (fun b o e=>hm.heap b o ?_ (oth b o (bP (bu e)) (p2 _ _ (p1 _ _ e)))) (gL (bu hS')));simp only[bz,gd,or_false,not_or];exact⟨bP (bu e),by rw[KN];exact bP (iE (bu e))⟩
end
section
variable{prog:aE}{w:az}{A:a_}{E:aa->af->Prop}{s:af}
theorem QK{a b:ab}{ks:List Int}{L:List jT}{ep:Nat}{t:bq}{f:jT->List Int}{Q:SetFound->af->Prop}(ho:s.heap.get? a=some (cL L ep t))(g:Good t L)(hl:L.length<=t.mask)(hf:∀e∈L,Kw prog w s.heap e (f e))
  (hb:cv (bE prog w) s.heap ks b) (hu:A.units < be) (q1:∀i (hi:i < L.length),f L[i]=ks->Q (.there (some i)) s)
  (q2:∀j,(∀e∈L,f e≠ks)->Q (.free j false) s) :
  ∀(fuel s0 sE:Nat) (nQ:Option Probe),s0<=sE->sE < s0 + fuel->sE < s0 + 10 * turns t.mask->¬qK t (pos t (hK prog w ks) sE)->nQ.getD (t.probeStart (hK prog w ks))=lN t s0 (t.probeStart (hK prog w ks)) ->
   (∀n,n < s0->∃e∈L,e.1=pos t (hK prog w ks) n/\f e≠ks)->ag (ah prog w) A (ij a (.ref b) (hK prog w ks) false fuel nQ) Q E s:=by
 intro fuel
 induction fuel with
 |zero=>intro s0 sE _ h1 h2;lia
 |succ fuel ih =>
  intro s0 sE nQ h1 h2 h2' hE hst hpre;unfold ij;refine ae (d7 ho rfl (g.fits hl) ?_);simp only[g.odd,aS,if_false];obtain⟨s2,a1,a2,a3,a4⟩:=QC g.rise g.nd (fun i=>((((L.map (·.2)).toArray)[i]?).map (·.1)).getD 0) (hK prog w ks) (10 * turns t.mask) s0 sE h1 h2' hE;have hh:∀i (hi:i < L.length),((((L.map (·.2)).toArray)[i]?).map (·.1)).getD 0=L[i].2.1:=fun i hi=>by simp[hi]
  have passed:∀n,n < s2->∃e∈L,e.1=pos t (hK prog w ks) n/\f e≠ks:=fun n hn=>by
   by_cases c:n < s0
   ·exact hpre n c
   ·obtain⟨i,hi,e1,e2⟩:=a3 n (by lia) hn;rw[g.sz]at hi;rw[g.at hi]at e1;rw[hh i hi]at e2;refine⟨L[i],dm hi,e1,fun z=>e2 ?_⟩;obtain⟨b',_,_,e3⟩:=hf _ (dm hi);rw[e3,z]
  rcases a4 with ⟨hne,hp⟩|⟨i,hi,e1,e2,hp⟩
  ·-- an empty slot
   have hp':t.probe (fun i=>((((L.map (·.2)).toArray)[i]?).map (·.1)).getD 0) (hK prog w ks) (nQ.getD (t.probeStart (hK prog w ks)))=some (.empty (pos t (hK prog w ks) s2) none):=by rw[hst];exact hp
   generalize hr:t.probe _ (hK prog w ks) (nQ.getD (t.probeStart (hK prog w ks)))=r;obtain rfl:r=_:=hr.symm.trans hp';simp only;refine ar (q2 _ fun e he z=>?_)
   ·obtain⟨b',_,_,e3⟩:=hf e he;obtain⟨n,r1,r2⟩:=g.reach e he;rw[e3,z]at r1 r2;by_cases c:n < s2
    ·obtain⟨e',he',q,ne⟩:=passed n c;have:=g.uniq he' he (q.trans r1);subst this;exact ne z
    ·by_cases d:s2 < n
     ·obtain⟨e',he',q⟩:=r2 s2 d;exact hne (g.live.mpr ⟨e',he',q⟩)
     ·obtain rfl:n=s2:=by lia
      exact hne (g.live.mpr ⟨e,he,r1.symm⟩)
  ·-- a key with the same hash
   rw[g.sz]at hi;have e1':=e1;rw[g.at hi]at e1;obtain⟨b',hv,hk',hx⟩:=hf _ (dm hi);have hp':t.probe (fun i=>((((L.map (·.2)).toArray)[i]?).map (·.1)).getD 0) (hK prog w ks) (nQ.getD (t.probeStart (hK prog w ks)))=some (.candidate (pos t (hK prog w ks) s2) i (lN t (s2 + 1) (t.probeStart (hK prog w ks)))):=by rw[hst];exact hp
   generalize hr:t.probe _ (hK prog w ks) (nQ.getD (t.probeStart (hK prog w ks)))=r;obtain rfl:r=_:=hr.symm.trans hp';simp only;have ei:((L.map (·.2)).toArray)[i]?=some (L[i].2.1,.ref b'):=by
    have:((L.map (·.2)).toArray)[i]?=some L[i].2:=by simp[hi]
    rw[this,<- hv]
   have rest:ag (ah prog w) A (do
     let some (_,y):=((L.map (·.2)).toArray)[i]?|unsupported "internal:set-entry"
     let equal <- ef [y] (eqBool y (.ref b))
     let (es',_,t') <- setState a
     if false && equal then return .there none
     let some same:=t'.sameMemory t.moves t.mask|unsupported "set.changed-during-lookup:is-the-new-block-at-the-old-address"
     let still <- match (if same then t'.slot (pos t (hK prog w ks) s2) else .empty) with
      | .live i'=>match es'[i']? with
       |some (_,y')=>do pure (if <- isSame y' y then some i' else none)
       |none=>pure none
      |_=>pure none
     match still with
     |none=>rule "set.search.anew";ij a (.ref b) (hK prog w ks) false fuel none
     |some i'=>if equal then return .there (some i') else ij a (.ref b) (hK prog w ks) false fuel (some (lN t (s2 + 1) (t.probeStart (hK prog w ks))))) Q E s:=by
    rw[ei];simp only;refine ae (dP ((TK prog w).eqBool hu hk' hb ?_));refine ae (d7 ho rfl (g.fits hl) ?_);simp only[kT,aS,if_false];have hsm:t.sameMemory t.moves t.mask=some true:=by unfold sameMemory;simp
    rw[hsm];simp only[if_true];have hsl:t.slot (pos t (hK prog w ks) s2)=.live i:=by rw[<- e1'];exact uz g.rise (by rw[g.sz];exact hi)
    rw[hsl];simp only[ei];refine ae (sG (ae (ar ?_)));simp only[if_true];by_cases c:f L[i]=ks
    ·simp only[c,decide_true,if_true];exact ar (q1 i hi c)
    ·simp only[c,decide_false,aS,if_false];have hne:s2≠sE:=fun z=>hE (z▸g.live.mpr ⟨_,dm hi,e1⟩);refine ih (s2 + 1) sE _ (by lia) (by lia) (by lia) hE rfl fun n hn=>?_;by_cases d:n=s2
     ·subst d;exact⟨_,dm hi,e1,c⟩
     ·exact passed n (by lia)
   cases apM:t.led with
   |true=>simp only[dS,aS,if_false];exact rest
   |false =>
    simp only[j6,if_true];refine ae (Kz hb _ (fun y hy=>?_) ?_)
    ·obtain⟨e,he,rfl⟩:=b0.mp hy;have he':e∈(L.map (·.2)):=by have:=xh.mp he;have:=(xi.mp this).1;simpa using this
     obtain⟨e0,h0,rfl⟩:=b0.mp he';obtain⟨b2,hv2,hk2,_⟩:=hf e0 h0;exact⟨_,b2,hv2,hk2⟩
    ·simp only[aS,if_false];exact rest
theorem aiI{U:ab->List Int->Prop}{a b:ab}{ks:List Int}{aH:List (List Int)}{Q:Option Nat->af->Prop}(hS:bL prog w U s.heap a aH)(hn:aH.length < 1000)(hb:cv (bE prog w) s.heap ks b)(hu:A.units < be)
  (h:∀r,r.isSome=decide (ks∈aH)->Q r s):ag (ah prog w) A (pf a (.ref b) (hK prog w ks)) Q E s:=by
 obtain⟨L,ep,t,f,ho,g,room,mb,⟨pl,ld⟩,hf,hp,nd,uu⟩:=hS;have hlen:L.length=aH.length:=by have:=hp.length_eq;simpa using this
 have h7:=g.m7;have hl:L.length<=t.mask:=by lia
 have alm:t.mask < 8000:=mb;have hmem:∀x,x∈aH↔∃e∈L,f e.2=x:=fun x=>by rw[<- hp.mem_iff,b0]
 unfold pf;show ag (ah prog w) A (tx a (.ref b) (hK prog w ks) (99999 + 1)) Q E s;unfold tx;refine ae (d7 ho rfl (g.fits hl) ?_);have hby:nc (.ref b) (L.map (·.2)).toArray=false:=by simp[nc,xk]
 simp only[hby,aS,if_false];obtain⟨e0,he0,hE0⟩:=Dt g.rise (by rw[g.sz];exact hl);obtain⟨k,hk⟩:=g.pw;obtain⟨sE,_,hsE,pE⟩:=Kr hk (hK prog w ks) 0 he0;refine ae ?_;unfold setSearch;refine QK (f:=fun e=>f e.2) (Q:=fun r s'=>ag (ah prog w) A (match r with
  | .there i=>_
  | .free ..=>_) Q E s') ho g hl hf hb hu (fun i hi c=>?_) (fun j hno=>?_) 100000 0 sE none (eC _) (by lia) (by unfold turns;lia) (by rw[pE];exact hE0) rfl (fun n hn=>absurd hn (by lia))
 ·exact ar (h _ (by simp only[Option.isSome_some];exact(decide_eq_true ((hmem ks).mpr ⟨_,dm hi,c⟩)).symm))
 ·exact ar (h _ (by simp only[Option.isSome_none];exact(decide_eq_false fun z=>by obtain⟨e,he,q⟩:=(hmem ks).mp z;exact hno e he q).symm))
theorem aiJ{D:ab}{L:List jT}{ep:Nat}{t:bq}{Q:Array (Int×aa)->af->Prop}(ho:s.heap.get? D=some (cL L ep t))(g:Goes w L t)(h:Q (fu w D ep L) s):ag (ah prog w) A (setWalk D) Q E s:=by
 unfold setWalk nv;refine ae (d7 ho rfl (g.g.fits g.hl) ?_);refine ae (ae (kv (ar ?_)));unfold fu at h;cases hb:qM w with
 |true =>
  have hb':((ah prog w).w.params.followText "set-order")=true:=hb;simp only[hb,if_true]at h;simp only[hb',if_true];exact ae (kv (ar h))
 |false =>
  have hb':((ah prog w).w.params.followText "set-order")=false:=hb;simp only[hb,aS,if_false]at h;simp only[hb',aS,if_false];have ld:t.led=true:=by rw[g.ld,hb];rfl
  have hdr:∀c:Bool,(!t.plain && c)=false:=fun c=>by rw[g.pl];rfl
  have hld:∀c:Bool,(!t.led && c)=false:=fun c=>by rw[ld];rfl
  have drop:∀{c:Bool}{x y:Sem (Array (Int×aa))},c=false->ag (ah prog w) A y Q E s->ag (ah prog w) A (if c=true then x else y) Q E s:=fun {c x y} hc hy=>by rw[hc];exact hy
  refine drop (hdr _) ?_;refine ae ?_;show ag _ _ (if (!t.led && decide (((L.map (·.2)).toArray).size > 1))=true then unsupported "set:maker-not-led" else pure ()) _ _ _;rw[hld];exact ar (ar h)
theorem xJ{D:ab}{os:List ab}{fl:Option ab}{L:List jT}{ep:Nat}{t:bq}{Q:Array (Int×aa)->af->Prop}(ho:s.heap.get? D=some (cL L ep t))(g:Goes w L t)(h:Q (fu w D ep L) s):ag (ah prog w) A (setWalkUnseen D os fl) Q E s:=by
 unfold setWalkUnseen nv;refine ae (d7 ho rfl (g.g.fits g.hl) ?_);refine ae (ae (kv (ar ?_)));have hc:∀c:Bool,(((ah prog w).w.params.followText "set-order") || (t.led && t.plain) || c)=true:=fun c=>by rw[g.pl,g.ld];show(qM w || (!qM w && true) || c)=true;cases qM w <;> simp
 have take:∀{c:Bool}{x y:Sem (Array (Int×aa))},c=true->ag (ah prog w) A x Q E s->ag (ah prog w) A (if c=true then x else y) Q E s:=fun {c x y} hc hy=>by rw[hc];exact hy
 exact take (hc _) (aiJ ho g h)
theorem bL.goes{U:ab->List Int->Prop}{h:Heap}{D:ab}{aH:List (List Int)}(x:bL prog w U h D aH)(hn:aH.length < 1000):∃(L:List jT) (ep:Nat) (t:bq) (f:Int×aa->List Int),h.get? D=some (cL L ep t)/\Goes w L t/\L.length=aH.length /\
  ((fu w D ep L).toList.map f).Perm aH/\∀e∈(fu w D ep L).toList,∃b,e=(hK prog w (f e),.ref b)/\cv (bE prog w) h (f e) b/\U b (f e):=by
 obtain⟨L,ep,t,f,ho,g,room,mb,pl,hf,hp,nd,uu⟩:=x;have hlen:L.length=aH.length:=by have:=hp.length_eq;simpa using this
 have h7:=g.m7;have op:=uE w D ep L;refine⟨L,ep,t,f,ho,⟨g.lies (by lia),by lia,pl.1,pl.2⟩,hlen,((op.map f).trans (k_ (by rw[d5];rfl))).trans hp,fun e he=>?_⟩;obtain⟨e0,h0,rfl⟩:=b0.mp (op.mem_iff.mp he);obtain⟨b,h1,h2,h3⟩:=hf e0 h0;exact⟨b,by rw[<- h1,<- h3],h2,uu e0 h0 b h1⟩
end
section
variable{prog:aE}{w:az}{U:ab->List Int->Prop}{A:a_}{E:aa->af->Prop}{s:af}
theorem abw{a:ab}{L:List jT}{ep:Nat}{t:bq}{Q:Unit->af->Prop}{wanted:Nat}(ho:s.heap.get? a=some (cL L ep t))(g:Good t L)(hl:L.length<=t.mask)(hw:wanted<=100000)(hw2:L.length<=wanted)(hp:t.plain=true)
  (h:∀h' L' t',cS a s.heap h'->h'.get? a=some (cL L' (ep + 1) t')->Good t' L'->t'.mask=sizeAbove wanted - 1->(t'.plain=true/\t'.led=t.led)->(L'.map (·.2)).Perm (L.map (·.2))->Q () { s with heap:=h' }) :
  ag (ah prog w) A (o3 a wanted) Q E s:=by
 obtain⟨s1,s2,s3,s4⟩:=mL wanted (by lia);unfold o3;refine ae (d7 ho rfl (g.fits hl) ?_);have hsz:¬sizeAbove wanted > sizeLine:=by rw[d8];lia
 simp only[hsz,if_false];obtain⟨t',order,L',e1,e2,e3,e4,e5,g',e6,e7⟩:=uD s1 s2 t.finger (t.movedTo (sizeAbove wanted - 1)) t.led t.plain (L.map (·.2)) (by simp;lia);have hlen:L'.length=L.length:=by have:=e7.length_eq;simpa using this
 have er:t.relaid (((L.map (·.2)).toArray).map (·.1)) wanted=some (t',order):=by
  unfold relaid;have:((L.map (·.2)).toArray).map (·.1)=((L.map (·.2)).map (·.1)).toArray:=by simp
  rw[this];exact e1
 have main:ag (ah prog w) A (do
   let some (t,order):=t.relaid (((L.map (·.2)).toArray).map (·.1)) wanted|unsupported "internal:set-table-without-room"
   let es':=order.filterMap (((L.map (·.2)).toArray)[·]?)
   if es'.size != ((L.map (·.2)).toArray).size then unsupported "internal:set-table-lost-an-element"
   pure (es',t)) (fun r s'=>ag (ah prog w) A (oS a r.1 r.2) Q E s') E s:=by
  rw[er];simp only;rw[e6];have:((L'.map (·.2)).toArray.size != ((L.map (·.2)).toArray).size)=false:=by simp[hlen]
  rw[this];simp only[aS,if_false];refine ar ?_;exact nR (t':=t') ho (by lia) fun h' hs hg=>h h' L' t' hs hg g' e2 ⟨e4.trans hp,e3⟩ e7
 exact ae main
def vg(keep:List Int->Bool)(acc:List (List Int))(ks:List Int):List (List Int):=if keep ks=true then (if ks∈acc then acc else ks::acc) else acc
theorem abx(keep:List Int->Bool)(acc:List (List Int))(ks:List Int):(vg keep acc ks).length<=acc.length + 1:=by
 unfold vg;split
 ·split <;> simp
 ·simp
theorem aby{keep:List Int->Bool}{acc:List (List Int)}{ks x:List Int}:x∈vg keep acc ks↔x∈acc∨(x=ks/\keep ks=true):=by
 unfold vg;split
 ·rename_i hk;split
  ·rename_i hm;constructor
   ·exact .inl
   ·rintro(h|⟨rfl,_⟩)
    ·exact h
    ·exact hm
  ·rw[bz];constructor
   ·rintro(h|h)
    ·exact .inr ⟨h,hk⟩
    ·exact .inl h
   ·rintro(h|⟨h,_⟩)
    ·exact .inr h
    ·exact .inl h
 ·rename_i hk;constructor
  ·exact .inl
  ·rintro(h|⟨_,h⟩)
   ·exact h
   ·exact absurd h hk
theorem vO{keep:List Int->Bool}{x:List Int}:∀{l acc:List (List Int)},x∈l.foldl (vg keep) acc↔x∈acc∨(x∈l/\keep x=true)
 | [],acc=>by simp
 |k::l,acc=>by
  rw[jI,vO,aby,bz];constructor
  ·rintro((h|⟨rfl,h⟩)|⟨h,h'⟩)
   ·exact .inl h
   ·exact .inr ⟨.inl rfl,h⟩
   ·exact .inr ⟨.inr h,h'⟩
  ·rintro(h|⟨rfl|h,h'⟩)
   ·exact .inl (.inl h)
   ·exact .inl (.inr ⟨rfl,h'⟩)
   ·exact .inr ⟨h,h'⟩
theorem yW{r:ab}{keep:List Int->Bool}{f:Int×aa->List Int}{body:Int×aa->PUnit->Sem (ForInStep PUnit)}{s0:af}{Q:PUnit->af->Prop}
  (hbody:∀(e:Int×aa) (b:ab) (acc:List (List Int)) (s':af) (R:ForInStep PUnit->af->Prop),e=(hK prog w (f e),.ref b)->cv (bE prog w) s'.heap (f e) b->U b (f e)->cS r s0.heap s'.heap->bL prog w U s'.heap r acc->acc.length < 999 ->
   (∀h' tk,cS r s'.heap h'->bL prog w U h' r (vg keep acc (f e))->R (.yield ⟨⟩) { s' with heap:=h',toks:=tk })->ag (ah prog w) A (body e ⟨⟩) R E s') :
  ∀(es:List (Int×aa)) (acc:List (List Int)) (s':af),(∀e∈es,∃b,e=(hK prog w (f e),.ref b)/\cv (bE prog w) s0.heap (f e) b/\U b (f e))->cS r s0.heap s'.heap->bL prog w U s'.heap r acc->acc.length + es.length < 999 ->
   (∃o,s0.heap.get? r=some o/\∀xs m,o.data≠.seq xs m) ->
   (∀h' tk,cS r s0.heap h'->bL prog w U h' r ((es.map f).foldl (vg keep) acc)->Q ⟨⟩ { s' with heap:=h',toks:=tk })->ag (ah prog w) A (forIn es PUnit.unit body) Q E s'
 | [],acc,s',_,hs,hS,_,_,h=>by rw[qV];exact ar (h s'.heap s'.toks hs hS)
 |e::es,acc,s',he,hs,hS,hl,hr,h=>by
  rw[wa];obtain⟨b,e1,k1,u1⟩:=he e (.head _);have key':cv (bE prog w) s'.heap (f e) b:=by
   obtain⟨o,its,n,q1,q2,q3,q4⟩:=k1;obtain⟨ro,g1,g2⟩:=hr;have ne:b≠r:=fun z=>by subst z;rw[g1]at q1;cases q1;exact g2 _ _ q3
   exact⟨o,its,n,(hs.2 b ne).trans q1,q2,q3,q4⟩
  refine ae (hbody e b acc s' _ e1 key' u1 hs hS (by simp at hl;lia) fun h' tk hs' hS'=>?_);refine yW hbody es _ { s' with heap:=h',toks:=tk } (fun e' h'=>he e' (.tail _ h')) (hs.trans hs') hS' (by have:=abx keep acc (f e);simp at hl;lia) hr fun h2 tk2 hs2 hS2=>?_;exact h h2 tk2 hs2 hS2
end
section
variable{prog:aE}{w:az}{U:ab->List Int->Prop}{A:a_}{E:aa->af->Prop}{s:af}
def KQ(prog:aE)(w:az)(U:ab->List Int->Prop)(n:Nat)(h:Heap)(a:ab)(aH:List (List Int)):Prop :=
 ∃(L:List jT) (ep:Nat) (t:bq) (f:Int×aa->List Int),h.get? a=some (cL L ep t)/\Good t L/\(L.length + n) * 5 < t.mask * 3/\t.mask < 8000/\(t.plain=true/\t.led=!qM w)/\(∀e∈L,Kw prog w h e (f e.2))/\(L.map fun e=>f e.2).Perm aH/\aH.Nodup/\∀e∈L,∀b,e.2.2=.ref b->U b (f e.2)
theorem KQ.at{n:Nat}{h:Heap}{a:ab}{aH:List (List Int)}(x:KQ prog w U n h a aH):bL prog w U h a aH:=by obtain⟨L,ep,t,f,ho,g,room,r⟩:=x;exact⟨L,ep,t,f,ho,g,by lia,r⟩
theorem aiK{r:ab}{aH:List (List Int)}{n:Nat}{Q:Unit->af->Prop}(hS:bL prog w U s.heap r aH)(hn:aH.length + n < 900)(h1:1<=n)
  (h:∀h',cS r s.heap h'->KQ prog w U n h' r aH->Q () { s with heap:=h' }):ag (ah prog w) A (setRoomFor r n) Q E s:=by
 obtain⟨L,ep,t,f,ho,g,room,mb,pl,hf,hp,nd,uu⟩:=hS;have hlen:L.length=aH.length:=by have:=hp.length_eq;simpa using this
 have h7:=g.m7;have hl:L.length<=t.mask:=by lia
 have hfill:t.fill=L.length:=by unfold fill;rw[g.nd,g.sz];simp
 unfold setRoomFor;refine ae (d7 ho rfl (g.fits hl) ?_);simp only[roomFor,hfill,g.sz];by_cases c:(L.length + n) * 5 ≥ t.mask * 3
 ·rw[if_pos c];simp only;obtain⟨s1,s2,s3,s4⟩:=mL ((L.length + n) * 2) (by lia);refine abw ho g hl (by lia) (by lia) pl.1 fun h' L' t' hs hg g' em p2 pm=>h h' hs ?_;have hl2:L'.length=L.length:=by have:=pm.length_eq;simpa using this
  have hv:∀e∈L',∃e1∈L,e1.2=e.2:=fun e he=>by have:e.2∈L.map (·.2):=pm.mem_iff.mp (b0.mpr ⟨e,he,rfl⟩);obtain⟨e1,h1,h2⟩:=b0.mp this;exact⟨e1,h1,h2⟩
  refine⟨L',ep + 1,t',f,hg,g',by rw[em,hl2];lia,by rw[em];lia,⟨p2.1,p2.2.trans pl.2⟩,fun e he=>?_,?_,nd,fun e he b hb=>?_⟩
  ·obtain⟨e1,he1,q⟩:=hv e he;obtain⟨b',k1,k2,k3⟩:=hf e1 he1;rw[q]at k1 k2 k3;exact⟨b',k1,lO ho hs k2,k3⟩
  ·have:=(pm.map f)
   rw[d5,d5]at this;exact this.trans hp
  ·obtain⟨e1,he1,q⟩:=hv e he;rw[<- q];exact uu e1 he1 b (by rw[q];exact hb)
 ·rw[if_neg c];simp only;have:=h s.heap (iF r s.heap) ⟨L,ep,t,f,ho,g,by lia,mb,pl,hf,hp,nd,uu⟩;exact ar (by cases s;exact this)
theorem Good.as{t t':bq}{L:List jT}(g:Good t L)(e1:t'.mask=t.mask)(e2:t'.dummies=t.dummies)(e3:t'.place=t.place):Good t' L where
 pw:=by rw[e1];exact g.pw
 m7:=by rw[e1];exact g.m7
 nd:=by rw[e2];exact g.nd
 pl:=by rw[e3];exact g.pl
 so:=g.so
 le:=fun e he=>by rw[e1];exact g.le e he
 reach:=fun e he=>by obtain⟨n,r1,r2⟩:=g.reach e he;exact⟨n,by rw[sy e1];exact r1,fun n' h=>by obtain⟨e',h1,h2⟩:=r2 n' h;exact⟨e',h1,by rw[sy e1];exact h2⟩⟩
theorem aex{r o:ab}{aH js:List (List Int)}{each:Sem Unit}{Q:Unit->af->Prop}(hS:bL prog w U s.heap r aH)(hO:bL prog w U s.heap o js)(hne:r≠o)(hn:aH.length + js.length < 900)(hu:A.units < be)
  (apS:∀(s':af) (R:Unit->af->Prop),cS r s.heap s'.heap->R () s'->ag (ah prog w) A each R E s')
  (h:∀h' tk oF,cS r s.heap h'->oF.Nodup->(∀x,x∈oF↔x∈aH∨x∈js)->bL prog w U h' r oF->Q () { s with heap:=h',toks:=tk }):ag (ah prog w) A (setMerge r o each) Q E s:=by
 have hO0:=hO;obtain⟨L2,ep2,t2,f2,ho2,g2,apT,mb2,pl2,hf2,hp2,nd2,uu2⟩:=hO;have nd1:aH.Nodup:=by obtain⟨_,_,_,_,_,_,_,_,_,_,_,z,_⟩:=hS;exact z
 have hlen2:L2.length=js.length:=by have:=hp2.length_eq;simpa using this
 have h72:=g2.m7;have hl2:L2.length<=t2.mask:=by lia
 unfold setMerge;have hb:(r == o)=false:=by simp[hne]
 simp only[hb,aS,if_false];refine ae (d7 ho2 rfl (g2.fits hl2) ?_);by_cases hz:L2=[]
 ·subst hz;have:js=[]:=ik.mp hlen2.symm;subst this;simp only[ki,List.isEmpty_toArray,o9,if_true];exact ar (by have:=h s.heap s.toks aH (iF r s.heap) nd1 (fun x=>by simp) hS;cases s;exact this)
 have hpos:1<=L2.length:=by cases L2 with|nil=>exact absurd rfl hz|cons a l=>simp
 have hem:((L2.map (·.2)).toArray.isEmpty)=false:=by
  cases L2 with
  |nil=>exact absurd rfl hz
  |cons a l=>simp
 simp only[hem,aS,if_false];have hsz:(L2.map (·.2)).toArray.size=L2.length:=by simp
 rw[hsz];refine ae (aiK hS (by lia) hpos fun h1 hs1 hR=>?_);have hR0:=hR.at
 obtain⟨L,ep,t,f,ho,g,room,mb,pl,hf,hp,nd,uu⟩:=hR;have hlen:L.length=aH.length:=by have:=hp.length_eq;simpa using this
 have h7:=g.m7;have hl:L.length<=t.mask:=by lia
 have hfill:t.fill=L.length:=by unfold fill;rw[g.nd,g.sz];simp
 have asi:h1.get? o=some (cL L2 ep2 t2):=(hs1.2 o (de hne)).trans ho2;refine ae (d7 (s:={ s with heap:=h1 }) ho rfl (g.fits hl) ?_);have key2:∀{h':Heap},cS r h1 h'->∀e∈L2,Kw prog w h' e (f2 e.2):=fun {h'} hs' e he=>by obtain⟨b,k1,k2,k3⟩:=hf2 e he;obtain⟨_,_,_,ro,_⟩:=hS.len;exact⟨b,k1,lO ho hs' (lO ro hs1 k2),k3⟩
 by_cases hL:L=[]
 ·subst hL;have hk0:aH=[]:=ik.mp hlen.symm;subst hk0;have dZ:∀h' tk,cS r h1 h'->bL prog w U h' r js->Q () { s with heap:=h',toks:=tk }:=fun h' tk hs' hS'=>h h' tk js (hs1.trans hs') nd2 (fun x=>by simp) hS';by_cases hm:t.mask=t2.mask
  ·have hroad:t.road t2=.slotForSlot:=by unfold road;rw[hfill,g2.nd];simp[hm]
   rw[hroad];simp only;refine nR (s:={ s with heap:=h1 }) (L':=L2) ho (by lia) fun h' hs' hg=>dZ h' s.toks hs' ⟨L2,ep + 1,_,f2,hg,g2.as rfl rfl rfl,apT,mb2,⟨?_,?_⟩,key2 hs',hp2,nd2,uu2⟩
   ·show(t.plain && t2.plain)=true;rw[pl.1,pl2.1];rfl
   ·show(t.led && t2.led)=!qM w;rw[pl.2,pl2.2];cases qM w <;> rfl
  ·have hroad:t.road t2=.clean:=by unfold road;rw[hfill];simp[hm]
   rw[hroad];simp only;obtain⟨t',order,L',e1,e2,e3,e4,e5,g',e6,e7⟩:=uD g.pw g.m7 t.finger t.moves (t.led && t2.led) (t.plain && t2.plain) (L2.map (·.2)) (by simp at room ⊢;lia);have hl':L'.length=L2.length:=by have:=e7.length_eq;simpa using this
   have main:ag (ah prog w) A (do
     let some (t,order):=(bq.laid t.mask t.finger t.moves (led:=t.led && t2.led) (plain:=t.plain && t2.plain) (((L2.map (·.2)).toArray).map (·.1)))|unsupported "internal:set-table-without-room"
     let es':=order.filterMap (((L2.map (·.2)).toArray)[·]?)
     if es'.size != ((L2.map (·.2)).toArray).size then unsupported "internal:set-table-lost-an-element"
     pure (es',t)) (fun q s'=>ag (ah prog w) A (oS r q.1 q.2) Q E s') E { s with heap:=h1 }:=by
    have er:bq.laid t.mask t.finger t.moves (led:=t.led && t2.led) (plain:=t.plain && t2.plain) (((L2.map (·.2)).toArray).map (·.1))=some (t',order):=by
     have:((L2.map (·.2)).toArray).map (·.1)=((L2.map (·.2)).map (·.1)).toArray:=by simp
     rw[this];exact e1
    rw[er];simp only;rw[e6];have:((L'.map (·.2)).toArray.size != ((L2.map (·.2)).toArray).size)=false:=by simp[hl']
    rw[this];simp only[aS,if_false];refine ar ?_;have hv:∀e∈L',∃e1∈L2,e1.2=e.2:=fun e he=>by have:e.2∈L2.map (·.2):=e7.mem_iff.mp (b0.mpr ⟨e,he,rfl⟩);obtain⟨e1,h1,h2⟩:=b0.mp this;exact⟨e1,h1,h2⟩
    refine nR (s:={ s with heap:=h1 }) (t':=t') ho (by lia) fun h' hs' hg=>dZ h' s.toks hs' ⟨L',ep + 1,t',f2,hg,g',?_,by rw[e2];exact mb,⟨?_,?_⟩,fun e he=>?_,?_,nd2,fun e he b hb=>?_⟩
    ·rw[e2,hl'];simp at room;lia
    ·rw[e4,pl.1,pl2.1];rfl
    ·rw[e3,pl.2,pl2.2];cases qM w <;> rfl
    ·obtain⟨e1,he1,q⟩:=hv e he;obtain⟨b',k1,k2,k3⟩:=key2 hs' e1 he1;rw[q]at k1 k2 k3;exact⟨b',k1,k2,k3⟩
    ·have:=(e7.map f2)
     rw[d5,d5]at this;exact this.trans hp2
    ·obtain⟨e1,he1,q⟩:=hv e he;rw[<- q];exact uu2 e1 he1 b (by rw[q];exact hb)
   exact ae main
 ·have hroad:t.road t2=.oneByOne:=by unfold road;rw[hfill];have:L.length≠0:=fun z=>hL (ik.mp z);simp[this]
  rw[hroad];simp only;have hO1:bL prog w U h1 o js:=hO0.moved fun b o' hb e=>by
   have:b≠r:=by
    rcases hb with rfl|⟨ks,hk⟩
    ·exact de hne
    ·obtain⟨_,_,_,ro,_⟩:=hS.len;exact fun z=>by subst z;obtain⟨q,its,n,q1,q2,q3,q4⟩:=hk;rw[ro]at q1;cases q1;cases q3
   exact(hs1.2 b this).trans e
  obtain⟨L3,ep3,t3,f3,ho3,gs3,hl3,hp3,he3⟩:=hO1.goes (by lia);have osz:(fu w o ep3 L3).toList.length=L3.length:=(fR).trans (jt w o ep3 L3);refine ae (xJ (s:={ s with heap:=h1 }) ho3 gs3 ?_);have hep:ep3=ep2:=by rw[asi]at ho3;injection ho3 with z;injection z with _ _ z2 _;injection z2 with _ z3 _;exact z3.symm
  refine ae ?_;rw[<- m8];refine yW (U:=U) (r:=r) (keep:=fun _=>true) (f:=f3) (s0:={ s with heap:=h1 }) (fun e b acc s' R e1 k1 u1 hs' hS' hl' hR'=>?_) (fu w o ep3 L3).toList aH { s with heap:=h1 } he3 (iF r h1) hR0 (by rw[osz];lia) ⟨_,ho,fun xs m z=>by cases z⟩ fun h' tk hs' hS'=>?_
  ·rw[e1];simp only;refine ae (dP (qN hS' (by lia) k1 u1 hu fun h2 added hs2 hS2=>?_));refine ae (apS _ _ (hs1.trans (hs'.trans hs2)) ?_);have ho4:h2.get? o=some (cL L3 ep3 t3):=(hs2.2 o (de hne)).trans ((hs'.2 o (de hne)).trans ho3);refine ae (d7 (s:={ s' with heap:=h2 }) ho4 rfl (gs3.g.fits gs3.hl) ?_);rw[hep];simp only[bne_self_eq_false,aS,if_false];refine ar (hR' h2 s'.toks hs2 ?_);unfold vg;rw[if_pos rfl];exact hS2
  ·refine ar (h h' tk _ (hs1.trans hs') (by obtain⟨_,_,_,_,_,_,_,_,_,_,_,z,_⟩:=hS';exact z) (fun x=>?_) hS');rw[vO,hp3.mem_iff];simp
end
theorem QL:nB table "set.__sub__"=some Builtin.«frozenset.__sub__»:=sN (id':="frozenset.__sub__") (by kernel_rfl) rfl (by decide+kernel) (by kernel_rfl)
section
variable{prog:aE}{w:az}{U:ab->List Int->Prop}{A:a_}{E:aa->af->Prop}{s:af}
theorem Ip{Q:aa->af->Prop}(h:Q (.ref s.heap.objs.size) { s with heap:=s.heap.push (cT (!qM w)) }):ag (ah prog w) A (newSet (.type "set")) Q E s:=by unfold newSet nv;refine ae (ae (kv (ar ?_)));simp only[newObj];exact ae (wpAny_alloc (ar h))
theorem aad{D:ab}{Q:aa->af->Prop}(hT:s.TypeIs (.ref D) "set") (h:Q (.type "set") s):ag (ah prog w) A (cy.Frozenset.baseOf D) Q E s:=by unfold cy.Frozenset.baseOf;exact ae (kx hT sC (ar h))
theorem yX{D:ab}{Q:Bool->af->Prop}(hT:s.TypeIs (.ref D) "set") (h:Q true s):ag (ah prog w) A (pk (.ref D)) Q E s:=by unfold pk;refine ae (kx hT sC ?_);exact ar h
theorem bL.ty{D:ab}{aH:List (List Int)}(hS:bL prog w U s.heap D aH):s.TypeIs (.ref D) "set":=by obtain⟨L,ep,t,ho,_⟩:=hS.len;exact⟨_,ho,rfl⟩
theorem QM{h':Heap}{o:Obj}(hs:cS s.heap.objs.size (s.heap.push o) h'):∀b x,s.heap.get? b=some x->h'.get? b=some x:=fun b x e =>
 (hs.2 b (bP (bu e))).trans (bX _ e)
theorem bL.pushed{D:ab}{aH:List (List Int)}(hS:bL prog w U s.heap D aH)(o:Obj):bL prog w U (s.heap.push o) D aH:=hS.moved fun b x _ e=>bX _ e
theorem aae{D:ab}{aH:List (List Int)}{Q:aa->af->Prop}(hS:bL prog w U s.heap D aH)(hn:aH.length < 900)(hu:A.units < be)
  (h:∀h' tk oF,(∀b o,s.heap.get? b=some o->h'.get? b=some o)->oF.Nodup->(∀x,x∈oF↔x∈aH)->bL prog w U h' s.heap.objs.size oF->Q (.ref s.heap.objs.size) { s with heap:=h',toks:=tk }):ag (ah prog w) A (cy.Frozenset.copyOf D) Q E s:=by
 have hlt:D < s.heap.objs.size:=by obtain⟨L,ep,t,ho,_⟩:=hS.len;exact bu ho
 unfold cy.Frozenset.copyOf;refine ae (aad hS.ty (ae (Ip ?_)));refine ae (m:=iP _) (ar ?_);refine ae (aex (U:=U) (s:={ s with heap:=s.heap.push (cT (!qM w)) }) (KC (dc _ rfl)) (hS.pushed _) (hG hlt) (by simpa using hn) hu (fun s' R _ q=>ar q) fun h' tk oF hs nd hm hS'=>?_);exact ar (h h' tk oF (QM hs) nd (fun x=>by rw[hm x];simp) hS')
theorem oH{D:ab}{aH:List (List Int)}{Q:Nat->af->Prop}(hS:bL prog w U s.heap D aH)(hn:aH.length < 1000)(h:Q aH.length s):ag (ah prog w) A (xt D) Q E s:=by obtain⟨L,ep,t,f,ho,gs,hl,_⟩:=hS.goes hn;unfold xt;refine ae (sR ho rfl (gs.g.fits gs.hl) (ar ?_));rw[show((L.map (·.2)).toArray).size=aH.length by simp[hl]];exact h
theorem ang{name:String}{f:String->ab->aa->Sem aa}{l r:ab}{P:k9->af->Prop}(hl:s.TypeIs (.ref l) "set") (hr:s.TypeIs (.ref r) "set") (h:ag (ah prog w) A (f s!"frozenset.{name}" l (.ref r)) (fun v s'=>P (.done (.ret v)) s') E s) :
  ag (ah prog w) A ((fun args=>do
   let (self,other) <- cy.Frozenset.slot1 name args
   let (l,r):=if false then (other,self) else (self,other)
   if !(<- pk l <&&> pk r) then rule s!"frozenset.{name}.declined";return <- ret .notImplemented
   ret (<- f s!"frozenset.{name}" (<- iP l) r):cy) ⟨[.ref l,.ref r],[]⟩) P E s:=by
 unfold cy.Frozenset.slot1;simp only[sQ,o9,dS,aS,if_false,cx,fv,bne_self_eq_false];refine ae (ae (ar (ar ?_)));simp only;refine ae (ae (yX hl ?_));show ag (ah prog w) A (pk (.ref r)) _ _ _;refine yX hr ?_;simp only[dS,aS,if_false];refine ae (m:=iP _) (ar ?_);exact ae (eD h (fun v s' hv=>ar hv) fun _ _ x=>x)
end
theorem oJ{α:Type}[DecidableEq α]:∀{l l':List α},l.Nodup->l'.Nodup->(∀x,x∈l↔x∈l')->l.Perm l'
 | [],l',_,_,h=>by
  cases l' with
  |nil=>exact .refl _
  |cons a t=>exact absurd ((h a).mpr (.head _)) (by simp)
 |a::t,l',nd,nd',h=>by
  obtain⟨n1,n2⟩:=eQ.mp nd;have ha:a∈l':=(h a).mp (.head _);refine(ie.cons a (oJ n2 (nd'.erase a) fun x=>?_)).trans (List.perm_cons_erase ha).symm;rw[nd'.mem_erase_iff];constructor
  ·intro hx;exact⟨fun z=>n1 (z▸hx),(h x).mp (.tail _ hx)⟩
  ·rintro⟨hx,hm⟩;rcases bz.mp ((h x).mpr hm) with z|z
   ·exact absurd z hx
   ·exact z
section
variable{prog:aE}{w:az}{U:ab->List Int->Prop}{A:a_}{E:aa->af->Prop}{s:af}
theorem bL.nd{D:ab}{h:Heap}{aH:List (List Int)}(hS:bL prog w U h D aH):aH.Nodup:=by obtain⟨_,_,_,_,_,_,_,_,_,_,_,z,_⟩:=hS;exact z
theorem abz{r o D:ab}{id:String}{aH js:List (List Int)}{pos:Bool}{Q:PUnit->af->Prop}{L:List jT}{ep:Nat}{t:bq}{f:Int×aa->List Int}
  (hS:bL prog w U s.heap r []) (hO:bL prog w U s.heap o js) (hD:s.heap.get? D=some (cL L ep t)) (gs:Goes w L t) (hrD:r≠D) (hro:r≠o) (hjs:js.length < 900) (hL:L.length < 900) (hp:((fu w D ep L).toList.map f).Perm aH) (hu:A.units < be)
  (he:∀e∈(fu w D ep L).toList,∃b,e=(hK prog w (f e),.ref b)/\cv (bE prog w) s.heap (f e) b/\U b (f e))
  (h:∀h' tk ls,cS r s.heap h'->(∀x,x∈ls↔x∈aH/\decide (x∈js)=pos)->bL prog w U h' r ls->Q ⟨⟩ { s with heap:=h',toks:=tk }) :
  ag (ah prog w) A (forIn (fu w D ep L) PUnit.unit fun(e:Int×aa) _=>do
   ef [e.2] (do
    if ((<- pf o e.2 e.1).isSome == pos)=true then
     let _ <- xj r e.2 e.1
     pure PUnit.unit)
   tz id D ep
   pure (ForInStep.yield PUnit.unit)) Q E s:=by
 have osz:(fu w D ep L).toList.length=L.length:=(fR).trans (jt w D ep L);obtain⟨Lr,er,tr,hor,_⟩:=hS.len;rw[<- m8];refine yW (U:=U) (r:=r) (keep:=fun k=>decide (k∈js) == pos) (f:=f) (s0:=s) (fun e b acc s' R e1 k1 u1 hs' hS' hl' hR'=>?_) _ [] s he (iF r s.heap) hS (by rw[osz];simp;lia) ⟨_,hor,fun xs m z=>by cases z⟩ fun h' tk hs' hS'=>h h' tk _ hs' (fun x=>?_) hS'
 ·have hO':bL prog w U s'.heap o js:=hO.moved fun b o' hb e=>by
   have:b≠r:=by
    rcases hb with rfl|⟨ks,hk⟩
    ·exact de hro
    ·exact WY hk hor (fun xs m z=>by cases z)
   exact(hs'.2 b this).trans e
  have hD':∀{h2:Heap},cS r s'.heap h2->h2.get? D=some (cL L ep t):=fun hs2=>(hs2.2 D (de hrD)).trans ((hs'.2 D (de hrD)).trans hD);rw[e1];simp only;have last:∀(h2:Heap) (tk:Nat),cS r s'.heap h2->R (.yield ⟨⟩) { s' with heap:=h2,toks:=tk }->ag (ah prog w) A (do tz id D ep;pure (ForInStep.yield PUnit.unit)) R E { s' with heap:=h2,toks:=tk }:=fun h2 tk hs2 q=>by unfold tz;refine ae (ae (nE (s:={ s' with heap:=h2,toks:=tk }) (hD' hs2) rfl (gs.g.fits gs.hl) ?_));simp only[bne_self_eq_false,aS,if_false];exact ar (ar q)
  refine ae (dP (ae (aiI hO' (by lia) k1 hu fun fr hfr=>?_)));rw[hfr];by_cases c:(decide (f e∈js) == pos)=true
  ·rw[if_pos c];refine ae (qN hS' (by lia) k1 u1 hu fun h2 added hs2 hS2=>ar (last h2 s'.toks hs2 (hR' h2 s'.toks hs2 ?_)));unfold vg;rw[if_pos c];exact hS2
  ·rw[if_neg c];have:=last s'.heap s'.toks (iF r s'.heap) (hR' s'.heap s'.toks (iF r s'.heap) (by unfold vg;rw[if_neg c];exact hS'));exact ar this
 ·rw[vO,hp.mem_iff];simp
theorem Xa{α:Type}{c:Bool}{x y:Sem α}{Q:α->af->Prop}(hc:c=false)(hy:ag (ah prog w) A y Q E s):ag (ah prog w) A (if c=true then x else y) Q E s:=by rw[hc];exact hy
end
section
variable{prog:aE}{w:az}{U:ab->List Int->Prop}{A:a_}{E:aa->af->Prop}{s:af}
theorem aiL{D:ab}{aH:List (List Int)}{Q:Unit->af->Prop}(hS:bL prog w U s.heap D aH)(hn:aH.length < 1000)(h:Q () s):ag (ah prog w) A (setTidy D) Q E s:=by obtain⟨L,ep,t,f,ho,g,room,_⟩:=hS;have h7:=g.m7;unfold setTidy;refine ae (d7 ho rfl (g.fits (by lia)) ?_);refine Xa (by unfold tooManyDummies;rw[g.nd];simp) (ar h)
theorem aiM{id:String}{r o:ab}{aH:List (List Int)}{Q:Unit->af->Prop}(hr:bL prog w U s.heap r aH)(ho:bL prog w U s.heap o [])(hne:r≠o)(hk:aH.length < 900)(h:Q () s):ag (ah prog w) A (tJ id r (.ref o)) Q E s:=by
 obtain⟨L,ep,t,f,hoD,gs,hlen,hp,he⟩:=ho.goes (by simp);have hL:L=[]:=ik.mp (by simpa using hlen);subst hL;unfold tJ;refine Xa (by rw[beq_eq_false_iff_ne];intro e;injection e with e;exact hne e.symm) ?_;refine ae (yX ho.ty ?_);simp only[if_true];refine ae (m:=iP _) (ar ?_);refine ae (oH ho (by simp) (ae (oH hr (by lia) ?_)));have hc:¬([]:List (List Int)).length / 8 > aH.length:=by simp
 rw[if_neg hc];refine ae (nE hoD rfl (gs.g.fits gs.hl) ?_);refine ae (dP (ae (xJ hoD gs ?_)));have h0:(fu w o ep []).toList=[]:=by have:=jt w o ep [];exact ik.mp (by rw[fR];exact this)
 rw[<- m8,h0,qV];refine ae (ar (ar ?_));exact aiL hr (by lia) h
theorem apW{id:String}{l r:ab}{aH js:List (List Int)}{Q:aa->af->Prop}(hl:bL prog w U s.heap l aH)(hr:bL prog w U s.heap r js)(hk:aH.length < 900)(hj:js.length < 900)(hc:js=[]∨¬aH.length / 4 > js.length)(hu:A.units < be)
  (h:∀h' tk ls,(∀b o,s.heap.get? b=some o->h'.get? b=some o)->(∀x,x∈ls↔x∈aH/\x∉js)->bL prog w U h' s.heap.objs.size ls->Q (.ref s.heap.objs.size) { s with heap:=h',toks:=tk }) :
  ag (ah prog w) A (tN id l (.ref r)) Q E s:=by
 have lt:∀{D:ab}{k:List (List Int)},bL prog w U s.heap D k->D < s.heap.objs.size:=fun hS=>by obtain⟨L,ep,t,ho,_⟩:=hS.len;exact bu ho
 unfold tN;refine ae (yX hr.ty ?_);simp only[dS,aS,if_false,kT,if_true];refine ae (m:=iP _) (ar ?_);refine ae (oH hr (by lia) (ae (oH hl (by lia) ?_)));by_cases c:aH.length / 4 > js.length
 ·rw[if_pos c];have hz:js=[]:=hc.elim (fun z=>z) fun z=>absurd c z;subst hz;refine ae (gu ?_);refine ae (aae hl (by lia) hu fun h1 tk1 k1 kp nd1 hm1 hS1=>?_);have hp:k1.length=aH.length:=(oJ nd1 hl.nd hm1).length_eq;refine ae (m:=iP _) (ar ?_);refine ae (dP (aiM (s:={ s with heap:=h1,toks:=tk1 }) hS1 (hr.moved fun b o _ e=>kp b o e) (hG (lt hr)) (by lia) ?_));exact ar (h h1 tk1 k1 kp (fun x=>by rw[hm1 x];simp) hS1)
 ·rw[if_neg c];refine ae (aad hl.ty (ae (Ip ?_)));refine ae (m:=iP _) (ar ?_);obtain⟨L,ep,t,f,hoD,gs,hlen,hp,he⟩:=(hl.pushed (cT (!qM w))).goes (by lia);refine ae (nE (s:={ s with heap:=s.heap.push (cT (!qM w)) }) hoD rfl (gs.g.fits gs.hl) ?_);refine ae (dP (ae (xJ (s:={ s with heap:=s.heap.push (cT (!qM w)) }) hoD gs ?_)));have fl:=abz (prog:=prog) (w:=w) (U:=U) (A:=A) (E:=E) (s:={ s with heap:=s.heap.push (cT (!qM w)) }) (id:=id) (pos:=false) (Q:=fun _ s'=>ag (ah prog w) A (pure ()) (fun _ s''=>ag (ah prog w) A (pure (aa.ref s.heap.objs.size)) Q E s'') E s') (KC (dc _ rfl)) (hr.pushed (cT (!qM w))) hoD gs (hG (lt hl)) (hG (lt hr)) hj (by lia) hp hu he fun h' tk ls hs hmm hS' =>
   ar (ar (h h' tk ls (QM hs) (fun x=>by rw[hmm x];simp) hS'))
  simp only[beq_false]at fl;exact ae fl
end
end Tb
namespace So
open PySem PySem.W PyProof.Rows
def Sp(lt:Nat->Nat->Bool)(n:Nat){α:Type}:KasT α->(α->Prop)->Prop
 | .ret a,Q=>Q a
 | .ask i j k,Q=>i < n/\j < n/\Sp lt n (k (lt i j)) Q
section
variable{lt:Nat->Nat->Bool}{n:Nat}{α β:Type}
structure Ar (n:Nat)(p:Array Nat):Prop where
 sz:p.size=n
 lt:∀i,p.getD i 0 < n
 pm:p.toList.Perm (cn n)
def Up(lt:Nat->Nat->Bool)(p:Array Nat)(m:Nat):Prop:=∀i j,i < j->j < m->lt (p.getD j 0) (p.getD i 0)=false
def Dn(lt:Nat->Nat->Bool)(p:Array Nat)(m:Nat):Prop:=∀i j,i < j->j < m->lt (p.getD i 0) (p.getD j 0)=false
structure Ord (lt:Nat->Nat->Bool):Prop where
 tr:∀a b c,lt b a=false->lt c b=false->lt c a=false
 as:∀a b,lt a b=true->lt b a=false
theorem irr(O:Ord lt)(a:Nat):lt a a=false:=by
 cases h:lt a a with
 |false=>rfl
 |true=>have:=O.as a a h;rw[h]at this;cases this
end
end So
namespace So
open PySem PySem.W PyProof.Rows PySem.Calls
def jE:List Int->List Int->Bool
 | [],[]=>false
 | [],_::_=>true
 |_::_,[]=>false
 |a::as,b::bs=>if a=b then jE as bs else decide (a < b)
theorem sJ:∀a b:List Int,jE a b=true->jE b a=false
 | [],[],h=>by cases h
 | [],_::_,h=>rfl
 |_::_,[],h=>by cases h
 |a::as,b::bs,h=>by
  unfold jE at h ⊢;by_cases c:a=b
  ·subst c;simp only[if_true]at h ⊢;exact sJ as bs h
  ·rw[if_neg c]at h;rw[if_neg (de c)];have:=of_decide_eq_true h;exact decide_eq_false (by lia)
theorem Dv:∀a b c:List Int,jE b a=false->jE c b=false->jE c a=false
 | [],[],[],_,_=>rfl
 | [],[],_::_,_,_=>rfl
 | [],_::_,[],_,h=>by cases h
 | [],_::_,_::_,_,_=>rfl
 |_::_,[],_,h,_=>by cases h
 |a::as,b::bs,[],_,h=>by cases h
 |a::as,b::bs,c::cs,h1,h2=>by
  unfold jE at h1 h2 ⊢;by_cases e1:b=a
  ·subst e1;simp only[if_true]at h1;by_cases e2:c=b
   ·subst e2;simp only[if_true]at h2 ⊢;exact Dv as bs cs h1 h2
   ·rw[if_neg e2]at h2 ⊢;exact h2
  ·rw[if_neg e1]at h1;have g1:=of_decide_eq_false h1;by_cases e2:c=b
   ·subst e2;rw[if_neg e1];exact h1
   ·rw[if_neg e2]at h2;have g2:=of_decide_eq_false h2;rw[if_neg (by lia)];exact decide_eq_false (by lia)
theorem Xb:∀a b:List Int,jE a b=false->jE b a=false->a=b
 | [],[],_,_=>rfl
 | [],_::_,h,_=>by cases h
 |_::_,[],_,h=>by cases h
 |a::as,b::bs,h1,h2=>by
  unfold jE at h1 h2;by_cases c:a=b
  ·subst c;simp only[if_true]at h1 h2;rw[Xb as bs h1 h2]
  ·rw[if_neg c]at h1;rw[if_neg (de c)]at h2;have:=of_decide_eq_false h1;have:=of_decide_eq_false h2;lia
theorem anh(aH:List (List Int)):Ord fun i j=>jE (aH.getD i []) (aH.getD j []):=⟨fun a b c h1 h2=>Dv _ _ _ h1 h2,fun a b h=>sJ _ _ h⟩
section
variable{prog:aE}{w:az}{A:a_}{E:aa->af->Prop}{s:af}
def apY(prog:aE)(w:az)(A:a_)(κ:fI)(vs:List aa)(lt:Nat->Nat->Bool)(s:af):Prop :=
 ∀i j (C:Bool->af->Prop) (E:aa->af->Prop),i < vs.length->j < vs.length->C (lt i j) s->ag (ah prog w) A (keyLt' κ (vs.getD i aa.none) (vs.getD j aa.none)) C E s
def Xc(lt:Nat->Nat->Bool)(vs:List aa)(st:bb):Prop:=∃p:Array Nat,Ar vs.length p/\Up lt p vs.length/\(ay st).map (·.2)=kP (p.toList.map fun i=>vs.getD i aa.none)/\fN st=none
theorem aey{b:Bool}{Q:Bool->af->Prop}:∀{ks js:List Int}{xs ys:List aa}(i:Nat),ItemsAre (bE prog w) ks xs->ItemsAre (bE prog w) js ys->Q (jE ks js) s ->
  KatLex prog w A b (decide (xs.length < ys.length)) Q (xs.zip ys) i s:=by
 have gen:∀(d:Bool) {ks js:List Int}{xs ys:List aa}(i:Nat),ItemsAre (bE prog w) ks xs->ItemsAre (bE prog w) js ys->d=decide (xs.length < ys.length)->Q (jE ks js) s->KatLex prog w A b d Q (xs.zip ys) i s:=by
  intro d ks
  induction ks with
  |nil =>
   intro js xs ys i hx hy hd hq;cases hx;cases hy with
   |nil=>subst hd;exact kat_nil hq
   |cons h1 h2=>subst hd;exact kat_nil hq
  |cons k ks ih =>
   intro js xs ys i hx hy hd hq;cases hx with
   |cons h1 h2 =>
    cases hy with
    |nil=>subst hd;exact kat_nil hq
    | @cons j v js vs h3 h4 =>
     obtain⟨t,rfl⟩:=lI h1;obtain⟨u,rfl⟩:=lI h3;refine kat_cons (wpAny_eqBool_int ?_);by_cases e:k=j
     ·subst e;rw[show(k == k)=true from by simp];refine kat_yes (ih (i + 1) h2 h4 (by rw[hd];simp) ?_);unfold jE at hq;rw[if_pos rfl]at hq;exact hq
     ·rw[show(k == j)=false from by simp[e]];unfold jE at hq;rw[if_neg e]at hq;refine kat_no ?_;cases (b && i == 0) with
      |true=>exact oneLt_int hq
      |false=>exact kat_one _ _ (wpAny_lt_int hq)
 intro ks js xs ys i hx hy hq;exact gen _ i hx hy rfl hq
theorem aiN{a b:ab}{ks js:List Int}{f:Bool}{Q:Bool->af->Prop}(ha:cv (bE prog w) s.heap ks a)(hb:cv (bE prog w) s.heap js b)(hq:Q (jE ks js) s) :
  ag (ah prog w) A (keyLt' (tuples' f) (.ref a) (.ref b)) Q E s:=by
 obtain⟨o,xs,n,h1,h2,h3,h4⟩:=ha;obtain⟨o',ys,n',h1',h2',h3',h4'⟩:=hb;refine kat_lt h1 h3 h1' h3' ?_;have:=aey (prog:=prog) (w:=w) (A:=A) (b:=f) 0 h4 h4' hq;simpa using this
def KeysAre(prog:aE)(w:az)(h:Heap)(vs:List aa)(aH:List (List Int)):Prop :=
 aH.length=vs.length/\∀(i:Nat) v,vs[i]?=some v->∃b,v=.ref b/\cv (bE prog w) h (aH.getD i []) b
theorem KeysAre.moved{h h':Heap}{vs:List aa}{aH:List (List Int)}(k:KeysAre prog w h vs aH) (hm:∀b o,h.get? b=some o->o.cls=.type "tuple"->h'.get? b=some o):KeysAre prog w h' vs aH :=
 ⟨k.1,fun i v hv=>let ⟨b,e,o,its,m,q1,q2,q3,q4⟩:=k.2 i v hv;⟨b,e,o,its,m,hm _ _ q1 q2,q2,q3,q4⟩⟩
theorem KeysAre.asks{f:Bool}{vs:List aa}{aH:List (List Int)}(k:KeysAre prog w s.heap vs aH):apY prog w A (tuples' f) vs (fun i j=>jE (aH.getD i []) (aH.getD j [])) s:=by intro i j C E hi hj hC;obtain⟨b,e,hb⟩:=k.2 i vs[i] (eI hi);obtain⟨b',e',hb'⟩:=k.2 j vs[j] (eI hj);rw[show vs.getD i aa.none=.ref b by simp[hi,e],show vs.getD j aa.none=.ref b' by simp[hj,e']];exact aiN hb hb' hC
theorem KeysAre.tups{h:Heap}:∀{vs:List aa}{aH:List (List Int)},KeysAre prog w h vs aH->(∀ks∈aH,ks≠[])->∃fs:List aa,KatTups h vs fs/\fs.length=vs.length/\∀v∈fs,∃i t,v=.int i t
 | [],aH,k,hn=>⟨[],.nil,rfl,fun v hv=>by cases hv⟩
 |v::vs,[],k,hn=>by cases k.1
 |v::vs,ks::aH,k,hn=>by
  obtain⟨fs,t,l,e⟩:=KeysAre.tups (vs:=vs) (aH:=aH) ⟨by have:=k.1;simpa using this,fun i u hu=>by have:=k.2 (i + 1) u (by simpa using hu);simpa using this⟩ fun x hx=>hn x (.tail _ hx);obtain⟨b,rfl,o,its,m,q1,q2,q3,q4⟩:=k.2 0 v (by simp);have hne:=hn ks (.head _);simp at q4;generalize hits:its.toList=L at q4;cases q4 with
  |nil=>exact absurd rfl hne
  | @cons i v' ks' vs' h1 h2 =>
   obtain⟨tk,rfl⟩:=lI h1;have h0:its[0]?=some (aa.int i tk):=by rw[<- h_,hits];rfl
   refine⟨.int i tk::fs,.cons q1 q2 q3 h0 t,by simp[l],fun u hu=>?_⟩;rcases bz.mp hu with rfl|hu
   ·exact⟨_,_,rfl⟩
   ·exact e u hu
def leK(a b:List Int):Prop:=jE b a=false
def Xd(x:List Int):List (List Int)->List (List Int)
 | []=>[x]
 |y::ys=>if jE y x=true then y::Xd x ys else x::y::ys
def cF(l:List (List Int)):List (List Int):=l.foldr Xd []
theorem yZ(x:List Int):∀l,(Xd x l).Perm (x::l)
 | []=>.refl _
 |y::ys=>by
  unfold Xd;split
  ·exact((yZ x ys).cons y).trans (ie.swap x y ys)
  ·exact .refl _
theorem fD:∀l,(cF l).Perm l
 | []=>.refl _
 |x::l=>(yZ x (cF l)).trans ((fD l).cons x)
theorem aaf(x:List Int):∀l,l.Pairwise leK->(Xd x l).Pairwise leK
 | [],_=>by simp[Xd]
 |y::ys,h=>by
  obtain⟨h1,h2⟩:=gc.mp h;unfold Xd;split
  ·rename_i c;refine gc.mpr ⟨fun z hz=>?_,aaf x ys h2⟩;rcases bz.mp ((yZ x ys).mem_iff.mp hz) with rfl|hz
   ·exact sJ _ _ c
   ·exact h1 z hz
  ·rename_i c;have c':jE y x=false:=by simpa using c
   refine gc.mpr ⟨fun z hz=>?_,h⟩;rcases bz.mp hz with rfl|hz
   ·exact c'
   ·exact Dv _ _ _ c' (h1 z hz)
theorem xK:∀l,(cF l).Pairwise leK
 | []=>.nil
 |x::l=>aaf x _ (xK l)
theorem za:∀{l l':List (List Int)},l.Perm l'->l.Pairwise leK->l'.Pairwise leK->l=l'
 | [],l',p,_,_=>(List.nil_perm.mp p).symm
 |x::l,[],p,_,_=>by cases List.perm_nil.mp p
 |x::l,y::l',p,h,h'=>by
  obtain⟨h1,h2⟩:=gc.mp h;obtain⟨h1',h2'⟩:=gc.mp h';have e:x=y:=by
   have m1:=bz.mp (p.mem_iff.mp (dA (a:=x) (l:=l)));have m2:=bz.mp (p.mem_iff.mpr (dA (a:=y) (l:=l')));rcases m1 with m1|m1
   ·exact m1
   ·rcases m2 with m2|m2
    ·exact m2.symm
    ·exact Xb _ _ (h1' x m1) (h1 y m2)
  subst e;rw[za (p.cons_inv) h2 h2']
theorem Dw{l l':List (List Int)}(p:l.Perm l')(h:l.Pairwise leK):l=cF l':=za (p.trans (fD l').symm) h (xK l')
def QS(aH:List (List Int))(p:Array Nat):Prop:=p.toList.Perm (cn aH.length)/\(p.toList.map fun i=>aH.getD i [])=cF aH
theorem aez{aH:List (List Int)}{p:Array Nat}(a:Ar aH.length p)(u:Up (fun i j=>jE (aH.getD i []) (aH.getD j [])) p aH.length):QS aH p:=by
 refine⟨a.pm,Dw ?_ ?_⟩
 ·have:=a.pm.map fun i=>aH.getD i [];refine this.trans (k_ ?_);apply k8
  ·simp
  ·intro i h1 h2;simp at h1;simp[h1]
 ·rw[j5];intro i j hi hj hij;simp only[cb,fR]at hi hj;have:=u i j hij (by rw[<- a.sz];exact hj);simp only[tP,Array.getElem_toList];unfold leK;rw[kH,kH,nN hi,nN hj]at this;exact this
theorem QT{aH:List (List Int)}(h:aH.length < 2):QS aH (kP (cn aH.length)):=by
 refine⟨.refl _,Dw ?_ ?_⟩
 ·refine k_ ?_;apply k8
  ·simp
  ·intro i h1 h2;simp at h1;simp[h1]
 ·rw[j5];intro i j hi hj hij;simp at hi hj;lia
end
end So
namespace Sb
open PySem PySem.W PyProof.Rows
section
variable{prog:aE}{w:az}{A:a_}{E:aa->af->Prop}{s:af}{a₀ x0:Array ax}{κ:fI}{rk:ax->Int}{lo:Nat}{p0:Array (Nat×Nat×Nat)}
def Ax(prog:aE)(w:az)(A:a_)(s:af)(κ:fI)(rk:ax->Int)(a₀:Array ax):Prop :=
 ∀x y (C:Bool->af->Prop) (E:aa->af->Prop),x∈a₀.toList->y∈a₀.toList->C (decide (rk x < rk y)) s->ag (ah prog w) A (keyLt' κ x.1 y.1) C E s
def R(rk:ax->Int)(xs:Array ax)(i:Nat):Int:=match xs[i]? with|some p=>rk p|none=>0
theorem lF{xs ys:Array ax}{i j:Nat}(h:xs[i]?=ys[j]?):R rk xs i=R rk ys j:=by unfold R;rw[h]
theorem jh{xs:Array ax}{i:Nat}{x:ax}(h:xs[i]?=some x):R rk xs i=rk x:=by unfold R;rw[h]
def Up(rk:ax->Int)(xs:Array ax)(lo n:Nat):Prop:=∀i j,i<=j->j < n->R rk xs (lo + i)<=R rk xs (lo + j)
def Dn(rk:ax->Int)(xs:Array ax)(lo n:Nat):Prop:=∀i j,i<=j->j < n->R rk xs (lo + j)<=R rk xs (lo + i)
structure SB (κ:fI)(a₀ x0:Array ax)(p0:Array (Nat×Nat×Nat))(lo:Nat)(st:bb):Prop where
 perm:(ay st).Perm a₀
 kind:kindOf st=κ
 failed:fN st=none
 pend:b_ st=p0
 keep:∀k,k < lo->(ay st)[k]?=x0[k]?
theorem SB.size{st:bb}(h:SB κ a₀ x0 p0 lo st):(ay st).size=a₀.size:=h.perm.size_eq
theorem SB.setArr{st:bb}(h:SB κ a₀ x0 p0 lo st){xs:Array ax}(hp:xs.Perm (ay st))(hk:∀k,k < lo->xs[k]?=(ay st)[k]?):SB κ a₀ x0 p0 lo (setArr st xs) :=
 ⟨hp.trans h.perm,h.kind,h.failed,h.pend,fun k hl=>(hk k hl).trans (h.keep k hl)⟩
theorem aeA{xs:Array ax}(hp:xs.Perm a₀){i:Nat}{x:ax}(h:xs[i]?=some x):x∈a₀.toList:=by obtain⟨hi,rfl⟩:=ic.mp h;exact(t9.mp hp).mem_iff.mp (by simp)
theorem cH{st:bb}{xs:Array ax}{i:Nat}{x:ax}{Q:ax->bb->Prop}(h:xs[i]?=some x)(hq:Q x st):wpS (ah prog w) A E s (dC xs i) Q st:=by rw[elem'_eq,h];exact bg hq
theorem Dy{st:bb}{x y:ax}{Q:Option Bool->bb->Prop}(ha:Ax prog w A s κ rk a₀)(hk:kindOf st=κ)(hx:x∈a₀.toList)(hy:y∈a₀.toList)(h:Q (some (decide (rk x < rk y))) st) :
  wpS (ah prog w) A E s (lt' x y) Q st:=by
 rw[lt'_eq];refine aI (il ?_);rw[hk];refine aI (lh (kM (ha x y _ _ hx hy ⟨rfl,?_⟩)));exact bg h
theorem xM{st:bb}{i j:Nat}{Q:Option Bool->bb->Prop}(ha:Ax prog w A s κ rk a₀)(hB:SB κ a₀ x0 p0 lo st)(hi:i < a₀.size)(hj:j < a₀.size)
  (h:Q (some (decide (R rk (ay st) i < R rk (ay st) j))) st):wpS (ah prog w) A E s (ltAt' i j) Q st:=by
 have e1:(ay st)[i]?=some ((ay st)[i]'(by rw[hB.size];exact hi)):=getElem?_pos _ i _;have e2:(ay st)[j]?=some ((ay st)[j]'(by rw[hB.size];exact hj)):=getElem?_pos _ j _;rw[jh e1,jh e2]at h;rw[ltAt'_eq];refine aI (il ?_);exact aI (cH e1 (aI (cH e2 (Dy ha hB.kind (aeA hB.perm e1) (aeA hB.perm e2) h))))
theorem Cj{st:bb}{i j:Nat}{Q:Unit->bb->Prop}(h:Q () (setArr st (iS (ay st) i j ((j - i) / 2)))) :
  wpS (ah prog w) A E s (px i j) Q st:=by
 rw[reverseSlice'_eq];exact j_ h
theorem Dz{xs:Array ax}{i j:Nat}(hj:j<=xs.size)(k:Nat) :
  R rk (iS xs i j ((j - i) / 2)) k=if i<=k/\k < j then R rk xs (i + j - 1 - k) else R rk xs k:=by
 have e:=getElem?_mirror_all (i:=i) hj k;by_cases h1:i<=k/\k < j
 ·rw[if_pos h1]at e ⊢;exact lF e
 ·rw[if_neg h1]at e ⊢;exact lF e
theorem iy{xs:Array ax}{i j:Nat}(hj:j<=xs.size)(heq:∀k,i<=k->k < j->R rk xs k=R rk xs (j - 1))(k:Nat) :
  R rk (iS xs i j ((j - i) / 2)) k=R rk xs k:=by
 rw[Dz hj];split
 ·rw[heq _ (by lia) (by lia),heq k (by lia) (by lia)]
 ·rfl
theorem SB.rev{st:bb}(h:SB κ a₀ x0 p0 lo st){i j:Nat}(hi:lo<=i)(hj:j<=a₀.size):SB κ a₀ x0 p0 lo (PyProof.Rows.setArr st (iS (ay st) i j ((j - i) / 2))) :=
 h.setArr (mirror_perm _ _ _ _) fun k hk=>by rw[getElem?_mirror_all (by rw[h.size];exact hj),if_neg (by lia)]
def aeB(lo a nrem:Nat):StateT bb Sem AscSt :=
 forIn [a:nrem] ((none,a):AscSt) fun _ __s=>do
  let __x <- ltAt' (lo + __s.snd) (lo + __s.snd - 1)
  match __x with
  |some smaller=>if smaller=true then pure (ForInStep.done (none,__s.snd)) else pure (ForInStep.yield (none,__s.snd + 1))
  |_=>pure (ForInStep.done (some none,__s.snd))
def QV(lo n nrem:Nat):StateT bb Sem (Option Nat):=do
 px lo (lo + n)
 let __s <- aeB lo n nrem
 match __s.fst with
 |some r=>pure r
 |none=>pure (some __s.snd)
def aag(lo n nrem:Nat):StateT bb Sem DescSt :=
 forIn [n:nrem] ((none,n,0):DescSt) fun _ __s=>do
  let __x <- ltAt' (lo + __s.snd.fst) (lo + __s.snd.fst - 1)
  match __x with
  |some smaller =>
   if smaller=true then
    if __s.snd.snd > 0 then do
     px (lo + __s.snd.fst - (__s.snd.snd + 1)) (lo + __s.snd.fst)
     pure (ForInStep.yield (none,__s.snd.fst + 1,0))
    else pure (ForInStep.yield (none,__s.snd.fst + 1,0))
   else do
    let __x <- ltAt' (lo + __s.snd.fst - 1) (lo + __s.snd.fst)
    match __x with
    |some larger =>
     if larger=true then pure (ForInStep.done (none,__s.snd.fst,__s.snd.snd))
     else pure (ForInStep.yield (none,__s.snd.fst + 1,__s.snd.snd + 1))
    |_=>pure (ForInStep.done (some none,__s.snd.fst,__s.snd.snd))
  |_=>pure (ForInStep.done (some none,__s.snd.fst,__s.snd.snd))
def QW(lo n nrem:Nat):StateT bb Sem (Option Nat):=do
 liftM (rule "list.sort.descending-run")
 let __s <- aag lo (n + 1) nrem
 match __s.fst with
 |some r=>pure r
 |none =>
  if __s.snd.snd > 0 then do
   px (lo + __s.snd.fst - (__s.snd.snd + 1)) (lo + __s.snd.fst)
   QV lo __s.snd.fst nrem
  else QV lo __s.snd.fst nrem
theorem aeC(lo nrem:Nat):countRun' lo nrem=(do
  let __s <- aeB lo 1 nrem
  match __s.fst with
  |some r=>pure r
  |none =>
   if (__s.snd == nrem)=true then pure (some __s.snd)
   else if __s.snd > 1 then do
    let __x <- ltAt' lo (lo + __s.snd - 1)
    match __x with
    |some rose=>if rose=true then pure (some __s.snd) else do
      px lo (lo + __s.snd)
      QW lo __s.snd nrem
    |_=>pure none
   else QW lo __s.snd nrem):=by
 rw[countRun'_eq];unfold QW QV aag aeB;dsimp only;congr 1;funext __s;obtain⟨r,n⟩:=__s;cases r with
 |some r=>rfl
 |none =>
  dsimp only;split
  ·rfl
  ·split
   ·congr 1;funext x;cases x with
    |none=>rfl
    |some rose =>
     dsimp only;split
     ·rfl
     ·congr 1;funext _r;congr 1;funext _u;congr 1;congr 1;funext s2;obtain⟨r2,n2,q2⟩:=s2;cases r2 with
      |some r2=>rfl
      |none =>
       dsimp only;split
       ·congr 1;funext _v;congr 1;funext _w;congr 1;funext s3;obtain⟨r3,n3⟩:=s3;cases r3 <;> rfl
       ·congr 1;funext _w;congr 1;funext s3;obtain⟨r3,n3⟩:=s3;cases r3 <;> rfl
   ·congr 1;funext _u;congr 1;congr 1;funext s2;obtain⟨r2,n2,q2⟩:=s2;cases r2 with
    |some r2=>rfl
    |none =>
     dsimp only;split
     ·congr 1;funext _v;congr 1;funext _w;congr 1;funext s3;obtain⟨r3,n3⟩:=s3;cases r3 <;> rfl
     ·congr 1;funext _w;congr 1;funext s3;obtain⟨r3,n3⟩:=s3;cases r3 <;> rfl
end
section
variable{prog:aE}{w:az}{A:a_}{E:aa->af->Prop}{s:af}{a₀ x0:Array ax}{κ:fI}{rk:ax->Int}{lo:Nat}{p0:Array (Nat×Nat×Nat)}
theorem aah{st:bb}{a nrem:Nat}{Q:AscSt->bb->Prop}(h0:Ax prog w A s κ rk a₀)(hn:lo + nrem<=a₀.size)(ha:1<=a)(han:a<=nrem)(hB:SB κ a₀ x0 p0 lo st)
  (hs:Up rk (ay st) lo a)
  (h:∀n,a<=n->n<=nrem->Up rk (ay st) lo n->(n=nrem∨R rk (ay st) (lo + n) < R rk (ay st) (lo + (n - 1)))->Q (none,n) st) :
  wpS (ah prog w) A E s (aeB lo a nrem) Q st:=by
 unfold aeB;refine fw (I:=fun x c st'=>st'=st/\c=(none,x)/\Up rk (ay st) lo x) ?step ?dZ ⟨rfl,rfl,hs⟩
 case dZ =>
  rintro c st' ⟨rfl,rfl,hs'⟩;rw[show max a nrem=nrem by lia]at hs' ⊢;exact h nrem han (br _) hs' (.inl rfl)
 case step =>
  rintro x c st' hax hxn ⟨rfl,rfl,hs'⟩;dsimp only;rw[show lo + x - 1=lo + (x - 1) by lia];refine aI (xM h0 hB (by lia) (by lia) ?_);by_cases hless:R rk (ay st') (lo + x) < R rk (ay st') (lo + (x - 1))
  ·simp only[hless,decide_true,if_true];exact bg (h x hax (by lia) hs' (.inr hless))
  ·simp only[hless,decide_false,aS,if_false];refine bg ⟨rfl,rfl,fun i j hij hj=>?_⟩;by_cases hjx:j < x
   ·exact hs' i j hij hjx
   ·have hj':j=x:=by lia
    subst hj';by_cases hi':i=j
    ·subst hi';exact g7 _
    ·exact eW (hs' i (j - 1) (by lia) (by lia)) (pS.mp hless)
theorem Ir{st:bb}{n nrem:Nat}{Q:Option Nat->bb->Prop}(h0:Ax prog w A s κ rk a₀)(hn:lo + nrem<=a₀.size)(h1:1<=n)(hnn:n<=nrem)(hB:SB κ a₀ x0 p0 lo st)
  (hs:Dn rk (ay st) lo n) (h:∀m st',SB κ a₀ x0 p0 lo st'->1<=m->m<=nrem->Up rk (ay st') lo m->Q (some m) st') :
  wpS (ah prog w) A E s (QV lo n nrem) Q st:=by
 unfold QV;have hsz:lo + n<=(ay st).size:=by rw[hB.size];lia
 refine aI (Cj ?_);have hB':SB κ a₀ x0 p0 lo (setArr st (iS (ay st) lo (lo + n) ((lo + n - lo) / 2))):=hB.rev (br _) (by lia);refine aI (aah h0 hn h1 hnn hB' ?_ fun m hm1 hm2 hsm _=>bg (h m _ hB' (by lia) hm2 hsm));intro i j hij hj;show R rk (iS (ay st) lo (lo + n) ((lo + n - lo) / 2)) (lo + i)<=R rk (iS (ay st) lo (lo + n) ((lo + n - lo) / 2)) (lo + j);rw[Dz hsz,Dz hsz,if_pos (by lia),if_pos (by lia)];have:=hs (n - 1 - j) (n - 1 - i) (by lia) (by lia);rw[show lo + (lo + n) - 1 - (lo + i)=lo + (n - 1 - i) by lia,show lo + (lo + n) - 1 - (lo + j)=lo + (n - 1 - j) by lia];exact this
theorem aeD{st:bb}{n nrem:Nat}{Q:DescSt->bb->Prop}(h0:Ax prog w A s κ rk a₀)(hn:lo + nrem<=a₀.size)(h1:1<=n)(hnn:n<=nrem)(hB:SB κ a₀ x0 p0 lo st)
  (hs:Dn rk (ay st) lo n)
  (h:∀m neq st',SB κ a₀ x0 p0 lo st'->n<=m->m<=nrem->Dn rk (ay st') lo m->neq + 1<=m->(∀i,lo + m - (neq + 1)<=i->i < lo + m->R rk (ay st') i=R rk (ay st') (lo + m - 1))->Q (none,m,neq) st') :
  wpS (ah prog w) A E s (aag lo n nrem) Q st:=by
 unfold aag;refine fw (I:=fun x c st'=>∃neq,c=(none,x,neq)/\SB κ a₀ x0 p0 lo st'/\Dn rk (ay st') lo x/\neq + 1<=x /\
   (∀i,lo + x - (neq + 1)<=i->i < lo + x->R rk (ay st') i=R rk (ay st') (lo + x - 1))) ?step ?dZ ⟨0,rfl,hB,hs,by lia,fun i h1 h2=>by congr 1;lia⟩
 case dZ =>
  rintro c st' ⟨neq,rfl,hB',hs',hq,he⟩;rw[show max n nrem=nrem by lia]at hs' hq he ⊢;exact h nrem neq st' hB' hnn (br _) hs' hq he
 case step =>
  rintro x c st' hax hxn ⟨neq,rfl,hB',hs',hq,he⟩;dsimp only;have hsz:lo + x<=(ay st').size:=by rw[hB'.size];lia
  have e1:lo + x - 1=lo + (x - 1):=by lia
  refine aI (xM h0 hB' (by lia) (by lia) ?_);by_cases hless:R rk (ay st') (lo + x) < R rk (ay st') (lo + x - 1)
  ·simp only[hless,decide_true,if_true];rw[e1]at hless;have step1:∀xs:Array ax,(∀k,R rk xs k=R rk (ay st') k)->Dn rk xs lo (x + 1):=by
    intro xs hk i j hij hj;rw[hk,hk];by_cases hjx:j < x
    ·exact hs' i j hij hjx
    ·have hj':j=x:=by lia
     subst hj';by_cases hi':i=j
     ·subst hi';exact g7 _
     ·exact eW (g8 hless) (hs' i (j - 1) (by lia) (by lia))
   by_cases hneq:neq > 0
   ·rw[if_pos hneq];refine aI (Cj (bg ⟨0,rfl,hB'.rev (by lia) (by lia),step1 _ (iy hsz he),by lia,fun i h1 h2=>by congr 1;lia⟩))
   ·rw[if_neg hneq];exact bg ⟨0,rfl,hB',step1 _ (fun _=>rfl),by lia,fun i h1 h2=>by congr 1;lia⟩
  ·simp only[hless,decide_false,aS,if_false];refine aI (xM h0 hB' (by lia) (by lia) ?_);by_cases hlarger:R rk (ay st') (lo + x - 1) < R rk (ay st') (lo + x)
   ·simp only[hlarger,decide_true,if_true];exact bg (h x neq st' hB' hax (by lia) hs' hq he)
   ·simp only[hlarger,decide_false,aS,if_false];have heqx:R rk (ay st') (lo + x)=R rk (ay st') (lo + x - 1):=by lia
    refine bg ⟨neq + 1,rfl,hB',fun i j hij hj=>?_,by lia,fun i h1 h2=>?_⟩
    ·by_cases hjx:j < x
     ·exact hs' i j hij hjx
     ·have hj':j=x:=by lia
      subst hj';by_cases hi':i=j
      ·subst hi';exact g7 _
      ·rw[heqx,e1];exact hs' i (j - 1) (by lia) (by lia)
    ·rw[show lo + (x + 1) - 1=lo + x by lia];by_cases hix:i=lo + x
     ·subst hix;rfl
     ·rw[heqx];exact he i (by lia) (by lia)
theorem Iu{st:bb}{n nrem:Nat}{Q:Option Nat->bb->Prop}(h0:Ax prog w A s κ rk a₀)(hn:lo + nrem<=a₀.size)(hnn:n + 1<=nrem)(hB:SB κ a₀ x0 p0 lo st)
  (hs:Dn rk (ay st) lo (n + 1)) (h:∀m st',SB κ a₀ x0 p0 lo st'->1<=m->m<=nrem->Up rk (ay st') lo m->Q (some m) st') :
  wpS (ah prog w) A E s (QW lo n nrem) Q st:=by
 unfold QW;refine aI (lh (gu ⟨rfl,?_⟩));refine aI (aeD h0 hn (by lia) hnn hB hs fun m neq st' hB' hm1 hm2 hs' hq he=>?_);dsimp only;have hsz:lo + m<=(ay st').size:=by rw[hB'.size];lia
 by_cases hneq:neq > 0
 ·rw[if_pos hneq];refine aI (Cj (Ir h0 hn (by lia) hm2 (hB'.rev (by lia) (by lia)) ?_ h));intro i j hij hj;show R rk (iS (ay st') _ _ _) _<=R rk (iS (ay st') _ _ _) _;rw[iy hsz he,iy hsz he];exact hs' i j hij hj
 ·rw[if_neg hneq];exact Ir h0 hn (by lia) hm2 hB' hs' h
theorem abA{st:bb}{nrem:Nat}{Q:Option Nat->bb->Prop}(h0:Ax prog w A s κ rk a₀)(hn:lo + nrem<=a₀.size)(h1:1<=nrem)(hB:SB κ a₀ x0 p0 lo st)
  (h:∀m st',SB κ a₀ x0 p0 lo st'->1<=m->m<=nrem->Up rk (ay st') lo m->Q (some m) st') :
  wpS (ah prog w) A E s (countRun' lo nrem) Q st:=by
 rw[aeC];refine aI (aah h0 hn (br 1) h1 hB (fun i j hij hj=>by have e:i=j:=by { lia };subst e;exact g7 _) fun n hn1 hn2 hsn hor=>?_);dsimp only;by_cases hnn:n=nrem
 ·rw[if_pos (by simpa using hnn)];exact bg (h n st hB hn1 hn2 hsn)
 ·rw[if_neg (by simpa using hnn)];have hlt:R rk (ay st) (lo + n) < R rk (ay st) (lo + (n - 1)):=hor.resolve_left hnn;by_cases hgt:n > 1
  ·rw[if_pos hgt,show lo + n - 1=lo + (n - 1) by lia];refine aI (xM h0 hB (by lia) (by lia) ?_);by_cases hrose:R rk (ay st) lo < R rk (ay st) (lo + (n - 1))
   ·simp only[hrose,decide_true,if_true];exact bg (h n st hB hn1 hn2 hsn)
   ·simp only[hrose,decide_false,aS,if_false];have hsz:lo + n<=(ay st).size:=by rw[hB.size];lia
    have hall':∀k,k < n->R rk (ay st) (lo + k)=R rk (ay st) (lo + (n - 1)):=by intro k hk;have a1:=hsn 0 k (by lia) hk;have a2:=hsn k (n - 1) (by lia) (by lia);rw[mP]at a1;lia
    have hall:∀k,lo<=k->k < lo + n->R rk (ay st) k=R rk (ay st) (lo + n - 1):=fun k k1 k2=>by have:=hall' (k - lo) (by lia);rw[show lo + (k - lo)=k by lia]at this;rw[this];congr 1;lia
    refine aI (Cj (Iu h0 hn (by lia) (hB.rev (br _) (by lia)) ?_ h));intro i j hij hj;show R rk (iS (ay st) _ _ _) _<=R rk (iS (ay st) _ _ _) _;rw[iy hsz hall,iy hsz hall];by_cases hjn:j < n
    ·rw[hall' i (by lia),hall' j hjn];exact g7 _
    ·obtain rfl:j=n:=by lia
     by_cases hi':i=j
     ·subst hi';exact g7 _
     ·rw[hall' i (by lia)];exact g8 hlt
  ·rw[if_neg hgt];obtain rfl:n=1:=by lia
   refine Iu h0 hn (by lia) hB ?_ h;intro i j hij hj;by_cases hi':i=j
   ·subst hi';exact g7 _
   ·obtain rfl:i=0:=by lia
    obtain rfl:j=1:=by lia
    exact g8 hlt
theorem QX{xs:Array ax}{src d:Nat}(hs:src < xs.size)(hd:d<=src)(k:Nat) :
  R rk (bubble xs src d) k=if k=src - d then R rk xs src else if src - d < k/\k<=src then R rk xs (k - 1) else R rk xs k:=by
 have e:=getElem?_bubble hs d hd k;by_cases h1:k=src - d
 ·rw[if_pos h1]at e ⊢;exact lF e
 ·rw[if_neg h1]at e ⊢;by_cases h2:src - d < k/\k<=src
  ·rw[if_pos h2]at e ⊢;exact lF e
  ·rw[if_neg h2]at e ⊢;exact lF e
theorem aiO{st:bb}{n ok:Nat}{Q:Bool->bb->Prop}(h0:Ax prog w A s κ rk a₀)(hn:lo + n<=a₀.size)(hok:ok<=n)(hB:SB κ a₀ x0 p0 lo st)(hs:Up rk (ay st) lo ok)
  (h:∀st',SB κ a₀ x0 p0 lo st'->Up rk (ay st') lo n->Q true st'):wpS (ah prog w) A E s (binarySort' lo n ok) Q st:=by
 rw[binarySort'_eq];refine aI (eT (fw (I:=fun k c st'=>c=(none,())/\SB κ a₀ x0 p0 lo st'/\Up rk (ay st') lo (min k n))
  (Q:=fun c st'=>c=(none,())/\SB κ a₀ x0 p0 lo st'/\Up rk (ay st') lo n) ?step ?dZ ?init) ?post)
 case post =>
  rintro c st' ⟨rfl,hB',hs'⟩;exact bg (h st' hB' hs')
 case init =>
  refine⟨rfl,hB,fun i j hij hj=>?_⟩;by_cases h1:ok=0
  ·obtain rfl:i=j:=by lia
   exact g7 _
  ·exact hs i j hij (by lia)
 case dZ =>
  rintro c st' ⟨hc,hB',hs'⟩;refine⟨hc,hB',?_⟩;rwa [show min (max (max ok 1) n) n=n by lia]at hs'
 case step =>
  rintro k c st' hak hkn ⟨rfl,hB',hs'⟩;rw[show min k n=k by lia]at hs';have hk:lo + k < a₀.size:=by lia
  refine aI (eT (fw (I:=fun x c st''=>st''=st'/\∃l r,c=(none,l,r)/\l<=r/\r<=k/\r - l<=k - x /\
    (∀i,i < l->R rk (ay st') (lo + i)<=R rk (ay st') (lo + k))/\(∀i,r<=i->i < k->R rk (ay st') (lo + k) < R rk (ay st') (lo + i)))
   (Q:=fun c st''=>st''=st'/\∃l r,c=(none,l,r)/\l<=k /\
    (∀i,i < l->R rk (ay st') (lo + i)<=R rk (ay st') (lo + k))/\(∀i,l<=i->i < k->R rk (ay st') (lo + k) < R rk (ay st') (lo + i))) ?istep ?ifin ?iinit) ?ipost)
  case iinit=>exact⟨rfl,0,k,rfl,by lia,by lia,by lia,fun i hi=>by lia,fun i h1 h2=>by lia⟩
  case ifin =>
   rintro c st'' ⟨rfl,l,r,rfl,hlr,hrk,hm,hlo,hhi⟩;obtain rfl:l=r:=by lia
   exact⟨rfl,l,l,rfl,hrk,hlo,hhi⟩
  case istep =>
   rintro x c st'' _ hxk ⟨rfl,l,r,rfl,hlr,hrk,hm,hlo,hhi⟩;dsimp only;by_cases hge:l ≥ r
   ·rw[if_pos hge];obtain rfl:l=r:=by lia
    exact bg ⟨rfl,l,l,rfl,hrk,hlo,hhi⟩
   ·rw[if_neg hge];refine aI (xM h0 hB' hk (by lia) ?_);by_cases hless:R rk (ay st'') (lo + k) < R rk (ay st'') (lo + (l + r) / 2)
    ·simp only[hless,decide_true,if_true];refine bg ⟨rfl,l,(l + r) / 2,rfl,by lia,by lia,by lia,hlo,fun i h1 h2=>?_⟩;exact Int.lt_of_lt_of_le hless (hs' _ _ h1 h2)
    ·simp only[hless,decide_false,aS,if_false];refine bg ⟨rfl,(l + r) / 2 + 1,r,rfl,by lia,by lia,by lia,fun i h1=>?_,hhi⟩;exact eW (hs' i ((l + r) / 2) (by lia) (by lia)) (pS.mp hless)
  case ipost =>
   rintro c st'' ⟨rfl,l,r,rfl,hlk,hlo,hhi⟩;show wpS _ _ _ _ (do moveDown' (lo + k) (lo + l);pure (ForInStep.yield (none,()))) _ _;rw[moveDown'_eq];have hks:lo + k < (ay st'').size:=by rw[hB'.size];exact hk
   refine aI (j_ (bg ⟨rfl,hB'.setArr (bubble_perm _ _ _) (fun q hq=>?_),?_⟩))
   ·rw[getElem?_bubble hks _ (by lia),if_neg (by lia),if_neg (by lia)]
   rw[show min (k + 1) n=k + 1 by lia];intro i j hij hj;show R rk (bubble (ay st'') (lo + k) (lo + k - (lo + l))) (lo + i)<=R rk (bubble (ay st'') (lo + k) (lo + k - (lo + l))) (lo + j);rw[QX hks (by lia),QX hks (by lia),show lo + k - (lo + k - (lo + l))=lo + l by lia];have pre:∀q,lo + l < lo + q->lo + q - 1=lo + (q - 1):=fun q hq=>by lia
   repeat' split
   all_goals first
    | (exfalso;lia)
    |exact g7 _
    |exact hlo _ (by lia)
    | (rw[pre _ (by lia)];exact g8 (hhi _ (by lia) (by lia)))
    |exact hs' _ _ (by lia) (by lia)
    | (rw[pre _ (by lia)];exact hs' _ _ (by lia) (by lia))
    | (rw[pre _ (by lia),pre _ (by lia)];exact hs' _ _ (by lia) (by lia))
end
def iW:Bool->Keyed->Array Keyed->Nat->Nat->Nat->StateT SortSt Sem (Option Nat):=sortPriv% PySem.Builtin.gallop
def bey(left:Bool)(key:ax)(arr:Array ax)(base i:Nat):StateT bb Sem (Option Bool):=do
 let x <- dC arr (base + i)
 if left then lt' x key else return (<- lt' key x).map (!·)
theorem Xe(left:Bool)(key:ax)(arr:Array ax)(base n hint:Nat):iW left key arr base n hint=(do
 let mut lastofs:=0
 let mut ofs:=1
 let mut lo:=0
 let mut hi:=0
 let some right <- bey left key arr base hint|return none
 if right then
  let maxofs:=n - hint
  for _ in [0:n] do
   if ofs ≥ maxofs then break
   let some more <- bey left key arr base (hint + ofs)|return none
   if !more then break
   lastofs:=ofs
   ofs:=2 * ofs + 1
  lo:=hint + lastofs + 1
  hi:=hint + min ofs maxofs
 else
  let maxofs:=hint + 1
  for _ in [0:n] do
   if ofs ≥ maxofs then break
   let some found <- bey left key arr base (hint - ofs)|return none
   if found then break
   lastofs:=ofs
   ofs:=2 * ofs + 1
  lo:=hint + 1 - min ofs maxofs
  hi:=hint - lastofs
 for _ in [0:n] do
  if lo ≥ hi then break
  let m:=lo + (hi - lo) / 2
  let some more <- bey left key arr base m|return none
  if more then lo:=m + 1 else hi:=m
 return some hi):=rfl
section
variable{prog:aE}{w:az}{A:a_}{E:aa->af->Prop}{s:af}{a₀ x0:Array ax}{κ:fI}{rk:ax->Int}{lo:Nat}{p0:Array (Nat×Nat×Nat)}
def bp(rk:ax->Int)(left:Bool)(key:ax)(arr:Array ax)(base i:Nat):Bool:=if left then decide (R rk arr (base + i) < rk key) else decide (R rk arr (base + i)<=rk key)
theorem Ck{st:bb}{left:Bool}{key:ax}{arr:Array ax}{base i:Nat}{Q:Option Bool->bb->Prop}(h0:Ax prog w A s κ rk a₀)(hk:kindOf st=κ)(hm:key∈a₀.toList)(ha:∀x∈arr.toList,x∈a₀.toList)(hi:base + i < arr.size)
  (h:Q (some (bp rk left key arr base i)) st):wpS (ah prog w) A E s (bey left key arr base i) Q st:=by
 have e:arr[base + i]?=some arr[base + i]:=getElem?_pos arr _ hi;have hx:arr[base + i]∈a₀.toList:=ha _ (by simp);unfold bp at h;rw[jh e]at h;unfold bey;refine aI (cH e ?_);cases left with
 |true=>simp only[if_true]at h ⊢;exact Dy h0 hk hx hm h
 |false =>
  simp only[aS,if_false]at h ⊢;refine aI (Dy h0 hk hm hx (bg ?_));have:(some (decide (rk key < rk arr[base + i]))).map (!·)=some (decide (rk arr[base + i]<=rk key)):=by simp only[oP,<- decide_not,pS]
  rw[this];exact h
theorem aiP{left:Bool}{key:ax}{arr:Array ax}{base n:Nat}(hu:Up rk arr base n){i j:Nat}(hij:i<=j)(hj:j < n)(h:bp rk left key arr base j=true):bp rk left key arr base i=true:=by have:=hu i j hij hj;unfold bp at h ⊢;cases left <;> simp at h ⊢ <;> lia
theorem kh{st:bb}{left:Bool}{key:ax}{arr:Array ax}{base n hint:Nat}{Q:Option Nat->bb->Prop}(h0:Ax prog w A s κ rk a₀)(hk:kindOf st=κ)(hm:key∈a₀.toList)(ha:∀x∈arr.toList,x∈a₀.toList)
  (hb:base + n<=arr.size) (hh:hint < n) (hu:Up rk arr base n)
  (h:∀k,k<=n->(∀i,i < k->bp rk left key arr base i=true)->(∀i,k<=i->i < n->bp rk left key arr base i=false)->Q (some k) st) :
  wpS (ah prog w) A E s (iW left key arr base n hint) Q st:=by
 have mono:=fun {i j:Nat}(hij:i<=j) (hj:j < n)=>aiP (left:=left) (key:=key) hu hij hj;have aeE:∀{i j:Nat},i<=j->j < n->bp rk left key arr base i=false->bp rk left key arr base j=false:=fun {i j} hij hj hf=>by
  cases c:bp rk left key arr base j with
  |false=>rfl
  |true=>rw[mono hij hj c]at hf;cases hf
 have last:∀(l0 h0':Nat),l0<=h0'->h0'<=n->(∀i,i < l0->bp rk left key arr base i=true)->(∀i,h0'<=i->i < n->bp rk left key arr base i=false) ->
   ∀(f:Nat->Option (Option Nat)×Nat×Nat->StateT bb Sem (ForInStep (Option (Option Nat)×Nat×Nat))) (k:Option (Option Nat)×Nat×Nat->StateT bb Sem (Option Nat)),
   (∀x l hi,f x (none,l,hi)=if l ≥ hi then pure (ForInStep.done (none,l,hi)) else do
    let __x <- bey left key arr base (l + (hi - l) / 2)
    match __x with
    |some more=>if more=true then pure (ForInStep.yield (none,l + (hi - l) / 2 + 1,hi)) else pure (ForInStep.yield (none,l,l + (hi - l) / 2))
    |_=>pure (ForInStep.done (some none,l,hi)))->(∀l hi,k (none,l,hi)=pure (some hi)) ->
   wpS (ah prog w) A E s (do let r <- forIn [0:n] (none,l0,h0') f;k r) Q st:=by
  intro l0 h0' hlh hhn hlo hhi f k hf hkk;refine aI (eT (fw (I:=fun x c st'=>st'=st/\∃l r,c=(none,l,r)/\l<=r/\r<=n/\r - l<=n - x/\(∀i,i < l->bp rk left key arr base i=true)/\(∀i,r<=i->i < n->bp rk left key arr base i=false))
   (Q:=fun c st'=>st'=st/\∃r,c=(none,r,r)/\r<=n/\(∀i,i < r->bp rk left key arr base i=true)/\(∀i,r<=i->i < n->bp rk left key arr base i=false)) ?step ?dZ ⟨rfl,l0,h0',rfl,hlh,hhn,by lia,hlo,hhi⟩) ?post)
  case post =>
   rintro c st' ⟨rfl,r,rfl,h1,h2,h3⟩;rw[hkk];exact bg (h r h1 h2 h3)
  case dZ =>
   rintro c st' ⟨rfl,l,r,rfl,h1,h2,h3,h4,h5⟩;obtain rfl:l=r:=by lia
   exact⟨rfl,l,rfl,h2,h4,h5⟩
  case step =>
   rintro x c st' _ hx ⟨rfl,l,r,rfl,h1,h2,h3,h4,h5⟩;rw[hf];by_cases hge:l ≥ r
   ·rw[if_pos hge];obtain rfl:l=r:=by lia
    exact bg ⟨rfl,l,rfl,h2,h4,h5⟩
   ·rw[if_neg hge];refine aI (Ck h0 hk hm ha (by lia) ?_);cases c:bp rk left key arr base (l + (r - l) / 2) with
    |true =>
     simp only[if_true];exact bg ⟨rfl,_,r,rfl,by lia,h2,by lia,fun i hi=>mono (show i<=l + (r - l) / 2 by lia) (by lia) c,h5⟩
    |false =>
     simp only[aS,if_false];exact bg ⟨rfl,l,_,rfl,by lia,by lia,by lia,h4,fun i h6 h7=>aeE h6 h7 c⟩
 rw[Xe];dsimp only;refine aI (Ck h0 hk hm ha (by lia) ?_);cases c:bp rk left key arr base hint with
 |true =>
  simp only[if_true];refine aI (eT (fw (I:=fun x c st'=>st'=st/\∃lf pF,c=(none,lf,pF)/\x + 1<=pF/\lf < pF/\hint + lf < n/\bp rk left key arr base (hint + lf)=true)
   (Q:=fun c st'=>st'=st/\∃lf pF,c=(none,lf,pF)/\lf < pF/\hint + lf < n/\bp rk left key arr base (hint + lf)=true/\(n - hint<=pF∨(hint + pF < n/\bp rk left key arr base (hint + pF)=false))) ?step ?dZ ⟨rfl,0,1,rfl,by lia,by lia,by lia,c⟩) ?post)
  case post =>
   rintro c st' ⟨rfl,lf,pF,rfl,h1,h2,h3,h4⟩;refine last (hint + lf + 1) (hint + min pF (n - hint)) (by lia) (by lia) (fun i hi=>mono (show i<=hint + lf by lia) h2 h3) (fun i h5 h6=>?_) _ _ (fun x l hi=>rfl) (fun l hi=>rfl);rcases h4 with h4|⟨h7,h8⟩
   ·lia
   ·exact aeE (show hint + pF<=i by lia) h6 h8
  case dZ =>
   rintro c st' ⟨rfl,lf,pF,rfl,h1,h2,h3,h4⟩;exact⟨rfl,lf,pF,rfl,h2,h3,h4,.inl (by lia)⟩
  case step =>
   rintro x c st' _ hx ⟨rfl,lf,pF,rfl,h1,h2,h3,h4⟩;dsimp only;by_cases hge:pF ≥ n - hint
   ·rw[if_pos hge];exact bg ⟨rfl,lf,pF,rfl,h2,h3,h4,.inl hge⟩
   ·rw[if_neg hge];refine aI (Ck h0 hk hm ha (by lia) ?_);cases d:bp rk left key arr base (hint + pF) with
    |true =>
     simp only[dS,aS,if_false];exact bg ⟨rfl,pF,2 * pF + 1,rfl,by lia,by lia,by lia,d⟩
    |false =>
     simp only[j6,if_true];exact bg ⟨rfl,lf,pF,rfl,h2,h3,h4,.inr ⟨by lia,d⟩⟩
 |false =>
  simp only[aS,if_false];refine aI (eT (fw (I:=fun x c st'=>st'=st/\∃lf pF,c=(none,lf,pF)/\x + 1<=pF/\lf < pF/\lf<=hint/\bp rk left key arr base (hint - lf)=false)
   (Q:=fun c st'=>st'=st/\∃lf pF,c=(none,lf,pF)/\lf < pF/\lf<=hint/\bp rk left key arr base (hint - lf)=false/\(hint + 1<=pF∨(pF<=hint/\bp rk left key arr base (hint - pF)=true))) ?step ?dZ ⟨rfl,0,1,rfl,by lia,by lia,by lia,c⟩) ?post)
  case post =>
   rintro c st' ⟨rfl,lf,pF,rfl,h1,h2,h3,h4⟩;refine last (hint + 1 - min pF (hint + 1)) (hint - lf) (by lia) (by lia) (fun i hi=>?_) (fun i h5 h6=>aeE h5 h6 h3) _ _ (fun x l hi=>rfl) (fun l hi=>rfl);rcases h4 with h4|⟨h7,h8⟩
   ·lia
   ·exact mono (show i<=hint - pF by lia) (by lia) h8
  case dZ =>
   rintro c st' ⟨rfl,lf,pF,rfl,h1,h2,h3,h4⟩;exact⟨rfl,lf,pF,rfl,h2,h3,h4,.inl (by lia)⟩
  case step =>
   rintro x c st' _ hx ⟨rfl,lf,pF,rfl,h1,h2,h3,h4⟩;dsimp only;by_cases hge:pF ≥ hint + 1
   ·rw[if_pos hge];exact bg ⟨rfl,lf,pF,rfl,h2,h3,h4,.inl hge⟩
   ·rw[if_neg hge];refine aI (Ck h0 hk hm ha (by lia) ?_);cases d:bp rk left key arr base (hint - pF) with
    |false =>
     simp only[aS,if_false];exact bg ⟨rfl,pF,2 * pF + 1,rfl,by lia,by lia,by lia,d⟩
    |true =>
     simp only[if_true];exact bg ⟨rfl,lf,pF,rfl,h2,h3,h4,.inr ⟨by lia,d⟩⟩
end
abbrev gZ(rk:ax->Int)(l:List ax):Prop:=l.Pairwise fun x y=>rk x<=rk y
structure Mg (rk:ax->Int)(a b out:Array ax)(ia ib:Nat):Prop where
 ha:ia<=a.size
 hb:ib<=b.size
 sz:out.size=ia + ib
 pm:(out.toList++(a.toList.drop ia++b.toList.drop ib)).Perm (a.toList++b.toList)
 up:gZ rk out.toList
 bd:∀x∈out.toList,∀y∈a.toList.drop ia++b.toList.drop ib,rk x<=rk y
def Gk(rk:ax->Int)(a b m:Array ax):Prop:=m.toList.Perm (a.toList++b.toList)/\gZ rk m.toList
section
variable{rk:ax->Int}{a b out:Array ax}{ia ib k:Nat}{x y:ax}
theorem qO(a:Array ax)(i j:Nat):(a.extract i j).toList=(a.toList.drop i).take (j - i):=by rw[Array.toList_extract,w6]
theorem nU(l:List ax)(i k:Nat):l.drop i=(l.drop i).take k++l.drop (i + k):=by rw[<- List.drop_drop,k6]
theorem Mg.sO(h:Mg rk a b out ia ib)(sa:gZ rk a.toList)(hk:ia + k<=a.size)(hc:∀x∈(a.toList.drop ia).take k,∀y∈b.toList.drop ib,rk x<=rk y):Mg rk a b (out++a.extract ia (ia + k)) (ia + k) ib:=by
 have e:(a.extract ia (ia + k)).toList=(a.toList.drop ia).take k:=by rw[qO];congr 1;lia
 have sp:=nU a.toList ia k;have sd:gZ rk (a.toList.drop ia):=kq (r_ _ _) sa;rw[sp]at sd;obtain⟨s1,s2,s3⟩:=gN.mp sd;refine⟨hk,h.hb,?_,?_,?_,?_⟩
 ·rw[lj,t_,h.sz];lia
 ·rw[iN,e];refine ie.trans (k_ ?_) h.pm
  conv=>rhs;rw[sp]
  simp only[jS]
 ·rw[iN,e];refine gN.mpr ⟨h.up,s1,fun x hx y hy=>h.bd x hx y ?_⟩;rw[sp];simp[hy]
 ·intro x hx y hy;rw[iN,e]at hx;rcases d9.mp hx with hx|hx
  ·refine h.bd x hx y ?_;rw[sp];rcases d9.mp hy with hy|hy
   ·simp[hy]
   ·simp[hy]
  ·rcases d9.mp hy with hy|hy
   ·exact s3 x hx y hy
   ·exact hc x hx y hy
theorem Mg.swap(h:Mg rk a b out ia ib):Mg rk b a out ib ia:=by
 refine⟨h.hb,h.ha,by rw[h.sz,w_],?_,h.up,fun x hx y hy=>h.bd x hx y ?_⟩
 ·refine(o8 _ kK).trans (h.pm.trans kK)
 ·rcases d9.mp hy with hy|hy <;> simp[hy]
theorem Mg.KR(h:Mg rk a b out ia ib)(sb:gZ rk b.toList)(hk:ib + k<=b.size)(hc:∀y∈(b.toList.drop ib).take k,∀x∈a.toList.drop ia,rk y<=rk x):Mg rk a b (out++b.extract ib (ib + k)) ia (ib + k) :=
 (h.swap.sO sb hk hc).swap
theorem aai{a:Array ax}{i:Nat}{x:ax}(h:a[i]?=some x):out.push x=out++a.extract i (i + 1):=by apply oD.mp;rw[rV,iN,qO];obtain⟨hi,rfl⟩:=ic.mp h;rw[jv (by simpa using hi),show i + 1 - i=1 by lia];simp
theorem apZ{a:Array ax}{i:Nat}{x z:ax}(h:a[i]?=some x)(hz:z∈(a.toList.drop i).take 1):z=x:=by obtain⟨hi,rfl⟩:=ic.mp h;rw[jv (by simpa using hi)]at hz;simpa using hz
theorem qP{a:Array ax}{i:Nat}{x z:ax}(sa:gZ rk a.toList)(h:a[i]?=some x)(hz:z∈a.toList.drop i):rk x<=rk z:=by
 obtain⟨hi,rfl⟩:=ic.mp h;have sd:gZ rk (a.toList.drop i):=kq (r_ _ _) sa;rw[jv (by simpa using hi)]at hz sd;rcases bz.mp hz with rfl|hz
 ·exact g7 _
 ·have:=(gc.mp sd).1 z hz;simpa using this
theorem Mg.Aq(h:Mg rk a b out ia ib)(sa:gZ rk a.toList)(hx:a[ia]?=some x)(hc:∀y∈b.toList.drop ib,rk x<=rk y):Mg rk a b (out.push x) (ia + 1) ib:=by
 rw[aai hx];obtain⟨hi,_⟩:=ic.mp hx;exact h.sO sa (by lia) fun z hz y hy=>by rw[apZ hx hz];exact hc y hy
theorem Mg.Iv(h:Mg rk a b out ia ib)(sb:gZ rk b.toList)(hx:b[ib]?=some x)(hc:∀y∈a.toList.drop ia,rk x<=rk y):Mg rk a b (out.push x) ia (ib + 1):=(h.swap.Aq sb hx hc).swap
theorem Mg.done(h:Mg rk a b out ia ib)(sa:gZ rk a.toList)(sb:gZ rk b.toList)(hc:∀x∈a.toList.drop ia,∀y∈b.toList.drop ib,rk x<=rk y):Gk rk a b (out++a.extract ia a.size++b.extract ib b.size):=by
 have ha:=h.ha;have hb:=h.hb;have h1:=h.sO (k:=a.size - ia) sa (by lia) fun x hx y hy=>hc x (mS hx) y hy;rw[show ia + (a.size - ia)=a.size by lia]at h1;have h2:=h1.KR (k:=b.size - ib) sb (by lia) fun y hy x hx=>by rw[mB (by simp)]at hx;cases hx
 rw[show ib + (b.size - ib)=b.size by lia]at h2;refine⟨?_,h2.up⟩;have:=h2.pm;rw[mB (by simp),mB (by simp)]at this;simpa using this
theorem Mg.aeF(h:Mg rk a b out ia ib)(sa:gZ rk a.toList)(sb:gZ rk b.toList)(hc:∀y∈b.toList.drop ib,∀x∈a.toList.drop ia,rk y<=rk x):Gk rk a b (out++b.extract ib b.size++a.extract ia a.size):=by obtain⟨h1,h2⟩:=h.swap.done sb sa hc;exact⟨h1.trans kK,h2⟩
theorem nq{a:Array ax}{i k:Nat}{z:ax}(hz:z∈(a.toList.drop i).take k):∃j,j < k/\a[i + j]?=some z:=by
 obtain⟨j,hj⟩:=ky.mp hz;have hk:j < k:=by
  rcases nV j k with h|h
  ·exact h
  ·rw[ue h]at hj;cases hj
 rw[mh hk,pT]at hj;exact⟨j,hk,by simpa using hj⟩
theorem CJ{a:Array ax}{i:Nat}{z:ax}(hz:z∈a.toList.drop i):∃j,i + j < a.size/\a[i + j]?=some z:=by
 obtain⟨j,hj⟩:=ky.mp hz;rw[pT]at hj;have h2:a[i + j]?=some z:=by simpa using hj
 exact⟨j,(ic.mp h2).1,h2⟩
theorem QZ(sa:gZ rk a.toList)(i n:Nat)(h:i + n<=a.size):Up rk a i n:=by
 intro p q hpq hq;have hp':i + p < a.size:=by lia
 have hq':i + q < a.size:=by lia
 rw[jh (getElem?_pos a (i + p) hp'),jh (getElem?_pos a (i + q) hq')];by_cases e:p=q
 ·subst e;exact g7 _
 ·have:=j5.mp sa (i + p) (i + q) (by simpa using hp') (by simpa using hq') (by lia);simpa using this
end
def DG:Array Keyed->Array Keyed->StateT SortSt Sem (Array Keyed):=sortPriv% PySem.Builtin.mergeLo
def pR(g:Nat):StateT bb Sem Unit:=modify fun s=>ui (kindOf s) (ay s) (b_ s) g (fN s)
theorem Ra(a b:Array ax):DG a b=(do
 rule "list.sort.merge-lo"
 let total:=a.size + b.size
 let done (out:Array ax) (ia ib:Nat):=out++a.extract ia a.size++b.extract ib b.size
 let lastOfA (out:Array ax) (ia ib:Nat):=out++b.extract ib b.size++a.extract ia a.size
 let mut out:Array ax:=#[<- dC b 0]
 let mut ia:=0
 let mut ib:=1
 if ib == b.size then return done out ia ib
 if ia + 1 == a.size then return lastOfA out ia ib
 let mut minGallop:=gallopOf (<- get)
 for _ in [0:total] do
  let mut acount:=0
  let mut bcount:=0
  for _ in [0:total] do
   let some bWins <- lt' (<- dC b ib) (<- dC a ia)|return done out ia ib
   if bWins then
    out:=out.push (<- dC b ib);ib:=ib + 1;bcount:=bcount + 1;acount:=0
    if ib == b.size then return done out ia ib
    if bcount ≥ minGallop then break
   else
    out:=out.push (<- dC a ia);ia:=ia + 1;acount:=acount + 1;bcount:=0
    if ia + 1 == a.size then return lastOfA out ia ib
    if acount ≥ minGallop then break
  rule "list.sort.gallop"
  minGallop:=minGallop + 1
  for _ in [0:total] do
   if minGallop > 1 then minGallop:=minGallop - 1
   pR minGallop
   let some k <- iW false (<- dC b ib) a ia (a.size - ia) 0|return done out ia ib
   acount:=k
   if k > 0 then
    out:=out++a.extract ia (ia + k);ia:=ia + k
    if ia + 1 == a.size then return lastOfA out ia ib
    if ia == a.size then return done out ia ib
   out:=out.push (<- dC b ib);ib:=ib + 1
   if ib == b.size then return done out ia ib
   let some k <- iW true (<- dC a ia) b ib (b.size - ib) 0|return done out ia ib
   bcount:=k
   if k > 0 then
    out:=out++b.extract ib (ib + k);ib:=ib + k
    if ib == b.size then return done out ia ib
   out:=out.push (<- dC a ia);ia:=ia + 1
   if ia + 1 == a.size then return lastOfA out ia ib
   if acount < 7 && bcount < 7 then break
  minGallop:=minGallop + 1
  pR minGallop
 unsupported "internal:list.sort.merge-bound"):=rfl
abbrev LoS:=Option (Array ax)×Array ax×Nat×Nat×Nat×Nat×Nat
def aaj(a b out:Array ax)(ia ib mg ac bc:Nat):StateT bb Sem (ForInStep LoS):=do
 let x <- dC a ia
 if (ia + 1 + 1 == a.size)=true then pure (.done (some (out.push x++b.extract ib b.size++a.extract (ia + 1) a.size),out.push x,ia + 1,ib,mg,ac,bc))
 else if (decide (ac < 7) && decide (bc < 7))=true then pure (.done (none,out.push x,ia + 1,ib,mg,ac,bc))
 else pure (.yield (none,out.push x,ia + 1,ib,mg,ac,bc))
def KY(a b out:Array ax)(ia ib mg ac bc:Nat):StateT bb Sem (ForInStep LoS):=do
 let y <- dC b ib
 if (ib + 1 == b.size)=true then pure (.done (some (out.push y++a.extract ia a.size++b.extract (ib + 1) b.size),out.push y,ia,ib + 1,mg,ac,bc))
 else do
  let x <- dC a ia
  let __x <- iW true x b (ib + 1) (b.size - (ib + 1)) 0
  match __x with
  |some k =>
   if k > 0 then
    if (ib + 1 + k == b.size)=true then pure (.done (some (out.push y++b.extract (ib + 1) (ib + 1 + k)++a.extract ia a.size++b.extract (ib + 1 + k) b.size),out.push y++b.extract (ib + 1) (ib + 1 + k),ia,ib + 1 + k,mg,ac,k))
    else aaj a b (out.push y++b.extract (ib + 1) (ib + 1 + k)) ia (ib + 1 + k) mg ac k
   else aaj a b (out.push y) ia (ib + 1) mg ac k
  |_=>pure (.done (some (out.push y++a.extract ia a.size++b.extract (ib + 1) b.size),out.push y,ia,ib + 1,mg,ac,bc))
def dM(st st':bb):Prop:=ay st'=ay st/\kindOf st'=kindOf st/\b_ st'=b_ st/\fN st'=fN st
theorem dM.refl(st:bb):dM st st:=⟨rfl,rfl,rfl,rfl⟩
theorem dM.trans{x y z:bb}(h:dM x y)(g:dM y z):dM x z:=⟨g.1.trans h.1,g.2.1.trans h.2.1,g.2.2.1.trans h.2.2.1,g.2.2.2.trans h.2.2.2⟩
section
variable{prog:aE}{w:az}{A:a_}{E:aa->af->Prop}{s:af}{a₀:Array ax}{κ:fI}{rk:ax->Int}{a b:Array ax}
theorem pU{g:Nat}{Q:Unit->bb->Prop}{st:bb}(h:∀st',dM st st'->Q () st'):wpS (ah prog w) A E s (pR g) Q st :=
 j_ (h _ ⟨rfl,rfl,rfl,rfl⟩)
structure Rb (prog:aE)(w:az)(A:a_)(s:af)(κ:fI)(rk:ax->Int)(a₀ a b:Array ax):Prop where
 h0:Ax prog w A s κ rk a₀
 sa:gZ rk a.toList
 sb:gZ rk b.toList
 ma:∀x∈a.toList,x∈a₀.toList
 mb:∀x∈b.toList,x∈a₀.toList
 la:0 < a.size
 lb:0 < b.size
 lt0:R rk b 0 < R rk a 0
 last:∀x∈b.toList,rk x<=R rk a (a.size - 1)
theorem pG{xs:Array ax}{i:Nat}{x:ax}(h:xs[i]?=some x):x∈xs.toList:=by obtain⟨hi,rfl⟩:=ic.mp h;simp
theorem fU{xs:Array ax}{i:Nat}(h:i < xs.size):∃x,xs[i]?=some x:=⟨_,getElem?_pos xs i h⟩
theorem Rb.aak(m:Rb prog w A s κ rk a₀ a b){out:Array ax}{ia ib:Nat}(h:Mg rk a b out ia ib)(e:ia + 1=a.size):Gk rk a b (out++b.extract ib b.size++a.extract ia a.size):=by refine h.aeF m.sa m.sb fun y hy x hx=>?_;obtain⟨x',hx'⟩:=fU (xs:=a) (i:=ia) (by lia);have e1:=m.last y (r0 hy);rw[show a.size - 1=ia by lia,jh hx']at e1;exact eW e1 (qP m.sa hx' hx)
theorem Rb.aiQ(m:Rb prog w A s κ rk a₀ a b){out:Array ax}{ia ib:Nat}(h:Mg rk a b out ia ib)(e:ib=b.size):Gk rk a b (out++a.extract ia a.size++b.extract ib b.size):=by refine h.done m.sa m.sb fun x hx y hy=>?_;subst e;rw[mB (by simp)]at hy;cases hy
def LoQ(rk:ax->Int)(a b:Array ax)(κ:fI)(st:bb)(n:Nat):ForInStep LoS->bb->Prop:=fun r st'=>dM st st'/\match r with
 | .done c=>(∃m,c.1=some m/\Gk rk a b m)∨(c.1=none/\Mg rk a b c.2.1 c.2.2.1 c.2.2.2.1/\c.2.2.1 + 1 < a.size/\c.2.2.2.1 < b.size/\n<=c.2.1.size)
 | .yield c=>c.1=none/\Mg rk a b c.2.1 c.2.2.1 c.2.2.2.1/\c.2.2.1 + 1 < a.size/\c.2.2.2.1 < b.size/\n < c.2.1.size
theorem Iw(m:Rb prog w A s κ rk a₀ a b){out:Array ax}{ia ib mg ac bc n:Nat}{st0 st:bb}(hS:dM st0 st)(h:Mg rk a b out ia ib)(h1:ia + 1 < a.size)(h2:ib < b.size)(hn:n<=out.size)(hc:∀x y,a[ia]?=some x->y∈b.toList.drop ib->rk x<=rk y) :
  wpS (ah prog w) A E s (aaj a b out ia ib mg ac bc) (LoQ rk a b κ st0 n) st:=by
 unfold aaj;obtain⟨x,hx⟩:=fU (xs:=a) (i:=ia) (by lia);refine aI (cH hx ?_);have h':=h.Aq m.sa hx (fun y hy=>hc x y hx hy);have sz:n < (out.push x).size:=by rw[ip];lia
 split
 ·rename_i e;exact bg ⟨hS,.inl ⟨_,rfl,m.aak h' (by simpa using e)⟩⟩
 ·rename_i e;have e':ia + 1 + 1 < a.size:=by
   have:¬ia + 1 + 1=a.size:=by simpa using e
   lia
  split
  ·exact bg ⟨hS,.inr ⟨rfl,h',e',h2,gL sz⟩⟩
  ·exact bg ⟨hS,rfl,h',e',h2,sz⟩
theorem DK(m:Rb prog w A s κ rk a₀ a b){out:Array ax}{ia ib mg ac bc n:Nat}{st0 st:bb}(hk:kindOf st=κ)(hS:dM st0 st)(h:Mg rk a b out ia ib)(h1:ia + 1 < a.size)(h2:ib < b.size)(hn:n<=out.size)(hc:∀y x,b[ib]?=some y->x∈a.toList.drop ia->rk y<=rk x) :
  wpS (ah prog w) A E s (KY a b out ia ib mg ac bc) (LoQ rk a b κ st0 n) st:=by
 unfold KY;obtain⟨y,hy⟩:=fU (xs:=b) (i:=ib) h2;refine aI (cH hy ?_);have h':=h.Iv m.sb hy (fun x hx=>hc y x hy hx);have sz:n < (out.push y).size:=by rw[ip];lia
 split
 ·rename_i e;exact bg ⟨hS,.inl ⟨_,rfl,m.aiQ h' (by simpa using e)⟩⟩
 ·rename_i e;have e':ib + 1 < b.size:=by
   have:¬ib + 1=b.size:=by simpa using e
   lia
  obtain⟨x,hx⟩:=fU (xs:=a) (i:=ia) (by lia);refine aI (cH hx ?_);refine aI (kh m.h0 hk (m.ma x (pG hx)) m.mb (by lia) (by lia) (QZ m.sb _ _ (by lia)) fun k k1 k2 k3=>?_);have chunk:∀z∈(b.toList.drop (ib + 1)).take k,∀v∈a.toList.drop ia,rk z<=rk v:=fun z hz v hv=>by
   obtain⟨j,hj,ej⟩:=nq hz;have:=k2 j hj;unfold bp at this;rw[jh ej]at this;have q:rk z < rk x:=by simpa using this
   exact eW (g8 q) (qP m.sa hx hv)
  have rest:∀v,v∈b.toList.drop (ib + 1 + k)->rk x<=rk v:=fun v hv=>by obtain⟨j,hj,ej⟩:=CJ hv;rw[pV (ib + 1) k j]at ej;have:=k3 (k + j) (by lia) (by lia);unfold bp at this;rw[jh ej]at this;simpa using this
  dsimp only;split
  ·rename_i kp;have h'':=h'.KR m.sb (k:=k) (by lia) chunk;have sz':n<=(out.push y++b.extract (ib + 1) (ib + 1 + k)).size:=by rw[lj];lia
   split
   ·rename_i e2;exact bg ⟨hS,.inl ⟨_,rfl,m.aiQ h'' (by simpa using e2)⟩⟩
   ·rename_i e2;have e2':ib + 1 + k < b.size:=by
     have:¬ib + 1 + k=b.size:=by simpa using e2
     lia
    exact Iw m hS h'' h1 e2' sz' fun x' v hx' hv=>by rw[hx]at hx';cases hx';exact rest v hv
  ·rename_i kp;obtain rfl:k=0:=by lia
   exact Iw m hS h' h1 e' (gL sz) fun x' v hx' hv=>by rw[hx]at hx';cases hx';exact rest v hv
end
section
variable{prog:aE}{w:az}{A:a_}{E:aa->af->Prop}{s:af}{a₀:Array ax}{κ:fI}{rk:ax->Int}{a b:Array ax}
theorem Mg.nil:Mg rk a b #[] 0 0:=⟨eC _,eC _,rfl,by simp,by simp,fun x hx=>by simp at hx⟩
theorem iz{a b:Nat}(h:¬(a == b)=true):a≠b:=fun e=>h (by simp[e])
theorem lQ{a b:Nat}(h:(a == b)=true):a=b:=by simpa using h
theorem cN{α:Type}{c:Prop}[Decidable c]{t f:StateT bb Sem α}{Q:α->bb->Prop}{st:bb}(ht:c->wpS (ah prog w) A E s t Q st)(hf:¬c->wpS (ah prog w) A E s f Q st):wpS (ah prog w) A E s (if c then t else f) Q st:=by
 by_cases h:c
 ·rw[if_pos h];exact ht h
 ·rw[if_neg h];exact hf h
theorem DN(m:Rb prog w A s κ rk a₀ a b){out:Array ax}{ia ib n:Nat}{st0 st:bb}(hk:kindOf st=κ)(hS:dM st0 st)(h:Mg rk a b out ia ib)(h1:ia + 1 < a.size)(h2:ib < b.size)(hn:n<=out.size)
  {f:Option Nat->StateT bb Sem (ForInStep LoS)}{mg bc:Nat}(hf:∀k,f (some k)=if k > 0 then
    if (ia + k + 1 == a.size)=true then pure (.done (some (out++a.extract ia (ia + k)++b.extract ib b.size++a.extract (ia + k) a.size),out++a.extract ia (ia + k),ia + k,ib,mg,k,bc))
    else if (ia + k == a.size)=true then pure (.done (some (out++a.extract ia (ia + k)++a.extract (ia + k) a.size++b.extract ib b.size),out++a.extract ia (ia + k),ia + k,ib,mg,k,bc))
    else KY a b (out++a.extract ia (ia + k)) (ia + k) ib mg k bc
   else KY a b out ia ib mg k bc) :
  wpS (ah prog w) A E s (do let y <- dC b ib;let r <- iW false y a ia (a.size - ia) 0;f r) (LoQ rk a b κ st0 n) st:=by
 obtain⟨y,hy⟩:=fU (xs:=b) (i:=ib) h2;refine aI (cH hy ?_);refine aI (kh m.h0 hk (m.mb y (pG hy)) m.ma (by lia) (by lia) (QZ m.sa _ _ (by lia)) fun k k1 k2 k3=>?_);rw[hf];have chunk:∀z∈(a.toList.drop ia).take k,∀v∈b.toList.drop ib,rk z<=rk v:=fun z hz v hv=>by
  obtain⟨j,hj,ej⟩:=nq hz;have:=k2 j hj;unfold bp at this;rw[jh ej]at this;have q:rk z<=rk y:=by simpa using this
  exact eW q (qP m.sb hy hv)
 have rest:∀v,v∈a.toList.drop (ia + k)->rk y<=rk v:=fun v hv=>by
  obtain⟨j,hj,ej⟩:=CJ hv;rw[pV ia k j]at ej;have:=k3 (k + j) (by lia) (by lia);unfold bp at this;rw[jh ej]at this;have q:rk y < rk v:=by simpa using this
  exact g8 q
 split
 ·rename_i kp;have h':=h.sO m.sa (k:=k) (by lia) chunk;have sz':n<=(out++a.extract ia (ia + k)).size:=by rw[lj];lia
  split
  ·rename_i e;exact bg ⟨hS,.inl ⟨_,rfl,m.aak h' (lQ e)⟩⟩
  ·rename_i e;have e:=iz e;split
   ·rename_i e2;refine bg ⟨hS,.inl ⟨_,rfl,h'.done m.sa m.sb fun x hx=>?_⟩⟩;rw[lQ e2,mB (by simp)]at hx;cases hx
   ·rename_i e2;have e2:=iz e2;exact DK m hk hS h' (by lia) h2 sz' fun y' x hy' hx=>by rw[hy]at hy';cases hy';exact rest x hx
 ·rename_i kp;obtain rfl:k=0:=by lia
  exact DK m hk hS h h1 h2 hn fun y' x hy' hx=>by rw[hy]at hy';cases hy';exact rest x hx
theorem Rc(m:Rb prog w A s κ rk a₀ a b){st:bb}(hk:kindOf st=κ){Q:Array ax->bb->Prop}(h:∀mm st',dM st st'->Gk rk a b mm->Q mm st') :
  wpS (ah prog w) A E s (DG a b) Q st:=by
 rw[Ra];dsimp only;refine aI (lh (gu ⟨rfl,?_⟩));obtain⟨y0,hy0⟩:=fU (xs:=b) (i:=0) m.lb;obtain⟨x0,hx0⟩:=fU (xs:=a) (i:=0) m.la;refine aI (cH hy0 ?_);have l0:=m.lt0;rw[jh hy0,jh hx0]at l0;have M0:Mg rk a b #[y0] 0 1:=Mg.nil.Iv m.sb hy0 fun v hv=>eW (g8 l0) (qP m.sa hx0 hv);have la:=m.la;have lb:=m.lb;refine cN (fun e=>bg (h _ _ (.refl _) (m.aiQ M0 (lQ e)))) fun e1=>?_;have e1:=iz e1;refine cN (fun e=>bg (h _ _ (.refl _) (m.aak M0 (lQ e)))) fun e2=>?_;have e2:=iz e2;refine aI (il ?_);refine aI (eT (fw (I:=fun x c st'=>dM st st'/\∃out ia ib mg,c=(none,out,ia,ib,mg)/\Mg rk a b out ia ib/\ia + 1 < a.size/\ib < b.size/\x + 1<=out.size)
  (Q:=fun c st'=>dM st st'/\∃mm rest,c=(some mm,rest)/\Gk rk a b mm) ?step ?dZ ⟨.refl _,#[y0],0,1,_,rfl,M0,by lia,by lia,by simp⟩) ?post)
 case post =>
  rintro c st' ⟨hS,mm,rest,rfl,hr⟩;exact bg (h mm st' hS hr)
 case dZ =>
  rintro c st' ⟨hS,out,ia,ib,mg,rfl,hM,h1,h2,h3⟩;have:=hM.sz;lia
 case step =>
  rintro x c st' _ hx ⟨hS,out,ia,ib,mg,rfl,hM,h1,h2,h3⟩;dsimp only;refine aI (eT (fw (I:=fun y c st''=>dM st st''/\∃out ia ib ac bc,c=(none,out,ia,ib,ac,bc)/\Mg rk a b out ia ib/\ia + 1 < a.size/\ib < b.size/\x + 1 + y<=out.size)
   (Q:=fun c st''=>dM st st''/\((∃mm rest,c=(some mm,rest)/\Gk rk a b mm)∨∃out ia ib ac bc,c=(none,out,ia,ib,ac,bc)/\Mg rk a b out ia ib/\ia + 1 < a.size/\ib < b.size/\x + 2<=out.size)) ?istep ?ifin ⟨hS,out,ia,ib,0,0,rfl,hM,h1,h2,by lia⟩) ?ipost)
  case ifin =>
   rintro c st'' ⟨hS,out,ia,ib,ac,bc,rfl,hM,h1,h2,h3⟩;have:=hM.sz;lia
  case istep =>
   rintro y c st'' _ hy ⟨hS,out,ia,ib,ac,bc,rfl,hM,h1,h2,h3⟩;dsimp only;obtain⟨p,hp⟩:=fU (xs:=b) (i:=ib) h2;obtain⟨q,hq⟩:=fU (xs:=a) (i:=ia) (by lia);refine aI (cH hp (aI (cH hq (aI (Dy m.h0 (hS.2.1.trans hk) (m.mb p (pG hp)) (m.ma q (pG hq)) ?_)))));by_cases c:rk p < rk q
   ·simp only[c,decide_true,if_true];refine aI (cH hp ?_);have hM':=hM.Iv m.sb hp fun v hv=>eW (g8 c) (qP m.sa hq hv);split
    ·rename_i e;exact bg ⟨hS,.inl ⟨_,_,rfl,m.aiQ hM' (lQ e)⟩⟩
    ·rename_i e;have e:=iz e;split
     ·exact bg ⟨hS,.inr ⟨_,_,_,_,_,rfl,hM',h1,by lia,by rw[ip];lia⟩⟩
     ·exact bg ⟨hS,_,_,_,_,_,rfl,hM',h1,by lia,by rw[ip];lia⟩
   ·simp only[c,decide_false,aS,if_false];refine aI (cH hq ?_);have hM':=hM.Aq m.sa hq fun v hv=>eW (pS.mp c) (qP m.sb hp hv);split
    ·rename_i e;exact bg ⟨hS,.inl ⟨_,_,rfl,m.aak hM' (lQ e)⟩⟩
    ·rename_i e;have e:=iz e;split
     ·exact bg ⟨hS,.inr ⟨_,_,_,_,_,rfl,hM',by lia,h2,by rw[ip];lia⟩⟩
     ·exact bg ⟨hS,_,_,_,_,_,rfl,hM',by lia,h2,by rw[ip];lia⟩
  case ipost =>
   rintro c st'' ⟨hS,⟨mm,rest,rfl,hr⟩|⟨out,ia,ib,ac,bc,rfl,hM,h1,h2,h3⟩⟩
   ·exact bg ⟨hS,mm,_,rfl,hr⟩
   ·dsimp only;refine aI (lh (gu ⟨rfl,?_⟩));refine aI (eT (fw (I:=fun y c st3=>dM st st3/\∃out ia ib mg ac bc,c=(none,out,ia,ib,mg,ac,bc)/\Mg rk a b out ia ib/\ia + 1 < a.size/\ib < b.size/\x + 2 + y<=out.size)
     (Q:=fun c st3=>dM st st3/\((∃mm rest,c=(some mm,rest)/\Gk rk a b mm)∨∃out ia ib mg ac bc,c=(none,out,ia,ib,mg,ac,bc)/\Mg rk a b out ia ib/\ia + 1 < a.size/\ib < b.size/\x + 2<=out.size)) ?aeG ?anj ⟨hS,out,ia,ib,_,ac,bc,rfl,hM,h1,h2,by lia⟩) ?aeH)
    case anj =>
     rintro c st3 ⟨hS,out,ia,ib,mg,ac,bc,rfl,hM,h1,h2,h3⟩;have:=hM.sz;lia
    case aeH =>
     rintro c st3 ⟨hS,⟨mm,rest,rfl,hr⟩|⟨out,ia,ib,mg,ac,bc,rfl,hM,h1,h2,h3⟩⟩
     ·exact bg ⟨hS,mm,_,rfl,hr⟩
     ·dsimp only;refine aI (pU fun Il Gj=>?_);exact bg ⟨hS.trans Gj,_,_,_,_,rfl,hM,h1,h2,by lia⟩
    case aeG =>
     rintro y c st3 _ hy ⟨hS,out,ia,ib,mg,ac,bc,rfl,hM,h1,h2,h3⟩;have cD:∀(c:LoS) (st':bb),LoQ rk a b κ st (x + 2 + y) (.done c) st'->dM st st'/\((∃mm rest,c=(some mm,rest)/\Gk rk a b mm)∨∃out ia ib mg ac bc,c=(none,out,ia,ib,mg,ac,bc)/\Mg rk a b out ia ib/\ia + 1 < a.size/\ib < b.size/\x + 2<=out.size):=by
      rintro⟨c1,out,ia,ib,mg,ac,bc⟩ st' ⟨hS,⟨mm,e,hr⟩|⟨e,hM,h1,h2,h3⟩⟩
      ·cases e;exact⟨hS,.inl ⟨mm,_,rfl,hr⟩⟩
      ·cases e;dsimp only at h1 h2 h3;exact⟨hS,.inr ⟨_,_,_,_,_,_,rfl,hM,h1,h2,by lia⟩⟩
     have cY:∀(c:LoS) (st':bb),LoQ rk a b κ st (x + 2 + y) (.yield c) st'->dM st st'/\∃out ia ib mg ac bc,c=(none,out,ia,ib,mg,ac,bc)/\Mg rk a b out ia ib/\ia + 1 < a.size/\ib < b.size/\x + 2 + (y + 1)<=out.size:=by rintro⟨c1,out,ia,ib,mg,ac,bc⟩ st' ⟨hS,e,hM,h1,h2,h3⟩;cases e;dsimp only at h1 h2 h3;exact⟨hS,_,_,_,_,_,_,rfl,hM,h1,h2,by lia⟩
     dsimp only;refine cN (fun _=>?_) (fun _=>?_)
     ·refine aI (pU fun Il Gj=>?_);exact eT (DN m ((hS.trans Gj).2.1.trans hk) (hS.trans Gj) hM h1 h2 h3 (fun k=>rfl)) fun r st' hq=>match r,hq with|.done c,hq=>cD c st' hq|.yield c,hq=>cY c st' hq
     ·refine aI (pU fun Il Gj=>?_);exact eT (DN m ((hS.trans Gj).2.1.trans hk) (hS.trans Gj) hM h1 h2 h3 (fun k=>rfl)) fun r st' hq=>match r,hq with|.done c,hq=>cD c st' hq|.yield c,hq=>cY c st' hq
end
def DQ:Array Keyed->Array Keyed->StateT SortSt Sem (Array Keyed):=sortPriv% PySem.Builtin.mergeHi
theorem Rf(a b:Array ax):DQ a b=(do
 rule "list.sort.merge-hi"
 let total:=a.size + b.size
 let done (out:Array ax) (na nb:Nat):=a.extract 0 na++b.extract 0 nb++out.reverse
 let firstOfB (out:Array ax) (na nb:Nat):=b.extract 0 nb++a.extract 0 na++out.reverse
 let mut na:=a.size - 1
 let mut nb:=b.size
 let mut out:Array ax:=#[<- dC a na]
 if na == 0 then return done out na nb
 if nb == 1 then return firstOfB out na nb
 let mut minGallop:=gallopOf (<- get)
 for _ in [0:total] do
  let mut acount:=0
  let mut bcount:=0
  for _ in [0:total] do
   let some aWins <- lt' (<- dC b (nb - 1)) (<- dC a (na - 1))|return done out na nb
   if aWins then
    na:=na - 1;out:=out.push (<- dC a na);acount:=acount + 1;bcount:=0
    if na == 0 then return done out na nb
    if acount ≥ minGallop then break
   else
    nb:=nb - 1;out:=out.push (<- dC b nb);bcount:=bcount + 1;acount:=0
    if nb == 1 then return firstOfB out na nb
    if bcount ≥ minGallop then break
  rule "list.sort.gallop"
  minGallop:=minGallop + 1
  for _ in [0:total] do
   if minGallop > 1 then minGallop:=minGallop - 1
   pR minGallop
   let some at_ <- iW false (<- dC b (nb - 1)) a 0 na (na - 1)|return done out na nb
   let k:=na - at_
   acount:=k
   if k > 0 then
    out:=out++(a.extract at_ na).reverse;na:=at_
    if na == 0 then return done out na nb
   nb:=nb - 1;out:=out.push (<- dC b nb)
   if nb == 1 then return firstOfB out na nb
   let some at_ <- iW true (<- dC a (na - 1)) b 0 nb (nb - 1)|return done out na nb
   let k:=nb - at_
   bcount:=k
   if k > 0 then
    out:=out++(b.extract at_ nb).reverse;nb:=at_
    if nb == 1 then return firstOfB out na nb
    if nb == 0 then return done out na nb
   na:=na - 1;out:=out.push (<- dC a na)
   if na == 0 then return done out na nb
   if acount < 7 && bcount < 7 then break
  minGallop:=minGallop + 1
  pR minGallop
 unsupported "internal:list.sort.merge-bound"):=rfl
structure Mh (rk:ax->Int)(a b out:Array ax)(na nb:Nat):Prop where
 ha:na<=a.size
 hb:nb<=b.size
 sz:out.size + (na + nb)=a.size + b.size
 pm:((a.toList.take na++b.toList.take nb)++out.toList.reverse).Perm (a.toList++b.toList)
 up:gZ rk out.toList.reverse
 bd:∀y∈a.toList.take na++b.toList.take nb,∀x∈out.toList,rk y<=rk x
section
variable{rk:ax->Int}{a b out:Array ax}{na nb k:Nat}{x y:ax}
theorem Xf(l:List ax){i n:Nat}(h:i<=n):l.take n=l.take i++(l.take n).drop i:=by
 conv=>lhs;rw[<- k6 i (l.take n)]
 rw[List.take_take,Nat.min_eq_left h]
theorem Mh.sO(h:Mh rk a b out na nb)(sa:gZ rk a.toList)(hk:k<=na)(hc:∀x∈(a.toList.take na).drop k,∀y∈b.toList.take nb,rk y<=rk x):Mh rk a b (out++(a.extract k na).reverse) k nb:=by
 have ha:=h.ha;have e:(a.extract k na).toList=(a.toList.take na).drop k:=by rw[qO,List.drop_take]
 have sp:=Xf a.toList hk;have sd:gZ rk (a.toList.take na):=kq (ml _ _) sa;rw[sp]at sd;obtain⟨s1,s2,s3⟩:=gN.mp sd;have er:(out++(a.extract k na).reverse).toList.reverse=(a.toList.take na).drop k++out.toList.reverse:=by rw[iN,List.reverse_append,Array.toList_reverse,List.reverse_reverse,e]
 refine⟨by lia,h.hb,?_,?_,?_,?_⟩
 ·have:=h.sz;rw[lj,Array.size_reverse,t_];lia
 ·rw[er];refine ie.trans ?_ h.pm
  conv=>rhs;rw[sp]
  simp only[jS];refine o8 _ ?_;rw[<- jS,<- jS];exact xF _ kK
 ·rw[er];refine gN.mpr ⟨s2,h.up,fun x hx y hy=>h.bd x ?_ y (p7.mp hy)⟩;rw[sp];simp[hx]
 ·intro y hy x hx;have hx':x∈(a.toList.take na).drop k++out.toList.reverse:=by rw[<- er];exact p7.mpr hx
  rcases d9.mp hx' with hx|hx
  ·rcases d9.mp hy with hy|hy
   ·exact s3 y hy x hx
   ·exact hc x hx y hy
  ·refine h.bd y ?_ x (p7.mp hx);rw[sp];rcases d9.mp hy with hy|hy <;> simp[hy]
theorem Mh.swap(h:Mh rk a b out na nb):Mh rk b a out nb na:=by
 refine⟨h.hb,h.ha,by have:=h.sz;lia,?_,h.up,fun y hy x hx=>h.bd y ?_ x hx⟩
 ·exact(xF _ kK).trans (h.pm.trans kK)
 ·rcases d9.mp hy with hy|hy <;> simp[hy]
theorem Mh.KR(h:Mh rk a b out na nb)(sb:gZ rk b.toList)(hk:k<=nb)(hc:∀y∈(b.toList.take nb).drop k,∀x∈a.toList.take na,rk x<=rk y):Mh rk a b (out++(b.extract k nb).reverse) na k :=
 (h.swap.sO sb hk hc).swap
theorem aeI{a:Array ax}{n:Nat}{x:ax}(hn:0 < n)(h:a[n - 1]?=some x):out.push x=out++(a.extract (n - 1) n).reverse:=by
 have e:=aai (out:=#[]) h;have e2:a.extract (n - 1) n=#[x]:=by rw[show n - 1 + 1=n by lia]at e;simpa using e.symm
 rw[e2];rfl
theorem asl{a:Array ax}{n:Nat}{x z:ax}(hn:0 < n)(h:a[n - 1]?=some x)(hz:z∈(a.toList.take n).drop (n - 1)):z=x:=by
 obtain⟨j,hj⟩:=ky.mp hz;rw[pT]at hj;have hl:n - 1 + j < n:=by
  rcases nV (n - 1 + j) n with q|q
  ·exact q
  ·rw[ue q]at hj;cases hj
 obtain rfl:j=0:=by lia
 rw[mh hl]at hj;have:a[n - 1]?=some z:=by simpa using hj
 rw[this]at h;cases h;rfl
theorem xO{a:Array ax}{n:Nat}{x z:ax}(hn:0 < n)(sa:gZ rk a.toList)(h:a[n - 1]?=some x)(hz:z∈a.toList.take n):rk z<=rk x:=by
 obtain⟨j,hj⟩:=ky.mp hz;have hl:j < n:=by
  rcases nV j n with q|q
  ·exact q
  ·rw[ue q]at hj;cases hj
 rw[mh hl]at hj;have hj':a[j]?=some z:=by simpa using hj
 obtain⟨q1,_⟩:=ic.mp hj';obtain⟨q2,_⟩:=ic.mp h;have:=QZ sa 0 a.size (by lia) j (n - 1) (by lia) (by lia);rw[iX,iX,jh hj',jh h]at this;exact this
theorem Mh.Aq(h:Mh rk a b out na nb)(sa:gZ rk a.toList)(hn:0 < na)(hx:a[na - 1]?=some x)(hc:∀y∈b.toList.take nb,rk y<=rk x):Mh rk a b (out.push x) (na - 1) nb:=by
 rw[aeI hn hx];exact h.sO sa (by lia) fun z hz y hy=>by rw[asl hn hx hz];exact hc y hy
theorem Mh.Iv(h:Mh rk a b out na nb)(sb:gZ rk b.toList)(hn:0 < nb)(hx:b[nb - 1]?=some x)(hc:∀y∈a.toList.take na,rk y<=rk x):Mh rk a b (out.push x) na (nb - 1):=(h.swap.Aq sb hn hx hc).swap
theorem Mh.done(h:Mh rk a b out na nb)(sa:gZ rk a.toList)(sb:gZ rk b.toList)(hc:∀x∈a.toList.take na,∀y∈b.toList.take nb,rk x<=rk y):Gk rk a b (a.extract 0 na++b.extract 0 nb++out.reverse):=by
 have e:(a.extract 0 na++b.extract 0 nb++out.reverse).toList=(a.toList.take na++b.toList.take nb)++out.toList.reverse:=by rw[iN,iN,qO,qO,Array.toList_reverse];simp
 refine⟨by rw[e];exact h.pm,?_⟩;rw[e];refine gN.mpr ⟨gN.mpr ⟨kq (ml _ _) sa,kq (ml _ _) sb,hc⟩,h.up,fun y hy x hx=>h.bd y hy x (p7.mp hx)⟩
theorem Mh.aeF(h:Mh rk a b out na nb)(sa:gZ rk a.toList)(sb:gZ rk b.toList)(hc:∀y∈b.toList.take nb,∀x∈a.toList.take na,rk y<=rk x):Gk rk a b (b.extract 0 nb++a.extract 0 na++out.reverse):=by obtain⟨h1,h2⟩:=h.swap.done sb sa hc;exact⟨h1.trans kK,h2⟩
theorem KZ{a:Array ax}{n k:Nat}{z:ax}(hz:z∈(a.toList.take n).drop k):∃j,k<=j/\j < n/\a[j]?=some z:=by
 obtain⟨j,hj⟩:=ky.mp hz;rw[pT]at hj;have hl:k + j < n:=by
  rcases nV (k + j) n with q|q
  ·exact q
  ·rw[ue q]at hj;cases hj
 rw[mh hl]at hj;exact⟨k + j,by lia,hl,by simpa using hj⟩
theorem aal{a:Array ax}{n:Nat}{z:ax}(hz:z∈a.toList.take n):∃j,j < n/\a[j]?=some z:=by obtain⟨j,_,h2,h3⟩:=KZ (k:=0) (by simpa using hz);exact⟨j,h2,h3⟩
theorem Mh.nil:Mh rk a b #[] a.size b.size:=⟨br _,br _,by simp,by rw[rX (by simp),rX (by simp)];simp,by simp,fun y _ x hx=>by simp at hx⟩
end
abbrev HiS:=Option (Array ax)×Nat×Nat×Array ax×Nat×Nat×Nat
def aam(a b out:Array ax)(na nb mg ac bc:Nat):StateT bb Sem (ForInStep HiS):=do
 let x <- dC a (na - 1)
 if (na - 1 == 0)=true then pure (.done (some (a.extract 0 (na - 1)++b.extract 0 nb++(out.push x).reverse),na - 1,nb,out.push x,mg,ac,bc))
 else if (decide (ac < 7) && decide (bc < 7))=true then pure (.done (none,na - 1,nb,out.push x,mg,ac,bc))
 else pure (.yield (none,na - 1,nb,out.push x,mg,ac,bc))
def La(a b out:Array ax)(na nb mg ac bc:Nat):StateT bb Sem (ForInStep HiS):=do
 let y <- dC b (nb - 1)
 if (nb - 1 == 1)=true then pure (.done (some (b.extract 0 (nb - 1)++a.extract 0 na++(out.push y).reverse),na,nb - 1,out.push y,mg,ac,bc))
 else do
  let x <- dC a (na - 1)
  let __x <- iW true x b 0 (nb - 1) (nb - 1 - 1)
  match __x with
  |some k =>
   if nb - 1 - k > 0 then
    if (k == 1)=true then pure (.done (some (b.extract 0 k++a.extract 0 na++(out.push y++(b.extract k (nb - 1)).reverse).reverse),na,k,out.push y++(b.extract k (nb - 1)).reverse,mg,ac,nb - 1 - k))
    else if (k == 0)=true then pure (.done (some (a.extract 0 na++b.extract 0 k++(out.push y++(b.extract k (nb - 1)).reverse).reverse),na,k,out.push y++(b.extract k (nb - 1)).reverse,mg,ac,nb - 1 - k))
    else aam a b (out.push y++(b.extract k (nb - 1)).reverse) na k mg ac (nb - 1 - k)
   else aam a b (out.push y) na (nb - 1) mg ac (nb - 1 - k)
  |_=>pure (.done (some (a.extract 0 na++b.extract 0 (nb - 1)++(out.push y).reverse),na,nb - 1,out.push y,mg,ac,bc))
section
variable{prog:aE}{w:az}{A:a_}{E:aa->af->Prop}{s:af}{a₀:Array ax}{κ:fI}{rk:ax->Int}{a b:Array ax}
theorem Rb.aiR(m:Rb prog w A s κ rk a₀ a b){out:Array ax}{na nb:Nat}(h:Mh rk a b out na nb)(e:nb=1):Gk rk a b (b.extract 0 nb++a.extract 0 na++out.reverse):=by refine h.aeF m.sa m.sb fun y hy x hx=>?_;subst e;obtain⟨x',hx'⟩:=fU (xs:=a) (i:=0) m.la;obtain⟨y',hy'⟩:=fU (xs:=b) (i:=0) m.lb;have e1:=m.lt0;rw[jh hx',jh hy']at e1;have e2:=xO (n:=1) (by lia) m.sb hy' hy;have e3:=qP (i:=0) m.sa hx' (by simpa using mS hx);lia
theorem Rb.noA(m:Rb prog w A s κ rk a₀ a b){out:Array ax}{na nb:Nat}(h:Mh rk a b out na nb)(e:na=0):Gk rk a b (a.extract 0 na++b.extract 0 nb++out.reverse):=by refine h.done m.sa m.sb fun x hx=>?_;subst e;simp at hx
def HiQ(rk:ax->Int)(a b:Array ax)(κ:fI)(st:bb)(n:Nat):ForInStep HiS->bb->Prop:=fun r st'=>dM st st'/\match r with
 | .done c=>(∃m,c.1=some m/\Gk rk a b m)∨(c.1=none/\Mh rk a b c.2.2.2.1 c.2.1 c.2.2.1/\0 < c.2.1/\1 < c.2.2.1/\n<=c.2.2.2.1.size)
 | .yield c=>c.1=none/\Mh rk a b c.2.2.2.1 c.2.1 c.2.2.1/\0 < c.2.1/\1 < c.2.2.1/\n < c.2.2.2.1.size
theorem Iz(m:Rb prog w A s κ rk a₀ a b){out:Array ax}{na nb mg ac bc n:Nat}{st0 st:bb}(hS:dM st0 st)(h:Mh rk a b out na nb)(h1:0 < na)(h2:1 < nb)(hn:n<=out.size)(hc:∀x y,a[na - 1]?=some x->y∈b.toList.take nb->rk y<=rk x) :
  wpS (ah prog w) A E s (aam a b out na nb mg ac bc) (HiQ rk a b κ st0 n) st:=by
 unfold aam;have ha:=h.ha;obtain⟨x,hx⟩:=fU (xs:=a) (i:=na - 1) (by lia);refine aI (cH hx ?_);have h':=h.Aq m.sa h1 hx (fun y hy=>hc x y hx hy);have sz:n < (out.push x).size:=by rw[ip];lia
 refine cN (fun e=>bg ⟨hS,.inl ⟨_,rfl,m.noA h' (lQ e)⟩⟩) fun e=>?_;have e:=iz e;exact cN (fun _=>bg ⟨hS,.inr ⟨rfl,h',by show 0 < na - 1;lia,h2,gL sz⟩⟩) fun _=>bg ⟨hS,rfl,h',by show 0 < na - 1;lia,h2,sz⟩
theorem DR(m:Rb prog w A s κ rk a₀ a b){out:Array ax}{na nb mg ac bc n:Nat}{st0 st:bb}(hk:kindOf st=κ)(hS:dM st0 st)(h:Mh rk a b out na nb)(h1:0 < na)(h2:1 < nb)(hn:n<=out.size)(hc:∀y x,b[nb - 1]?=some y->x∈a.toList.take na->rk x<=rk y) :
  wpS (ah prog w) A E s (La a b out na nb mg ac bc) (HiQ rk a b κ st0 n) st:=by
 unfold La;have ha:=h.ha;have hb:=h.hb;obtain⟨y,hy⟩:=fU (xs:=b) (i:=nb - 1) (by lia);refine aI (cH hy ?_);have h':=h.Iv m.sb (by lia) hy (fun x hx=>hc y x hy hx);have sz:n < (out.push y).size:=by rw[ip];lia
 refine cN (fun e=>bg ⟨hS,.inl ⟨_,rfl,m.aiR h' (lQ e)⟩⟩) fun e=>?_;have e:=iz e;obtain⟨x,hx⟩:=fU (xs:=a) (i:=na - 1) (by lia);refine aI (cH hx ?_);refine aI (kh m.h0 hk (m.ma x (pG hx)) m.mb (by lia) (by lia) (QZ m.sb _ _ (by lia)) fun k k1 k2 k3=>?_);have chunk:∀z∈(b.toList.take (nb - 1)).drop k,∀v∈a.toList.take na,rk v<=rk z:=fun z hz v hv=>by
  obtain⟨j,j1,j2,ej⟩:=KZ hz;have:=k3 j j1 j2;unfold bp at this;rw[iX,jh ej]at this;have q:rk x<=rk z:=by simpa using this
  exact eW (xO h1 m.sa hx hv) q
 have rest:∀v,v∈b.toList.take k->rk v<=rk x:=fun v hv=>by
  obtain⟨j,hj,ej⟩:=aal hv;have:=k2 j hj;unfold bp at this;rw[iX,jh ej]at this;have q:rk v < rk x:=by simpa using this
  exact g8 q
 dsimp only;refine cN (fun kp=>?_) fun kp=>?_
 ·have h'':=h'.KR m.sb (k:=k) (by lia) chunk;have sz':n<=(out.push y++(b.extract k (nb - 1)).reverse).size:=by rw[lj];lia
  refine cN (fun e2=>bg ⟨hS,.inl ⟨_,rfl,m.aiR h'' (lQ e2)⟩⟩) fun e2=>?_;have e2:=iz e2;refine cN (fun e3=>bg ⟨hS,.inl ⟨_,rfl,h''.done m.sa m.sb fun x _ y hy=>?_⟩⟩) fun e3=>?_
  ·rw[lQ e3]at hy;simp at hy
  ·have e3:=iz e3;exact Iz m hS h'' h1 (by lia) sz' fun x' v hx' hv=>by rw[hx]at hx';cases hx';exact rest v hv
 ·obtain rfl:k=nb - 1:=by lia
  exact Iz m hS h' h1 (by lia) (gL sz) fun x' v hx' hv=>by rw[hx]at hx';cases hx';exact rest v hv
theorem DW(m:Rb prog w A s κ rk a₀ a b){out:Array ax}{na nb n:Nat}{st0 st:bb}(hk:kindOf st=κ)(hS:dM st0 st)(h:Mh rk a b out na nb)(h1:0 < na)(h2:1 < nb)(hn:n<=out.size)
  {f:Option Nat->StateT bb Sem (ForInStep HiS)}{mg bc:Nat}(hf:∀k,f (some k)=if na - k > 0 then
    if (k == 0)=true then pure (.done (some (a.extract 0 k++b.extract 0 nb++(out++(a.extract k na).reverse).reverse),k,nb,out++(a.extract k na).reverse,mg,na - k,bc))
    else La a b (out++(a.extract k na).reverse) k nb mg (na - k) bc
   else La a b out na nb mg (na - k) bc) :
  wpS (ah prog w) A E s (do let y <- dC b (nb - 1);let r <- iW false y a 0 na (na - 1);f r) (HiQ rk a b κ st0 n) st:=by
 have ha:=h.ha;have hb:=h.hb;obtain⟨y,hy⟩:=fU (xs:=b) (i:=nb - 1) (by lia);refine aI (cH hy ?_);refine aI (kh m.h0 hk (m.mb y (pG hy)) m.ma (by lia) (by lia) (QZ m.sa _ _ (by lia)) fun k k1 k2 k3=>?_);rw[hf];have chunk:∀z∈(a.toList.take na).drop k,∀v∈b.toList.take nb,rk v<=rk z:=fun z hz v hv=>by
  obtain⟨j,j1,j2,ej⟩:=KZ hz;have:=k3 j j1 j2;unfold bp at this;rw[iX,jh ej]at this;have q:rk y < rk z:=by simpa using this
  exact eW (xO (by lia) m.sb hy hv) (g8 q)
 have rest:∀v,v∈a.toList.take k->rk v<=rk y:=fun v hv=>by obtain⟨j,hj,ej⟩:=aal hv;have:=k2 j hj;unfold bp at this;rw[iX,jh ej]at this;simpa using this
 refine cN (fun kp=>?_) fun kp=>?_
 ·have h':=h.sO m.sa (k:=k) (by lia) chunk;have sz':n<=(out++(a.extract k na).reverse).size:=by rw[lj];lia
  refine cN (fun e=>bg ⟨hS,.inl ⟨_,rfl,m.noA h' (lQ e)⟩⟩) fun e=>?_;have e:=iz e;exact DR m hk hS h' (by lia) h2 sz' fun y' x hy' hx=>by rw[hy]at hy';cases hy';exact rest x hx
 ·obtain rfl:k=na:=by lia
  exact DR m hk hS h h1 h2 hn fun y' x hy' hx=>by rw[hy]at hy';cases hy';exact rest x hx
theorem Rg(m:Rb prog w A s κ rk a₀ a b){st:bb}(hk:kindOf st=κ){Q:Array ax->bb->Prop}(h:∀mm st',dM st st'->Gk rk a b mm->Q mm st') :
  wpS (ah prog w) A E s (DQ a b) Q st:=by
 rw[Rf];dsimp only;have la:=m.la;have lb:=m.lb;refine aI (lh (gu ⟨rfl,?_⟩));obtain⟨x0,hx0⟩:=fU (xs:=a) (i:=a.size - 1) (by lia);refine aI (cH hx0 ?_);have M0:Mh rk a b #[x0] (a.size - 1) b.size:=Mh.nil.Aq m.sa la hx0 fun v hv=>by have:=m.last v (mS hv);rwa [jh hx0]at this
 refine cN (fun e=>bg (h _ _ (.refl _) (m.noA M0 (lQ e)))) fun e1=>?_;have e1:=iz e1;refine cN (fun e=>bg (h _ _ (.refl _) (m.aiR M0 (lQ e)))) fun e2=>?_;have e2:=iz e2;refine aI (il ?_);refine aI (eT (fw (I:=fun x c st'=>dM st st'/\∃na nb out mg,c=(none,na,nb,out,mg)/\Mh rk a b out na nb/\0 < na/\1 < nb/\x + 1<=out.size)
  (Q:=fun c st'=>dM st st'/\∃mm rest,c=(some mm,rest)/\Gk rk a b mm) ?step ?dZ ⟨.refl _,_,_,#[x0],_,rfl,M0,by lia,by lia,by simp⟩) ?post)
 case post =>
  rintro c st' ⟨hS,mm,rest,rfl,hr⟩;exact bg (h mm st' hS hr)
 case dZ =>
  rintro c st' ⟨hS,na,nb,out,mg,rfl,hM,h1,h2,h3⟩;have:=hM.sz;lia
 case step =>
  rintro x c st' _ hx ⟨hS,na,nb,out,mg,rfl,hM,h1,h2,h3⟩;dsimp only;refine aI (eT (fw (I:=fun y c st''=>dM st st''/\∃na nb out ac bc,c=(none,na,nb,out,ac,bc)/\Mh rk a b out na nb/\0 < na/\1 < nb/\x + 1 + y<=out.size)
   (Q:=fun c st''=>dM st st''/\((∃mm rest,c=(some mm,rest)/\Gk rk a b mm)∨∃na nb out ac bc,c=(none,na,nb,out,ac,bc)/\Mh rk a b out na nb/\0 < na/\1 < nb/\x + 2<=out.size)) ?istep ?ifin ⟨hS,na,nb,out,0,0,rfl,hM,h1,h2,by lia⟩) ?ipost)
  case ifin =>
   rintro c st'' ⟨hS,na,nb,out,ac,bc,rfl,hM,h1,h2,h3⟩;have:=hM.sz;lia
  case istep =>
   rintro y c st'' _ hy ⟨hS,na,nb,out,ac,bc,rfl,hM,h1,h2,h3⟩;dsimp only;have ha:=hM.ha;have hb:=hM.hb;obtain⟨p,hp⟩:=fU (xs:=b) (i:=nb - 1) (by lia);obtain⟨q,hq⟩:=fU (xs:=a) (i:=na - 1) (by lia);refine aI (cH hp (aI (cH hq (aI (Dy m.h0 (hS.2.1.trans hk) (m.mb p (pG hp)) (m.ma q (pG hq)) ?_)))));by_cases c:rk p < rk q
   ·simp only[c,decide_true,if_true];refine aI (cH hq ?_);have hM':=hM.Aq m.sa h1 hq fun v hv=>eW (xO (by lia) m.sb hp hv) (g8 c);refine cN (fun e=>bg ⟨hS,.inl ⟨_,_,rfl,m.noA hM' (lQ e)⟩⟩) fun e=>?_;have e:=iz e;exact cN (fun _=>bg ⟨hS,.inr ⟨_,_,_,_,_,rfl,hM',by lia,h2,by rw[ip];lia⟩⟩) fun _=>bg ⟨hS,_,_,_,_,_,rfl,hM',by lia,h2,by rw[ip];lia⟩
   ·simp only[c,decide_false,aS,if_false];refine aI (cH hp ?_);have hM':=hM.Iv m.sb (by lia) hp fun v hv=>eW (xO h1 m.sa hq hv) (pS.mp c);refine cN (fun e=>bg ⟨hS,.inl ⟨_,_,rfl,m.aiR hM' (lQ e)⟩⟩) fun e=>?_;have e:=iz e;exact cN (fun _=>bg ⟨hS,.inr ⟨_,_,_,_,_,rfl,hM',h1,by lia,by rw[ip];lia⟩⟩) fun _=>bg ⟨hS,_,_,_,_,_,rfl,hM',h1,by lia,by rw[ip];lia⟩
  case ipost =>
   rintro c st'' ⟨hS,⟨mm,rest,rfl,hr⟩|⟨na,nb,out,ac,bc,rfl,hM,h1,h2,h3⟩⟩
   ·exact bg ⟨hS,mm,_,rfl,hr⟩
   ·dsimp only;refine aI (lh (gu ⟨rfl,?_⟩));refine aI (eT (fw (I:=fun y c st3=>dM st st3/\∃na nb out mg ac bc,c=(none,na,nb,out,mg,ac,bc)/\Mh rk a b out na nb/\0 < na/\1 < nb/\x + 2 + y<=out.size)
     (Q:=fun c st3=>dM st st3/\((∃mm rest,c=(some mm,rest)/\Gk rk a b mm)∨∃na nb out mg ac bc,c=(none,na,nb,out,mg,ac,bc)/\Mh rk a b out na nb/\0 < na/\1 < nb/\x + 2<=out.size)) ?aeG ?anj ⟨hS,na,nb,out,_,ac,bc,rfl,hM,h1,h2,by lia⟩) ?aeH)
    case anj =>
     rintro c st3 ⟨hS,na,nb,out,mg,ac,bc,rfl,hM,h1,h2,h3⟩;have:=hM.sz;lia
    case aeH =>
     rintro c st3 ⟨hS,⟨mm,rest,rfl,hr⟩|⟨na,nb,out,mg,ac,bc,rfl,hM,h1,h2,h3⟩⟩
     ·exact bg ⟨hS,mm,_,rfl,hr⟩
     ·dsimp only;refine aI (pU fun Il Gj=>?_);exact bg ⟨hS.trans Gj,_,_,_,_,rfl,hM,h1,h2,by lia⟩
    case aeG =>
     rintro y c st3 _ hy ⟨hS,na,nb,out,mg,ac,bc,rfl,hM,h1,h2,h3⟩;have cD:∀(c:HiS) (st':bb),HiQ rk a b κ st (x + 2 + y) (.done c) st'->dM st st'/\((∃mm rest,c=(some mm,rest)/\Gk rk a b mm)∨∃na nb out mg ac bc,c=(none,na,nb,out,mg,ac,bc)/\Mh rk a b out na nb/\0 < na/\1 < nb/\x + 2<=out.size):=by
      rintro⟨c1,na,nb,out,mg,ac,bc⟩ st' ⟨hS,⟨mm,e,hr⟩|⟨e,hM,h1,h2,h3⟩⟩
      ·cases e;exact⟨hS,.inl ⟨mm,_,rfl,hr⟩⟩
      ·cases e;dsimp only at h1 h2 h3;exact⟨hS,.inr ⟨_,_,_,_,_,_,rfl,hM,h1,h2,by lia⟩⟩
     have cY:∀(c:HiS) (st':bb),HiQ rk a b κ st (x + 2 + y) (.yield c) st'->dM st st'/\∃na nb out mg ac bc,c=(none,na,nb,out,mg,ac,bc)/\Mh rk a b out na nb/\0 < na/\1 < nb/\x + 2 + (y + 1)<=out.size:=by rintro⟨c1,na,nb,out,mg,ac,bc⟩ st' ⟨hS,e,hM,h1,h2,h3⟩;cases e;dsimp only at h1 h2 h3;exact⟨hS,_,_,_,_,_,_,rfl,hM,h1,h2,by lia⟩
     dsimp only;refine cN (fun _=>?_) (fun _=>?_)
     ·refine aI (pU fun Il Gj=>?_);exact eT (DW m ((hS.trans Gj).2.1.trans hk) (hS.trans Gj) hM h1 h2 h3 (fun k=>rfl)) fun r st' hq=>match r,hq with|.done c,hq=>cD c st' hq|.yield c,hq=>cY c st' hq
     ·refine aI (pU fun Il Gj=>?_);exact eT (DW m ((hS.trans Gj).2.1.trans hk) (hS.trans Gj) hM h1 h2 h3 (fun k=>rfl)) fun r st' hq=>match r,hq with|.done c,hq=>cD c st' hq|.yield c,hq=>cY c st' hq
end
theorem Rh(i:Nat):mergeAt' i=(do
 let s <- get
 let (some (sa,na,power),some (sb,nb,_)):=((b_ s)[i]?,(b_ s)[i + 1]?)|unsupported "internal:list.sort.pending"
 set (nX s (((b_ s).setIfInBounds i (sa,na + nb,power)).eraseIdxIfInBounds (i + 1)))
 let some k <- iW false (<- dC (ay s) sb) (ay s) sa na 0|return false
 let (sa,na):=(sa + k,na - k)
 if na == 0 then return true
 let some nb <- iW true (<- dC (ay s) (sa + na - 1)) (ay s) sb nb (nb - 1)|return false
 if nb == 0 then return true
 let x:=(ay s).extract sa sb
 let y:=(ay s).extract sb (sb + nb)
 let merged <- if na<=nb then DG x y else DQ x y
 modify fun s=>setArr s (merged.toList.zipIdx.foldl (fun a (p,j)=>a.setIfInBounds (sa + j) p) (ay s))
 return (fN (<- get)).isNone):=rfl
section
variable{prog:aE}{w:az}{A:a_}{E:aa->af->Prop}{s:af}{a₀:Array ax}{κ:fI}{rk:ax->Int}
theorem Ri{base:Nat}:∀(M:List ax) (n:Nat) (Pre Z T:List ax) (arr:Array ax),arr.toList=Pre++(Z++T)->base + n=Pre.length->M.length=Z.length ->
  ((M.zipIdx n).foldl (fun a (p:ax×Nat)=>a.setIfInBounds (base + p.2) p.1) arr).toList=Pre++(M++T)
 | [],n,Pre,Z,T,arr,h,_,hl=>by obtain rfl:Z=[]:=ik.mp hl.symm;simpa using h
 |m::M,n,Pre,Z,T,arr,h,hb,hl=>by
  cases Z with
  |nil=>cases hl
  |cons z Z =>
   have e:(arr.setIfInBounds (base + n) m).toList=(Pre++[m])++(Z++T):=by rw[Array.toList_setIfInBounds,h,hb];simp[List.set_append]
   have:=Ri (base:=base) M (n + 1) (Pre++[m]) Z T _ e (by simp;lia) (by simpa using hl);rw[List.zipIdx_cons,jI,this];simp
theorem Lb{xs:Array ax}{P L S:List ax}(h:xs.toList=P++(L++S)){i:Nat}(hi:i < L.length):R rk xs (P.length + i)=rk L[i]:=by refine jh ?_;rw[<- h_,h,i8 (by lia),i9 (by lia)];rw[show P.length + i - P.length=i by lia,eI hi]
theorem Xg{xs:Array ax}{P L S:List ax}(h:xs.toList=P++(L++S)):Up rk xs P.length L.length↔gZ rk L:=by
 constructor
 ·intro u;refine j5.mpr ?_;intro i j hi hj hij;have:=u i j (by lia) hj;rwa [Lb h hi,Lb h hj]at this
 ·intro u i j hij hj;rw[Lb h (by lia),Lb h hj];by_cases e:i=j
  ·subst e;exact g7 _
  ·exact j5.mp u i j (by lia) hj (by lia)
theorem Rj{st:bb}{i sa na nb pw pw2:Nat}{Q:Bool->bb->Prop}(h0:Ax prog w A s κ rk a₀)(hp:(ay st).Perm a₀)(hk:kindOf st=κ)(hf:fN st=none)
  (hi:(b_ st)[i]?=some (sa,na,pw)) (hj:(b_ st)[i + 1]?=some (sa + na,nb,pw2)) (na1:1<=na) (nb1:1<=nb) (hz:sa + na + nb<=a₀.size) (ua:Up rk (ay st) sa na) (ub:Up rk (ay st) (sa + na) nb)
  (h:∀st',(ay st').Perm a₀->kindOf st'=κ->fN st'=none->b_ st'=((b_ st).setIfInBounds i (sa,na + nb,pw)).eraseIdxIfInBounds (i + 1)->(∀q,q < sa∨sa + na + nb<=q->(ay st')[q]?=(ay st)[q]?)->Up rk (ay st') sa (na + nb)->Q true st') :
  wpS (ah prog w) A E s (mergeAt' i) Q st:=by
 rw[Rh];refine aI (il ?_);dsimp only;rw[hi,hj];dsimp only;have asn:∀(st1:bb) (Q':PUnit->bb->Prop),Q' ⟨⟩ st1->wpS (ah prog w) A E s (set st1:StateT bb Sem PUnit) Q' st:=fun st1 Q' hq=>by unfold wpS;rw[StateT.run_set];exact ar ⟨rfl,hq⟩
 refine aI (asn _ _ ?_);have sz:(ay st).size=a₀.size:=hp.size_eq;have mem:∀x∈(ay st).toList,x∈a₀.toList:=fun x hx=>(t9.mp hp).mem_iff.mp hx;generalize aiS:nX st (((b_ st).setIfInBounds i (sa,na + nb,pw)).eraseIdxIfInBounds (i + 1))=st1;have k1:kindOf st1=κ:=by rw[<- aiS];exact hk
 have f1:fN st1=none:=by rw[<- aiS];exact hf
 have a1:ay st1=ay st:=by rw[<- aiS]
 have p1:b_ st1=((b_ st).setIfInBounds i (sa,na + nb,pw)).eraseIdxIfInBounds (i + 1):=by rw[<- aiS]
 obtain⟨y,hy⟩:=fU (xs:=ay st) (i:=sa + na) (by lia);obtain⟨z,hz'⟩:=fU (xs:=ay st) (i:=sa + na - 1) (by lia);generalize ay st=xs at *;refine aI (cH hy ?_);refine aI (kh h0 k1 (mem y (pG hy)) mem (by lia) (by lia) ua fun k kn kl kr=>?_);have kl':∀q,q < k->R rk xs (sa + q)<=rk y:=fun q hq=>by have:=kl q hq;unfold bp at this;simpa using this
 have kr':∀q,k<=q->q < na->rk y < R rk xs (sa + q):=fun q h1 h2=>by have:=kr q h1 h2;unfold bp at this;simpa using this
 have ub0:∀q,q < nb->rk y<=R rk xs (sa + na + q):=fun q hq=>by have:=ub 0 q (by lia) hq;rwa [mP,jh hy]at this
 have whole:(∀q,q < na->∀q',q' < nb->R rk xs (sa + q)<=R rk xs (sa + na + q'))->Up rk xs sa (na + nb):=fun hq i j hij hj=>by
  by_cases c:j < na
  ·exact ua i j hij c
  ·by_cases d:i < na
   ·have:=hq i d (j - na) (by lia);rwa [show sa + na + (j - na)=sa + j by lia]at this
   ·have:=ub (i - na) (j - na) (by lia) (by lia);rwa [show sa + na + (j - na)=sa + j by lia,show sa + na + (i - na)=sa + i by lia]at this
 dsimp only;refine cN (fun e=>bg ?_) fun e=>?_
 ·have e:=lQ e;refine h st1 (by rw[a1];exact hp) k1 f1 p1 (fun _ _=>by rw[a1]) ?_;rw[a1];exact whole fun q hq q' hq'=>eW (kl' q (by lia)) (ub0 q' hq')
 have e:=iz e;rw[show sa + k + (na - k) - 1=sa + na - 1 by lia];refine aI (cH hz' ?_);refine aI (kh h0 k1 (mem z (pG hz')) mem (by lia) (by lia) ub fun n nn nl nr=>?_);have nl':∀q,q < n->R rk xs (sa + na + q) < rk z:=fun q hq=>by have:=nl q hq;unfold bp at this;simpa using this
 have nr':∀q,n<=q->q < nb->rk z<=R rk xs (sa + na + q):=fun q h1 h2=>by have:=nr q h1 h2;unfold bp at this;simpa using this
 have uaz:∀q,q < na->R rk xs (sa + q)<=rk z:=fun q hq=>by have:=ua q (na - 1) (by lia) (by lia);rwa [show sa + (na - 1)=sa + na - 1 by lia,jh hz']at this
 refine cN (fun e2=>bg ?_) fun e2=>?_
 ·have e2:=lQ e2;refine h st1 (by rw[a1];exact hp) k1 f1 p1 (fun _ _=>by rw[a1]) ?_;rw[a1];exact whole fun q hq q' hq'=>eW (uaz q hq) (nr' q' (by lia) hq')
 have e2:=iz e2;have hxl:xs.toList.length=a₀.size:=by rw[fR];exact sz
 obtain⟨P,hP⟩:∃P,P=xs.toList.take sa:=⟨_,rfl⟩
 obtain⟨A1,hA1⟩:∃P,P=(xs.toList.drop sa).take k:=⟨_,rfl⟩
 obtain⟨X,hX⟩:∃P,P=(xs.toList.drop (sa + k)).take (na - k):=⟨_,rfl⟩
 obtain⟨Y,hY⟩:∃P,P=(xs.toList.drop (sa + na)).take n:=⟨_,rfl⟩
 obtain⟨B2,hB2⟩:∃P,P=(xs.toList.drop (sa + na + n)).take (nb - n):=⟨_,rfl⟩
 obtain⟨S,hS⟩:∃P,P=xs.toList.drop (sa + na + nb):=⟨_,rfl⟩
 have lP:P.length=sa:=by rw[hP,ke];lia
 have lA:A1.length=k:=by rw[hA1,ke,mv];lia
 have lX:X.length=na - k:=by rw[hX,ke,mv];lia
 have lY:Y.length=n:=by rw[hY,ke,mv];lia
 have lB:B2.length=nb - n:=by rw[hB2,ke,mv];lia
 have hl:xs.toList=P++(A1++(X++(Y++(B2++S)))):=by rw[hP,hA1,hX,hY,hB2,hS];have s5:=nU xs.toList (sa + na + n) (nb - n);rw[show sa + na + n + (nb - n)=sa + na + nb by lia]at s5;rw[<- s5,<- nU xs.toList (sa + na) n];have s3:=nU xs.toList (sa + k) (na - k);rw[show sa + k + (na - k)=sa + na by lia]at s3;rw[<- s3,<- nU xs.toList sa k,k6]
 have eX:(xs.extract (sa + k) (sa + na)).toList=X:=by rw[qO,hX];congr 1;lia
 have eY:(xs.extract (sa + na) (sa + na + n)).toList=Y:=by rw[qO,hY];congr 1;lia
 have aA:gZ rk (A1++X):=by
  have:xs.toList=P++((A1++X)++(Y++(B2++S))):=by rw[hl];simp
  refine(Xg this).mp ?_;rw[lP,eR,lA,lX,show k + (na - k)=na by lia];exact ua
 have aB:gZ rk (Y++B2):=by
  have:xs.toList=(P++(A1++X))++((Y++B2)++S):=by rw[hl];simp
  have u:=Xg (rk:=rk) this;rw[eR,eR,lP,lA,lX,eR,lY,lB,show sa + (k + (na - k))=sa + na by lia,show n + (nb - n)=nb by lia]at u;exact u.mp ub
 obtain⟨sA,sX,sAX⟩:=gN.mp aA;obtain⟨sY,sB,sYB⟩:=gN.mp aB;have aqc:∀v∈A1,rk v<=rk y:=fun v hv=>by rw[hA1]at hv;obtain⟨j,hj,ej⟩:=nq hv;have:=kl' j hj;rwa [jh ej]at this
 have asp:∀v∈X,rk v<=rk z:=fun v hv=>by rw[hX]at hv;obtain⟨j,hj,ej⟩:=nq hv;have:=uaz (k + j) (by lia);rwa [<- pV,jh ej]at this
 have aiT:∀v∈Y,rk y<=rk v/\rk v < rk z:=fun v hv=>by rw[hY]at hv;obtain⟨j,hj,ej⟩:=nq hv;have q1:=ub0 j (by lia);have q2:=nl' j hj;rw[jh ej]at q1 q2;exact⟨q1,q2⟩
 have ank:∀v∈B2,rk z<=rk v:=fun v hv=>by rw[hB2]at hv;obtain⟨j,hj,ej⟩:=nq hv;have:=nr' (n + j) (by lia) (by lia);rwa [<- pV,jh ej]at this
 have gX:∀q,q < na - k->(xs.extract (sa + k) (sa + na))[q]?=xs[sa + k + q]?:=fun q hq=>by rw[Array.getElem?_extract,if_pos (by lia)]
 have gY:∀q,q < n->(xs.extract (sa + na) (sa + na + n))[q]?=xs[sa + na + q]?:=fun q hq=>by rw[Array.getElem?_extract,if_pos (by lia)]
 have szX:(xs.extract (sa + k) (sa + na)).size=na - k:=by rw[t_];lia
 have szY:(xs.extract (sa + na) (sa + na + n)).size=n:=by rw[t_];lia
 have m:Rb prog w A s κ rk a₀ (xs.extract (sa + k) (sa + na)) (xs.extract (sa + na) (sa + na + n)):=by
  refine⟨h0,by rw[eX];exact sX,by rw[eY];exact sY,fun v hv=>mem v ?_,fun v hv=>mem v ?_,by lia,by lia,?_,fun v hv=>?_⟩
  ·rw[eX]at hv;rw[hl];simp[hv]
  ·rw[eY]at hv;rw[hl];simp[hv]
  ·rw[lF (gX 0 (by lia)),lF (gY 0 (by lia)),mP,mP,jh hy];exact kr' k (br _) (by lia)
  ·rw[szX,lF (gX (na - k - 1) (by lia)),show sa + k + (na - k - 1)=sa + na - 1 by lia,jh hz'];rw[eY]at hv;exact g8 (aiT v hv).2
 have dZ:∀(mm:Array ax) (st2:bb),dM st1 st2->Gk rk (xs.extract (sa + k) (sa + na)) (xs.extract (sa + na) (sa + na + n)) mm->wpS (ah prog w) A E s (do
   modify fun s=>setArr s (mm.toList.zipIdx.foldl (fun a (p,j)=>a.setIfInBounds (sa + k + j) p) (ay s))
   let s <- get
   pure (fN s).isNone) Q st2:=fun mm st2 hS2 ⟨hr,hu⟩=>by
  rw[eX,eY]at hr;have lm:mm.toList.length=(X++Y).length:=hr.length_eq;have put:=Ri (base:=sa + k) mm.toList 0 (P++A1) (X++Y) (B2++S) xs (by rw[hl];simp) (by rw[eR,lP,lA];lia) lm;refine aI (j_ (aI (il ?_)));have e3:ay st2=xs:=hS2.1.trans a1;have key:∀ys:Array ax,ys.toList=P++(A1++(mm.toList++(B2++S)))->∀st',ay st'=ys->kindOf st'=κ->fN st'=none->b_ st'=b_ st1->Q true st':=by
   intro ys hys st' e4 e5 e6 e7;refine h st' ?_ e5 e6 (e7.trans p1) ?_ ?_
   ·rw[e4];refine Array.Perm.trans (t9.mpr ?_) hp;rw[hys,hl];refine o8 _ (o8 _ ?_);rw[<- jS X Y];exact xF _ hr
   ·intro q hq;rw[e4,<- h_,<- h_,hys,hl];rw[eR,lX,lY]at lm;rcases hq with hq|hq
    ·rw[i9 (by lia),i9 (by lia)]
    ·have e8:P++(A1++(mm.toList++(B2++S)))=(P++(A1++(mm.toList++B2)))++S:=by simp
     have e9:P++(A1++(X++(Y++(B2++S))))=(P++(A1++(X++(Y++B2))))++S:=by simp
     have l1:(P++(A1++(mm.toList++B2))).length=sa + na + nb:=by simp only[eR];lia
     have l2:(P++(A1++(X++(Y++B2)))).length=sa + na + nb:=by simp only[eR];lia
     rw[e8,e9,i8 (by lia),i8 (by lia),l1,l2]
   ·rw[e4];have e8:ys.toList=P++((A1++(mm.toList++B2))++S):=by rw[hys];simp
    have u:=Xg (rk:=rk) e8;have l1:(A1++(mm.toList++B2)).length=na + nb:=by simp only[eR]at lm ⊢;lia
    rw[lP,l1]at u;refine u.mpr (gN.mpr ⟨sA,gN.mpr ⟨hu,sB,fun v hv t ht=>?_⟩,fun v hv t ht=>?_⟩)
    ·rcases d9.mp (hr.mem_iff.mp hv) with hv|hv
     ·exact eW (asp v hv) (ank t ht)
     ·exact eW (g8 (aiT v hv).2) (ank t ht)
    ·rcases d9.mp ht with ht|ht
     ·rcases d9.mp (hr.mem_iff.mp ht) with ht|ht
      ·exact sAX v hv t ht
      ·exact eW (aqc v hv) (aiT t ht).1
     ·have q1:=aqc v hv;have q2:=(aiT y (by
       have:=eB.mp (show Y[0]?=some y by rw[hY,mh (by lia),pT,mP];simpa using hy);obtain⟨q,rfl⟩:=this;exact dm q)).2
      have q3:=ank t ht;lia
  rw[<- e3]at put;have:=key _ (by rw[put];simp) (setArr st2 (mm.toList.zipIdx.foldl (fun a (p,j)=>a.setIfInBounds (sa + k + j) p) (ay st2))) rfl (hS2.2.1.trans k1) (hS2.2.2.2.trans f1) hS2.2.2.1;have e10:(fN (setArr st2 (mm.toList.zipIdx.foldl (fun a (p,j)=>a.setIfInBounds (sa + k + j) p) (ay st2)))).isNone=true:=by show(fN st2).isNone=true;rw[hS2.2.2.2.trans f1];rfl
  rw[e10];exact bg this
 exact cN (fun _=>aI (Rc m k1 dZ)) fun _=>aI (Rg m k1 dZ)
end
def Rn(rk:ax->Int)(xs:Array ax):Nat->List (Nat×Nat×Nat)->Nat->Prop
 |a,[],e=>a=e
 |a,t::l,e=>t.1=a/\1<=t.2.1/\Up rk xs a t.2.1/\Rn rk xs (a + t.2.1) l e
section
variable{rk:ax->Int}{xs ys:Array ax}
theorem Rn.le:∀{l:List (Nat×Nat×Nat)}{a e:Nat},Rn rk xs a l e->a + l.length<=e
 | [],a,e,h=>by simp only[Rn]at h;simp;lia
 |t::l,a,e,h=>by obtain⟨h1,h2,h3,h4⟩:=h;have:=Rn.le h4;simp only[cx];lia
theorem Rn.app:∀{l l':List (Nat×Nat×Nat)}{a e:Nat},Rn rk xs a (l++l') e↔∃m,Rn rk xs a l m/\Rn rk xs m l' e
 | [],l',a,e=>by
  constructor
  ·intro h;exact⟨a,rfl,h⟩
  ·rintro⟨m,rfl,h⟩;exact h
 |t::l,l',a,e=>by
  constructor
  ·rintro⟨h1,h2,h3,h4⟩;obtain⟨m,g1,g2⟩:=Rn.app.mp h4;exact⟨m,⟨h1,h2,h3,g1⟩,g2⟩
  ·rintro⟨m,⟨h1,h2,h3,h4⟩,g⟩;exact⟨h1,h2,h3,Rn.app.mpr ⟨m,h4,g⟩⟩
theorem Up.congr{a n:Nat}(h:Up rk xs a n)(hc:∀q,a<=q->q < a + n->ys[q]?=xs[q]?):Up rk ys a n:=fun i j hij hj=>by rw[lF (hc (a + i) (by lia) (by lia)),lF (hc (a + j) (by lia) (by lia))];exact h i j hij hj
theorem Rn.congr:∀{l:List (Nat×Nat×Nat)}{a e:Nat},Rn rk xs a l e->(∀q,a<=q->q < e->ys[q]?=xs[q]?)->Rn rk ys a l e
 | [],a,e,h,_=>h
 |t::l,a,e,⟨h1,h2,h3,h4⟩,hc=>by have:=h4.le;exact⟨h1,h2,h3.congr fun q q1 q2=>hc q q1 (by lia),h4.congr fun q q1 q2=>hc q (by lia) q2⟩
theorem Rn.pow:∀{l l':List (Nat×Nat×Nat)}{a e:Nat},Rn rk xs a l e->l'.map (fun t=>(t.1,t.2.1))=l.map (fun t=>(t.1,t.2.1))->Rn rk xs a l' e
 | [],l',a,e,h,hm=>by
  obtain rfl:l'=[]:=by simpa using hm
  exact h
 |t::l,[],a,e,h,hm=>by cases hm
 |t::l,t'::l',a,e,⟨h1,h2,h3,h4⟩,hm=>by simp only[ck,List.cons.injEq,rS]at hm;obtain⟨⟨m1,m2⟩,m3⟩:=hm;exact⟨m1.trans h1,by rw[m2];exact h2,by rw[m2];exact h3,by rw[m2];exact h4.pow m3⟩
theorem DX(f:Nat×Nat×Nat->Nat×Nat×Nat)(hf:∀t,((f t).1,(f t).2.1)=(t.1,t.2.1)):∀(l:List (Nat×Nat×Nat)) (i:Nat),(l.modify i f).map (fun t=>(t.1,t.2.1))=l.map (fun t=>(t.1,t.2.1))
 | [],i=>by simp
 |t::l,0=>by simp only[List.modify_zero_cons,ck,hf]
 |t::l,i + 1=>by simp only[List.modify_succ_cons,ck,DX f hf l i]
theorem anl{α:Type}(l:List α)(i:Nat)(h:i + 1 < l.length):l=l.take i++(l[i]::l[i + 1]::l.drop (i + 2)):=by
 conv=>lhs;rw[<- k6 i l,jv (by lia),jv (by lia)]
theorem asq{α:Type}(P:List α)(t u v:α)(S:List α)(i:Nat)(hP:P.length=i):((P++(t::u::S)).set i v).eraseIdx (i + 1)=P++(v::S):=by
 subst hP
 induction P with
 |nil=>rfl
 |cons p P ih =>
  simp only[p8,cx,g9,sF,ih]
end
section
variable{prog:aE}{w:az}{A:a_}{E:aa->af->Prop}{s:af}{a₀:Array ax}{κ:fI}{rk:ax->Int}
structure Sr (κ:fI)(rk:ax->Int)(a₀:Array ax)(lo:Nat)(st:bb):Prop where
 perm:(ay st).Perm a₀
 kind:kindOf st=κ
 failed:fN st=none
 runs:Rn rk (ay st) 0 (b_ st).toList lo
theorem vP{st:bb}{i e:Nat}{Q:Bool->bb->Prop}(h0:Ax prog w A s κ rk a₀)(h:Sr κ rk a₀ e st)(he:e<=a₀.size)(hi:i + 1 < (b_ st).size)
  (hq:∀st',Sr κ rk a₀ e st'->(b_ st').size + 1=(b_ st).size->(∀q,e<=q->(ay st')[q]?=(ay st)[q]?)->Q true st'):wpS (ah prog w) A E s (mergeAt' i) Q st:=by
 have hr:=h.runs;have sp:=anl (b_ st).toList i (by simpa using hi);generalize hpre:(b_ st).toList.take i=pre at sp;generalize (b_ st).toList.drop (i + 2)=post at sp;have lp:pre.length=i:=by rw[<- hpre,ke];simp;lia
 rw[sp]at hr;obtain⟨m,r1,h1,h2,h3,h4,h5,h6,h7⟩:=Rn.app.mp hr;simp only[Array.getElem_toList]at h1 h2 h3 h4 h5 h6 h7 sp;have e1:(b_ st)[i]?=some (m,(b_ st)[i].2.1,(b_ st)[i].2.2):=by rw[getElem?_pos _ i (by lia)];exact congrArg some (Prod.ext h1 rfl)
 have e2:(b_ st)[i + 1]?=some (m + (b_ st)[i].2.1,(b_ st)[i + 1].2.1,(b_ st)[i + 1].2.2):=by rw[getElem?_pos _ (i + 1) (by lia)];exact congrArg some (Prod.ext h4 rfl)
 have l7:=h7.le;refine Rj h0 h.perm h.kind h.failed e1 e2 h2 h5 (by lia) h3 h6 fun st' p1 p2 p3 p4 p5 p6=>?_;have e3:(b_ st').toList=pre++((m,(b_ st)[i].2.1 + (b_ st)[i + 1].2.1,(b_ st)[i].2.2)::post):=by rw[p4,Array.toList_eraseIdxIfInBounds,Array.toList_setIfInBounds,sp];exact asq _ _ _ _ _ _ lp
 refine hq st' ⟨p1,p2,p3,?_⟩ ?_ fun q hq=>p5 q (.inr (by lia))
 ·rw[e3];have l1:=r1.le;refine Rn.app.mpr ⟨m,r1.congr fun q _ q2=>p5 q (.inl q2),rfl,by show 1<=_ + _;lia,p6,?_⟩;show Rn rk (ay st') (m + (_ + _)) post e;rw[<- pV];exact h7.congr fun q q1 _=>p5 q (.inr q1)
 ·have q1:=congrArg f9 e3;have q2:=congrArg f9 sp;simp only[fR,eR,cx]at q1 q2;lia
theorem Sr.push{st:bb}{lo n:Nat}(h:Sr κ rk a₀ lo st)(hn:1<=n)(hu:Up rk (ay st) lo n):Sr κ rk a₀ (lo + n) (nX st ((b_ st).push (lo,n,0))):=by refine⟨h.perm,h.kind,h.failed,?_⟩;show Rn rk (ay st) 0 ((b_ st).push (lo,n,0)).toList (lo + n);rw[rV];exact Rn.app.mpr ⟨lo,h.runs,rfl,hn,hu,rfl⟩
theorem Sr.alp{st:bb}{lo:Nat}(h:Sr κ rk a₀ lo st)(f:Nat×Nat×Nat->Nat×Nat×Nat)(hf:∀t,((f t).1,(f t).2.1)=(t.1,t.2.1)){i:Nat}:Sr κ rk a₀ lo (nX st ((b_ st).modify i f)):=by refine⟨h.perm,h.kind,h.failed,h.runs.pow ?_⟩;show((b_ st).modify _ _).toList.map _=_;rw[Array.toList_modify];exact DX f hf _ _
theorem DY:∀(f n r:Nat),1<=n + r->1<=p9 f n r
 | 0,n,r,h=>h
 |f + 1,n,r,h=>by
  rw[minRun'_succ];split
  ·exact h
  ·exact DY f (n / 2) (max r (n % 2)) (by lia)
theorem Ld{st:bb}{Q:Unit->bb->Prop}(h0:Ax prog w A s κ rk a₀)(hp:ay st=a₀)(hk:kindOf st=κ)(hf:fN st=none)(hpd:b_ st=#[])(h2:2<=a₀.size)
  (hq:∀st',(ay st').Perm a₀->fN st'=none->Up rk (ay st') 0 a₀.size->Q () st'):wpS (ah prog w) A E s sortRuns' Q st:=by
 rw[sortRuns'_eq];refine aI (il ?_);dsimp only;rw[hp];have mr:1<=p9 a₀.size a₀.size 0:=DY _ _ _ (by lia);refine aI (eT (fw (I:=fun x c st'=>∃lo,c=(none,lo)/\x<=lo/\lo<=a₀.size/\Sr κ rk a₀ lo st')
  (Q:=fun c st'=>c=(none,a₀.size)/\Sr κ rk a₀ a₀.size st') ?step ?dZ ⟨0,rfl,br _,by lia,by rw[hp],hk,hf,by rw[hpd];rfl⟩) ?post)
 case dZ =>
  rintro c st' ⟨lo,rfl,h1,h2,hS⟩;obtain rfl:lo=a₀.size:=by lia
  exact⟨rfl,hS⟩
 case post =>
  rintro c st' ⟨rfl,hS⟩;dsimp only;refine aI (eT (fw (I:=fun x c st''=>c=(none,())/\Sr κ rk a₀ a₀.size st''/\((b_ st'').size<=1∨(b_ st'').size + x<=a₀.size))
   (Q:=fun c st''=>c=(none,())/\Sr κ rk a₀ a₀.size st''/\(b_ st'').size<=1) ?s2 ?f2 ⟨rfl,hS,.inr (by have:=hS.runs.le;simpa using this)⟩) ?p2)
  case f2 =>
   rintro c st'' ⟨rfl,hS,hl⟩;exact⟨rfl,hS,by lia⟩
  case s2 =>
   rintro x c st'' _ hx ⟨rfl,hS,hl⟩;refine aI (il ?_);refine cN (fun e=>bg ⟨rfl,hS,e⟩) fun e=>?_;have ite_le:∀(c:Prop) [Decidable c],(if c then (b_ st'').size - 2 - 1 else (b_ st'').size - 2) + 1 < (b_ st'').size:=fun c _=>by split <;> lia
   refine aI (vP h0 hS (br _) ?_ fun st2 hS2 hz _=>?_)
   ·exact ite_le _
   ·simp only[dS,aS,if_false];exact bg ⟨rfl,hS2,by lia⟩
  case p2 =>
   rintro c st'' ⟨rfl,hS,hl⟩;dsimp only;refine bg (hq st'' hS.perm hS.failed ?_);have hr:=hS.runs;cases e:(b_ st'').toList with
   |nil=>rw[e]at hr;simp only[Rn]at hr;lia
   |cons t l =>
    have:l=[]:=by have:=congrArg f9 e;simp only[fR,cx]at this;exact ik.mp (by lia)
    subst this;rw[e]at hr;obtain⟨_,_,r3,r4⟩:=hr;simp only[Rn]at r4;rw[show t.2.1=a₀.size by lia]at r3;exact r3
 case step =>
  rintro x c st' _ hx ⟨lo,rfl,h1,h3,hS⟩;dsimp only;refine cN (fun e=>?_) fun e=>?_
  ·obtain rfl:lo=a₀.size:=by lia
   exact bg ⟨rfl,hS⟩
  ·have hB:SB κ a₀ (ay st') (b_ st') lo st':=⟨hS.perm,hS.kind,hS.failed,rfl,fun _ _=>rfl⟩
   have back:∀st2,SB κ a₀ (ay st') (b_ st') lo st2->Sr κ rk a₀ lo st2:=fun st2 hB2=>⟨hB2.perm,hB2.kind,hB2.failed,by
    rw[hB2.pend];exact hS.runs.congr fun q _ q2=>hB2.keep q q2⟩
   refine aI (abA h0 (show lo + (a₀.size - lo)<=a₀.size by lia) (by lia) hB fun m st2 hB2 m1 m2 um=>?_);dsimp only;refine cN (fun c=>?_) fun c=>?_
   ·refine aI (lh (gu ⟨rfl,?_⟩));refine aI (aiO h0 (show lo + min (a₀.size - lo) (p9 a₀.size a₀.size 0)<=a₀.size by lia) (by lia) hB2 um fun st3 hB3 u3=>?_);simp only[dS,aS,if_false];have hS0:=back st3 hB3;have Rk:∀Il,Sr κ rk a₀ lo Il->(∀q,lo<=q->(ay Il)[q]?=(ay st3)[q]?)->Sr κ rk a₀ (lo + min (a₀.size - lo) (p9 a₀.size a₀.size 0)) (nX Il ((b_ Il).push (lo,min (a₀.size - lo) (p9 a₀.size a₀.size 0),0))):=fun Il h4 hk4=>h4.push (by lia) (u3.congr fun q q1 _=>hk4 q q1);refine aI (il ?_);cases cc:(b_ st3).back? with
    |none =>
     dsimp only;exact aI (j_ (bg ⟨_,rfl,by lia,by lia,Rk _ hS0 fun _ _=>rfl⟩))
    |some t =>
     obtain⟨s1,n1,p1⟩:=t;dsimp only;refine aI (eT (fw (I:=fun _ c st'=>c=(none,())/\Sr κ rk a₀ lo st'/\∀q,lo<=q->(ay st')[q]?=(ay st3)[q]?)
      (Q:=fun c st'=>c=(none,())/\Sr κ rk a₀ lo st'/\∀q,lo<=q->(ay st')[q]?=(ay st3)[q]?) ?aeJ (fun _ _ hh=>hh) ⟨rfl,hS0,fun _ _=>rfl⟩) ?aeK)
     case aeK =>
      rintro c st' ⟨rfl,hS,hk⟩;dsimp only;refine aI (j_ (aI (j_ (bg ⟨_,rfl,by lia,by lia,Rk _ (hS.alp _ ?_) hk⟩))));exact fun t=>rfl
     case aeJ =>
      rintro x c st' _ hx ⟨rfl,hS,hk⟩;refine aI (il ?_);by_cases c:(b_ st').size > 1
      ·rw[if_pos c,getElem?_pos (b_ st') ((b_ st').size - 2) (by lia)];dsimp only;refine cN (fun _=>bg ⟨rfl,hS,hk⟩) fun _=>?_;refine aI (vP h0 hS (by lia) (by lia) fun st2 hS2 _ hk2=>?_);simp only[dS,aS,if_false];exact bg ⟨rfl,hS2,fun q hq=>(hk2 q hq).trans (hk q hq)⟩
      ·rw[if_neg c];exact bg ⟨rfl,hS,hk⟩
   ·have hS0:=back st2 hB2;have Rk:∀Il,Sr κ rk a₀ lo Il->(∀q,lo<=q->(ay Il)[q]?=(ay st2)[q]?)->Sr κ rk a₀ (lo + m) (nX Il ((b_ Il).push (lo,m,0))):=fun Il h4 hk4=>h4.push (by lia) (um.congr fun q q1 _=>hk4 q q1);refine aI (il ?_);cases cc:(b_ st2).back? with
    |none =>
     dsimp only;exact aI (j_ (bg ⟨_,rfl,by lia,by lia,Rk _ hS0 fun _ _=>rfl⟩))
    |some t =>
     obtain⟨s1,n1,p1⟩:=t;dsimp only;refine aI (eT (fw (I:=fun _ c st'=>c=(none,())/\Sr κ rk a₀ lo st'/\∀q,lo<=q->(ay st')[q]?=(ay st2)[q]?)
      (Q:=fun c st'=>c=(none,())/\Sr κ rk a₀ lo st'/\∀q,lo<=q->(ay st')[q]?=(ay st2)[q]?) ?aeJ (fun _ _ hh=>hh) ⟨rfl,hS0,fun _ _=>rfl⟩) ?aeK)
     case aeK =>
      rintro c st' ⟨rfl,hS,hk⟩;dsimp only;refine aI (j_ (aI (j_ (bg ⟨_,rfl,by lia,by lia,Rk _ (hS.alp _ ?_) hk⟩))));exact fun t=>rfl
     case aeJ =>
      rintro x c st' _ hx ⟨rfl,hS,hk⟩;refine aI (il ?_);by_cases c:(b_ st').size > 1
      ·rw[if_pos c,getElem?_pos (b_ st') ((b_ st').size - 2) (by lia)];dsimp only;refine cN (fun _=>bg ⟨rfl,hS,hk⟩) fun _=>?_;refine aI (vP h0 hS (by lia) (by lia) fun st2 hS2 _ hk2=>?_);simp only[dS,aS,if_false];exact bg ⟨rfl,hS2,fun q hq=>(hk2 q hq).trans (hk q hq)⟩
      ·rw[if_neg c];exact bg ⟨rfl,hS,hk⟩
end
end Sb
namespace Sb
open PySem PySem.W PyProof.Rows So
def rkI(lt:Nat->Nat->Bool)(n i:Nat):Int:=((cn n).filter fun j=>lt j i).length
theorem qQ{α:Type}{p q:α->Bool}:∀{l:List α},(∀x∈l,p x=true->q x=true)->(l.filter p).length<=(l.filter q).length
 | [],_=>br _
 |x::l,h=>by
  have ih:=qQ (l:=l) fun y hy=>h y (.tail _ hy);have hx:=h x (.head _);rw[n8,n8];cases c:p x with
  |false =>
   simp only[aS,if_false];split
   ·simp only[cx];lia
   ·exact ih
  |true =>
   rw[hx c];simp only[if_true,cx];lia
theorem aeL{α:Type}{p q:α->Bool}:∀{l:List α}{z:α},(∀x∈l,p x=true->q x=true)->z∈l->p z=false->q z=true->(l.filter p).length < (l.filter q).length
 | [],_,_,hz,_,_=>by cases hz
 |x::l,z,h,hz,pz,qz=>by
  have ih0:=qQ (l:=l) fun y hy=>h y (.tail _ hy);have hx:=h x (.head _);rw[n8,n8];rcases bz.mp hz with rfl|hz
  ·rw[pz,qz];simp only[aS,if_false,if_true,cx];lia
  ·have ih:=aeL (l:=l) (fun y hy=>h y (.tail _ hy)) hz pz qz;cases c:p x with
   |false =>
    simp only[aS,if_false];split
    ·simp only[cx];lia
    ·exact ih
   |true =>
    rw[hx c];simp only[if_true,cx];lia
theorem alr{lt:Nat->Nat->Bool}(O:Ord lt){n i j:Nat}(hi:i < n):decide (rkI lt n i < rkI lt n j)=lt i j:=by
 unfold rkI;cases c:lt i j with
 |true =>
  refine decide_eq_true (Int.ofNat_lt.mpr (aeL (z:=i) (fun k _ hk=>?_) (fg.mpr hi) (irr O i) c));cases d:lt k j with
  |true=>rfl
  |false =>
   have h1:lt i k=false:=O.as k i hk;have h2:=O.tr j k i d h1;rw[c]at h2;cases h2
 |false =>
  refine decide_eq_false fun q=>?_;have q:=Int.ofNat_lt.mp q;have:=qQ (p:=fun k=>lt k j) (q:=fun k=>lt k i) (l:=cn n) fun k _ hk=>by
   cases d:lt k i with
   |true=>rfl
   |false =>
    have h2:=O.tr j i k c d;rw[hk]at h2;cases h2
  lia
theorem aeM{α:Type}{d:α}{l1 l2:List α}(h:l1.Perm l2):∃q:List Nat,q.Perm (cn l2.length)/\l1=q.map fun i=>l2.getD i d:=by
 induction h with
 |nil=>exact⟨[],.refl _,rfl⟩
 |cons x h ih =>
  obtain⟨q,hq,e⟩:=ih;refine⟨0::q.map (· + 1),?_,?_⟩
  ·rw[cx,oB];exact(hq.map _).cons 0
  ·rw[ck,d5,e];simp[vT]
 |swap x y l =>
  refine⟨1::0::(cn l.length).map (· + 2),?_,?_⟩
  ·rw[cx,cx,oB,oB,ck,d5];exact ie.swap 0 1 _
  ·rw[ck,ck,d5];have:l=(cn l.length).map fun i=>l.getD i d:=by
    apply k8
    ·simp
    ·intro i h1 h2;simp[h1]
   simp only[vT];rw[List.getD_cons_succ,List.getD_cons_zero,List.getD_cons_zero];congr 2
 |trans h1 h2 ih1 ih2 =>
  obtain⟨q1,p1,e1⟩:=ih1;obtain⟨q2,p2,e2⟩:=ih2;have l2:=h2.length_eq;have lq:=p2.length_eq;rw[i0]at lq;refine⟨q1.map fun i=>q2.getD i 0,?_,?_⟩
  ·refine(p1.map _).trans (ie.trans (k_ ?_) p2);apply k8
   ·simp;lia
   ·intro i h1 h2;simp only[cb,i0]at h1;simp only[tP,List.getElem_range,fE];rw[eI h2];rfl
  ·rw[e1,d5];refine o4 fun i hi=>?_;have hi':i < q2.length:=by have:=fg.mp (p1.mem_iff.mp hi);lia
   show o6 _ i d=o6 _ (o6 q2 i 0) d;rw[e2];simp only[fE,cE,eI hi',oP,oQ]
section
variable{prog:aE}{w:az}{A:a_}{E:aa->af->Prop}{s:af}
theorem aeN{lt:Nat->Nat->Bool}{κ:fI}{vs:List aa}{Q:bb->af->Prop}(O:Ord lt)(h2:2<=vs.length)(ha:apY prog w A κ vs lt s)
  (hd:∀i i',i < vs.length->i' < vs.length->vs.getD i aa.none=vs.getD i' aa.none->∀j,lt j i=lt j i')
  (h:∀st,Xc lt vs st->Q st s):ag (ah prog w) A ((sortRuns').run (ui κ (vs.toArray.zip vs.toArray) #[] 7 none)) (fun r s'=>Q r.2 s') E s:=by
 classical
 let it:Nat->ax:=fun i=>(vs.getD i aa.none,vs.getD i aa.none)
 let rk:ax->Int:=fun x=>if h:∃i,i < vs.length/\it i=x then rkI lt vs.length (xI h) else 0
 have rki:∀i,i < vs.length->rk (it i)=rkI lt vs.length i:=fun i hi=>by
  have ex:∃j,j < vs.length/\it j=it i:=⟨i,hi,rfl⟩
  show(if h:∃j,j < vs.length/\it j=it i then rkI lt vs.length (xI h) else 0)=_;rw[dif_pos ex];obtain⟨c1,c2⟩:=Classical.choose_spec ex;unfold rkI;have:=hd _ i c1 hi (congrArg Prod.fst c2);rw[show(fun j=>lt j (xI ex))=fun j=>lt j i from funext this]
 have hz:(vs.toArray.zip vs.toArray).toList=(cn vs.length).map it:=by
  apply k8
  ·simp
  ·intro i h1 h2;simp at h1;simp[it,h1]
 have hsz:(vs.toArray.zip vs.toArray).size=vs.length:=by simp
 have hA:Ax prog w A s κ rk (vs.toArray.zip vs.toArray):=by intro x y C E' hx hy hC;rw[hz]at hx hy;obtain⟨i,hi,rfl⟩:=b0.mp hx;obtain⟨j,hj,rfl⟩:=b0.mp hy;have hi:=fg.mp hi;have hj:=fg.mp hj;rw[rki i hi,rki j hj,alr O hi]at hC;exact ha i j C E' hi hj hC
 have main:=Ld (prog:=prog) (w:=w) (A:=A) (E:=E) (s:=s) (st:=ui κ (vs.toArray.zip vs.toArray) #[] 7 none) (Q:=fun _ st=>Xc lt vs st) hA rfl rfl rfl rfl (by rw[hsz];exact h2) fun st p1 p2 p3=>?_
 ·exact eD main (fun r s' ⟨e,hs⟩=>by subst e;exact h _ hs) fun _ _ e=>e
 ·obtain⟨q,hq,e⟩:=aeM (d:=it 0) (t9.mp p1);have ln:(vs.toArray.zip vs.toArray).toList.length=vs.length:=by simp
  rw[ln]at hq;have lq:=hq.length_eq;rw[i0]at lq;have qlt:∀i∈q,i < vs.length:=fun i hi=>fg.mp (hq.mem_iff.mp hi);have e':(ay st).toList=q.map it:=by rw[e];refine o4 fun i hi=>?_;rw[hz,fE,cE,List.getElem?_range (qlt i hi)];rfl
  refine⟨q.toArray,⟨by simp[lq],fun i=>?_,by simpa using hq⟩,fun i j hij hj=>?_,?_,p2⟩
  ·rw[kH];by_cases c:i < q.length
   ·have:q.toArray[i]?=some q[i]:=by simp[c]
    rw[this];exact qlt _ (dm c)
   ·have:q.toArray[i]?=none:=by simp;lia
    rw[this];show 0 < vs.length;lia
  ·have hi':i < q.length:=by lia
   have hj':j < q.length:=by lia
   have g:∀k (hk:k < q.length),R rk (ay st) k=rkI lt vs.length q[k]:=fun k hk=>by rw[<- rki _ (qlt _ (dm hk))];refine jh ?_;rw[<- h_,e',cE,eI hk];rfl
   have u:=p3 i j (by lia) (by rw[hsz];exact hj);rw[iX,iX,g i hi',g j hj']at u;have e1:q.toArray.getD i 0=q[i]:=by simp[kH,hi']
   have e2:q.toArray.getD j 0=q[j]:=by simp[kH,hj']
   rw[e1,e2,<- alr O (qlt _ (dm hj'))];exact decide_eq_false (by lia)
  ·apply oD.mp;rw[Array.toList_map,e',d5];rfl
end
end Sb
namespace So
open PySem PySem.W PyProof.Rows PySem.Calls
section
variable{prog:aE}{w:az}{A:a_}{E:aa->af->Prop}{s:af}
theorem IK:∀{ks js:List Int}{xs:List aa},ItemsAre (bE prog w) ks xs->ItemsAre (bE prog w) js xs->ks=js
 |_,_,_,.nil,.nil=>rfl
 |_,_,_,.cons h1 h2,.cons h3 h4=>by obtain⟨t,e1⟩:=lI h1;obtain⟨u,e2⟩:=lI h3;rw[e1]at e2;cases e2;rw[IK h2 h4]
theorem KeysAre.det{h:Heap}{vs:List aa}{aH:List (List Int)}(k:KeysAre prog w h vs aH):∀i i',i < vs.length->i' < vs.length->vs.getD i aa.none=vs.getD i' aa.none->∀j,jE (aH.getD j []) (aH.getD i [])=jE (aH.getD j []) (aH.getD i' []):=by intro i i' hi hi' he j;obtain⟨b,e1,o,its,n,q1,q2,q3,q4⟩:=k.2 i vs[i] (eI hi);obtain⟨b',e2,o',its',n',r1,r2,r3,r4⟩:=k.2 i' vs[i'] (eI hi');rw[fE,fE,eI hi,eI hi',oQ,oQ,e1,e2]at he;cases he;rw[q1]at r1;cases r1;rw[q3]at r3;cases r3;rw[IK q4 r4]
theorem Ea{a:ab}{vs:List aa}{aH:List (List Int)}{n:Nat}{P:k9->af->Prop}(ho:s.heap.get? a=some (eM "list" vs.toArray n))
  (hk:KeysAre prog w s.heap vs aH) (hne:∀ks∈aH,ks≠[]) (h64:vs.length < 1000)
  (h:∀(p:Array Nat),QS aH p->P (.done (.ret .none)) { s with heap:=sortedHeap s.heap a vs (kP (p.toList.map fun i=>vs.getD i aa.none)) }) :
  ag (ah prog w) A (Builtin.«list.sort» ⟨[.ref a],[]⟩) P E s:=by
 rw[list_sort_plain];have ha:a < s.heap.objs.size:=bu ho;refine ae (listItems_at ho rfl ?_);refine ae (xN ho rfl ?_ (by rw[cK,d8];lia) (eC _));obtain⟨e1,ho1⟩:∃e1,(s.heap.update a (di fun _=>#[])).get? a=some (eM "list" #[] e1):=⟨_,xS ho (fun _=>#[])⟩
 refine ae (x4 ho1 rfl ?_);refine ae (wpAny_newTuple ?_ (by show vs.length<=_;rw[d8];lia));refine ae (wpAny_newList ?_ (eC _));refine dP ?_;have ho6:(((s.heap.update a (di fun _=>#[])).push (eM "tuple" vs.toArray 0)).push (eM "list" #[] 0)).get? a=some (eM "list" #[] e1):=by rw[Heap.get?_push_ne _ _ _ (by rw[size_push',uj];exact bP (iE ha)),Heap.get?_push_ne _ _ _ (by rw[uj];exact bP ha)];exact ho1
 show ag (ah prog w) A _ P E { s with heap:=((s.heap.update a (di fun _=>#[])).push (eM "tuple" vs.toArray 0)).push (eM "list" #[] 0) };dsimp only;have hsz:vs.toArray.size=vs.length:=by simp
 have hk6:KeysAre prog w (((s.heap.update a (di fun _=>#[])).push (eM "tuple" vs.toArray 0)).push (eM "list" #[] 0)) vs aH:=hk.moved fun b o e c=>by
  refine bX _ (bX _ ?_);have:b≠a:=fun z=>by subst z;rw[ho]at e;cases e;exact absurd (aa.type.inj (show aa.type "list"=aa.type "tuple" from c)) (by decide)
  rw[lr _ _ _ _ this];exact e
 by_cases h2:vs.toArray.size < 2
 ·rw[if_pos h2,if_pos h2];refine ae (ar ?_);rw[StateT.run_pure];refine ae (ar ?_);dsimp only;refine ae (x4 ho6 rfl ?_);refine ae (xN ho6 rfl ?_ (hsz2:=by rw[Array.size_map];show(pairsOf vs).size<=_;rw[pairsOf_size,d8];lia));simp only[bne_self_eq_false,aS,if_false];have hz:aH.length < 2:=by rw[hk.1,<- hsz];exact h2
  have hq:=h (kP (cn aH.length)) (QT hz);have e:(ay (ui general' (vs.toArray.zip vs.toArray) #[] 7 none)).map (·.2)=kP ((kP (cn aH.length)).toList.map fun i=>vs.getD i aa.none):=by rw[hk.1];show(vs.toArray.zip vs.toArray).map (·.2)=_;apply oD.mp;apply tw;intro i;simp;by_cases hi:i < vs.length <;> simp[hi]
  exact ar (by rw[e];exact hq)
 ·rw[if_neg h2,if_neg h2];obtain⟨fs,ht,hl,hfi⟩:=hk6.tups hne;have h2':2<=vs.length:=by rw[<- hsz];lia
  refine ae (kat_kind (T:=.type "int") ht (by lia) (fun v hv=>?_) rfl ?_)
  ·obtain⟨i,t,rfl⟩:=hfi v hv;exact Looks.now
  ·refine ae (eD (Sb.aeN (E:=E) (Q:=fun st' s'=>s'={ s with heap:=((s.heap.update a (di fun _=>#[])).push (eM "tuple" vs.toArray 0)).push (eM "list" #[] 0) }/\Xc (fun i j=>jE (aH.getD i []) (aH.getD j [])) vs st') (anh aH) h2' hk6.asks hk6.det fun st' hs=>⟨rfl,hs⟩) ?_ fun _ _ e=>e);rintro⟨⟨⟩,st'⟩ s' ⟨rfl,p,a1,a2,a3,hf⟩;dsimp only at a3 hf ⊢;refine ae (x4 ho6 rfl ?_);rw[a3];refine ae (xN ho6 rfl ?_ (hsz2:=by simp only[cK,cb,fR,a1.sz];rw[d8];lia));rw[hf];simp only[bne_self_eq_false,aS,if_false];rw[<- hk.1]at a1 a2;exact ar (h p (aez a1 a2))
end
end So
namespace So
open PySem PySem.Spec PySem.W PyProof.Rows PySem.Calls PySem.SetTable Tb
section
variable{prog:aE}{w:az}{A:a_}{E:aa->af->Prop}{s:af}{U:ab->List Int->Prop}
def Cz(prog:aE)(w:az)(U:ab->List Int->Prop)(o:Obj)(aH:List (List Int)):Prop :=
 ∃(L:List jT) (ep:Nat) (t:bq) (f:Int×aa->List Int),o=cL L ep t/\Good t L/\L.length * 5 < t.mask * 3/\t.mask < 8000/\(t.plain=true/\t.led=!qM w)/\(∀e∈L,∃b,e.2.2=.ref b/\e.2.1=hK prog w (f e.2)/\U b (f e.2))/\(L.map fun e=>f e.2).Perm aH/\aH.Nodup
theorem bL.obj{h:Heap}{a:ab}{aH:List (List Int)}(x:bL prog w U h a aH):∃o,h.get? a=some o/\Cz prog w U o aH:=by obtain⟨L,ep,t,f,ho,g,room,mb,pl,hf,hp,nd,uu⟩:=x;refine⟨_,ho,L,ep,t,f,rfl,g,room,mb,pl,fun e he=>?_,hp,nd⟩;obtain⟨b,h1,h2,h3⟩:=hf e he;exact⟨b,h1,h3,uu e he b h1⟩
theorem Cz.at{h:Heap}{a:ab}{o:Obj}{aH:List (List Int)}(x:Cz prog w U o aH)(ho:h.get? a=some o)(hU:∀b ks,U b ks->cv (bE prog w) h ks b):bL prog w U h a aH:=by
 obtain⟨L,ep,t,f,rfl,g,room,mb,pl,hf,hp,nd⟩:=x;refine⟨L,ep,t,f,ho,g,room,mb,pl,fun e he=>?_,hp,nd,fun e he b hb=>?_⟩
 ·obtain⟨b,h1,h2,h3⟩:=hf e he;exact⟨b,h1,hU _ _ h3,h2⟩
 ·obtain⟨b',h1,h2,h3⟩:=hf e he;rw[hb]at h1;cases h1;exact h3
def Rm(U:ab->List Int->Prop)(out:List aa)(aH:List (List Int)):Prop:=out.length=aH.length/\∀(i:Nat) v,out[i]?=some v->∃b,v=.ref b/\U b (aH.getD i [])
theorem Gm{l l':List (List Int)}(p:l.Perm l'):cF l=cF l':=Dw ((fD l).trans p) (xK l)
theorem qR{vs:List aa}{aH oF:List (List Int)}{p:Array Nat}(ho:Rm U vs oF)(hp:QS oF p)(pm:oF.Perm aH):Rm U (p.toList.map fun i=>vs.getD i aa.none) (cF aH):=by
 rw[<- Gm pm,<- hp.2];refine⟨by simp,fun i v hv=>?_⟩;rw[cE]at hv;cases e:p.toList[i]? with
 |none=>rw[e]at hv;cases hv
 |some j =>
  rw[e]at hv;simp at hv;have hj:j < oF.length:=by have:j∈cn oF.length:=hp.1.mem_iff.mp (kg e);simpa using this
  have hj':j < vs.length:=by rw[ho.1];exact hj
  obtain⟨b,q1,q2⟩:=ho.2 j vs[j] (eI hj');refine⟨b,?_,?_⟩
  ·rw[<- hv];simp[hj',q1]
  ·have:((p.toList.map fun i=>oF.getD i []).getD i [])=oF.getD j []:=by rw[fE,cE,e];rfl
   rw[this];exact q2
theorem uF{x:aa}{vs:List aa}{aH:List (List Int)}{Q:aa->af->Prop}
  (asw:∀(Q':List aa->af->Prop) (E':aa->af->Prop),(∀h' tk,(∀b o,s.heap.get? b=some o->h'.get? b=some o)->s.heap.objs.size<=h'.objs.size->Q' vs { s with heap:=h',toks:=tk })->ag (ah prog w) A.in1 (collect x) Q' E' s)
  (hk:KeysAre prog w s.heap vs aH) (hne:∀ks∈aH,ks≠[]) (h64:vs.length < 1000)
  (h:∀h' tk l n p,(∀b o,s.heap.get? b=some o->h'.get? b=some o)->s.heap.objs.size<=l->QS aH p->h'.get? l=some (eM "list" (kP (p.toList.map fun i=>vs.getD i aa.none)) n)->Q (.ref l) { s with heap:=h',toks:=tk }) :
  ag (ah prog w) A (call (.builtin "sorted") [x]) Q E s:=by
 refine Calls.call_function_entry kind_sorted plain_sorted entry_sorted (args_sorted1 _) ?_;unfold Builtin.«sorted»;refine ae (m:=checkCount "sorted" 1 1 _) (ar ?_);refine ae (asw _ _ fun h1 tk k1 z1=>?_);refine ae (wpAny_newList ?_ (by rw[d8];lia));have hoL:(h1.push (eM "list" vs.toArray 0)).get? h1.objs.size=some (eM "list" vs.toArray 0):=dc _ rfl;have k2:∀b o,s.heap.get? b=some o->(h1.push (eM "list" vs.toArray 0)).get? b=some o:=fun b o e=>bX _ (k1 b o e);show ag _ _ _ _ _ { s with heap:=h1.push (eM "list" vs.toArray 0),toks:=tk };refine ae (dP (gT slot_list_sort ⟨_,hoL,rfl⟩ entry_list_sort (Ea hoL (hk.moved fun b o e _=>k2 b o e) hne h64 fun p hp=>⟨_,rfl,?_⟩) (args_list_sort _)));refine ar ⟨_,rfl,?_⟩;unfold sortedHeap;have ne1:∀b o,s.heap.get? b=some o->b≠h1.objs.size:=fun b o e=>bP (eJ (bu e) z1);have g0:=bX (eM "list" #[] 0) (bX (eM "tuple" vs.toArray 0) (xS hoL (fun _=>#[])));refine h _ _ _ _ p (fun b o e=>?_) z1 hp (xS g0 (fun _=>kP (p.toList.map fun i=>vs.getD i aa.none)));rw[lr _ _ _ _ (ne1 b o e)];refine bX _ (bX _ ?_);rw[lr _ _ _ _ (ne1 b o e)];exact k2 b o e
theorem Xh{D:ab}{aH:List (List Int)}{Q:aa->af->Prop}(hh:A.handled=none)(hS:bL prog w U s.heap D aH)(hne:∀ks∈aH,ks≠[])(h64:aH.length < 1000)
  (h:∀h' tk l n (out:List aa),(∀b o,s.heap.get? b=some o->h'.get? b=some o)->s.heap.objs.size<=l->Rm U out (cF aH)->h'.get? l=some (eM "list" out.toArray n)->Q (.ref l) { s with heap:=h',toks:=tk }) :
  ag (ah prog w) A (call (.builtin "sorted") [.ref D]) Q E s:=by
 obtain⟨L,ep,t,f,ho,g,room,mb,pl,hf,hp,nd,uu⟩:=hS;have hlen:L.length=aH.length:=by have:=hp.length_eq;simpa using this
 have h7:=g.m7;have gs:Goes w L t:=⟨g.lies (by lia),by lia,pl.1,pl.2⟩
 have op:=uE w D ep L;have osz:(fu w D ep L).toList.length=L.length:=by rw[fR,jt]
 have kp:((fu w D ep L).toList.map f).Perm aH:=((op.map f).trans (k_ (by rw[d5];rfl))).trans hp;have each:∀x∈(fu w D ep L).toList,∃b,x.2=.ref b/\cv (bE prog w) s.heap (f x) b/\U b (f x):=fun x hx=>by obtain⟨e,he,rfl⟩:=b0.mp (op.mem_iff.mp hx);obtain⟨b,h1,h2,h3⟩:=hf e he;exact⟨b,h1,h2,uu e he b h1⟩
 have at_:∀(i:Nat) v,((fu w D ep L).toList.map (·.2))[i]?=some v->∃x,x∈(fu w D ep L).toList/\v=x.2/\((fu w D ep L).toList.map f).getD i []=f x:=fun i v hv=>by
  rw[cE]at hv;cases e:(fu w D ep L).toList[i]? with
  |none=>rw[e]at hv;cases hv
  |some x =>
   rw[e]at hv;refine⟨x,kg e,(dq hv).symm,?_⟩;rw[fE,cE,e];rfl
 refine uF (vs:=(fu w D ep L).toList.map (·.2)) (aH:=(fu w D ep L).toList.map f) (fun Q' E' hq=>?_) ⟨by simp,fun i v hv=>?_⟩ (fun ks hks=>?_) (by rw[cb,osz];lia) fun h' tk l n p k hl hsp hg=>?_
 ·exact Ao (by simpa using hh) ho gs (by lia) hq
 ·obtain⟨x,hx,rfl,e⟩:=at_ i v hv;obtain⟨b,h1,h2,h3⟩:=each x hx;exact⟨b,h1,by rw[e];exact h2⟩
 ·exact hne ks (kp.mem_iff.mp hks)
 ·refine h h' tk l n _ k hl (qR ⟨by simp,fun i v hv=>?_⟩ hsp kp) hg;obtain⟨x,hx,rfl,e⟩:=at_ i v hv;obtain⟨b,h1,h2,h3⟩:=each x hx;exact⟨b,h1,by rw[e];exact h3⟩
end
end So
namespace Vl
open PySem PySem.Spec L2 So Tb
def Xi(P:aE)(w:az)(U:ab->List Int->Prop)(a:ab)(aH:List (List Int)):Heap->Prop:=fun h=>∃o,h.get? a=some o/\Cz P w U o aH
theorem Cz.mono{P:aE}{w:az}{U U':ab->List Int->Prop}{o:Obj}{aH:List (List Int)}(x:Cz P w U o aH)(h:∀b ks,U b ks->U' b ks):Cz P w U' o aH:=by obtain⟨L,ep,t,f,e,g,room,mb,pl,hf,r⟩:=x;exact⟨L,ep,t,f,e,g,room,mb,pl,fun e he=>let ⟨b,h1,h2,h3⟩:=hf e he;⟨b,h1,h2,h _ _ h3⟩,r⟩
section
variable{X:Cx}{B:Bs}{W:Wi}
theorem vQ{pins:List (ab×Obj)}{σ:St}{H:Hp}{s:af}{b:ab}{ks:List Int}(I:Inv X pins σ H s)(h:ni X.K H b (ks.map V.int)):cv (bE X.prog X.w) s.heap ks b:=by
 obtain⟨its,r,⟨o,ho,hc,n,hd⟩,hz⟩:=I.tuple h;refine⟨o,its.toArray,n,ho,hc,hd,?_⟩;show ItemsAre _ ks its;clear hd h hz
 induction ks generalizing its with
 |nil=>cases r;exact .nil
 |cons k ks ih =>
  cases r with
  |cons r1 r2 =>
   obtain⟨t,rfl⟩:=r1;exact .cons (intKind_is X.prog X.w k t) (ih _ r2)
def als(P:aE)(w:az)(K:aw):List V->Hp->VK->Prop:=fun xs H Q=>∃(p:ab) (ys:List V) (aH:List (List Int)) (U:ab->List Int->Prop),xs=[.ref p]/\(pO K H p ys∨ni K H p ys)/\aH.length=ys.length/\(bT aH).length < 1000 /\
 (∀(i:Nat) v,ys[i]?=some v->∃b,v=.ref b/\ni K H b ((aH.getD i []).map V.int)/\U b (aH.getD i []))/\∀l,H l=none->Q (.ref l) (upd H l (.ext (Xi P w U l (bT aH))))
theorem Vals.get'{xs:List V}{us:List aa}(r:Vals xs us){i:Nat}{u:aa}(h:us[i]?=some u):∃x,xs[i]?=some x/\RelV x u:=by
 cases e:xs[i]? with
 |none=>have:=r.none_of e;rw[this]at h;cases h
 |some x=>obtain⟨u',h1,h2⟩:=r.get e;rw[h]at h1;cases h1;exact⟨x,rfl,h2⟩
theorem abB(hc:X.calm=true)(hu:X.A.units + 8 < be):gw X (.type "set") (als X.prog X.w X.K):=by
 intro pins s σ H xs us Q I r h;obtain⟨p,ys,aH,U,rfl,hs,hlen,hz,hk,q⟩:=h;obtain⟨u,rfl,rx⟩:=r.one;cases rx;obtain⟨its,rv,hseq⟩:∃its:List aa,Vals ys its/\(s.heap.IsList p its.toArray∨s.heap.IsTuple p its.toArray):=by
  rcases hs with hs|hs
  ·obtain⟨its,rv,pl,_⟩:=I.list hs;exact⟨its,rv,.inl pl.isList⟩
  ·obtain⟨its,rv,pl,_⟩:=I.tuple hs;exact⟨its,rv,.inr pl⟩
 have hl:=rv.length;refine KH (U:=U) (aH:=aH) (I.ok.hd hc) hu hseq hz (fun i v hv=>?_) (by rw[cK];lia) fun h' tk k hS=>?_
 ·obtain⟨x,h1,h2⟩:=Vals.get' rv (i:=i) (u:=v) (by simpa using hv);obtain⟨b,rfl,h3,h4⟩:=hk i x h1;exact⟨b,h2,vQ I h3,h4⟩
 ·refine⟨.ref s.heap.objs.size,_,I.laid (t':=tk) k (br _) (show dY X.prog X.w _ h' _ (.ext (Xi X.prog X.w U s.heap.objs.size (bT aH))) from⟨So.bL.obj hS,?_,?_⟩),rfl,q _ I.fresh⟩
  ·obtain⟨o,ho,_⟩:=So.bL.obj hS;exact⟨o,ho⟩
  ·rintro h1 h2 ⟨o,ho,x⟩ hk';exact⟨o,hk' o ho,x⟩
def aiU(P:aE)(w:az)(K:aw):List V->Hp->VK->Prop:=fun xs H Q=>∃(p:ab) (aH:List (List Int)) (U:ab->List Int->Prop),xs=[.ref p]/\H p=some (.ext (Xi P w U p aH))/\(∀b ks,U b ks->ni K H b (ks.map V.int))/\(∀ks∈aH,ks≠[])/\aH.length < 1000 /\
 ∀l ys,H l=none->ys.length=(cF aH).length->(∀(i:Nat) v,ys[i]?=some v->∃b,v=.ref b/\U b ((cF aH).getD i []))->Q (.ref l) (upd H l (.lst ys))
theorem Le(hc:X.calm=true):gw X (.builtin "sorted") (aiU X.prog X.w X.K):=by
 intro pins s σ H xs us Q I r h;obtain⟨p,aH,U,rfl,hp,hU,hne,h64,q⟩:=h;obtain⟨u,rfl,rx⟩:=r.one;cases rx;obtain⟨⟨o,ho,x⟩,_⟩:=I.hok _ _ hp;have hS:=So.Cz.at x ho (fun b ks hb=>vQ I (hU b ks hb));refine So.Xh (I.ok.hd hc) hS hne h64 fun h' tk l n out k hl ho hg=>?_;have Ro:H l=none:=I.hok.fresh hl;have hv:∃ys:List V,Vals ys out/\ys.length=(cF aH).length/\∀(i:Nat) v,ys[i]?=some v->∃b,v=.ref b/\U b ((cF aH).getD i []):=by
  refine⟨out.map fun v=>match v with|.ref b=>V.ref b|_=>V.non,?_,by simp[ho.1],fun i v hv=>?_⟩
  ·have:∀v∈out,∃b,v=aa.ref b:=fun v hv=>by obtain⟨i,hi⟩:=ky.mp hv;obtain⟨b,e,_⟩:=ho.2 i v hi;exact⟨b,e⟩
   clear ho hg
   induction out with
   |nil=>exact .nil
   |cons a out ih =>
    obtain⟨b,rfl⟩:=this a (.head _);exact .cons rfl (ih fun v hv=>this v (.tail _ hv))
  ·rw[cE]at hv;cases e:out[i]? with
   |none=>rw[e]at hv;cases hv
   |some v' =>
    rw[e]at hv;obtain⟨b,rfl,h2⟩:=ho.2 i v' e;exact⟨b,(dq hv).symm,h2⟩
 obtain⟨ys,rv,yl,yv⟩:=hv;have e0:s.heap.objs.size<=l:=hl;refine⟨.ref l,_,I.laid (t':=tk) k hl (show dY X.prog X.w _ h' _ (.lst ys) from⟨?_,out,n,rv,hg⟩),rfl,q l ys Ro yl yv⟩;have:(cF aH).length=aH.length:=(fD aH).length_eq;rw[yl,this,d8];lia
def jL:List D->Option (List Int)
 | []=>some []
 | .int i::ds=>(jL ds).map (i::·)
 |_=>none
def jW:List D->Option (List (List Int))
 | []=>some []
 | .tup ds::es=>match jL ds with|some k=>(jW es).map (k::·)|none=>none
 |_=>none
def yT(ks:List Int):D:=.tup (ks.map .int)
theorem IV(ks:List Int):jL (ks.map .int)=some ks:=by
 induction ks with
 |nil=>rfl
 |cons k ks ih=>simp[jL,ih]
theorem xP:∀{ds:List D}{ks:List Int},jL ds=some ks->ds=ks.map .int
 | [],ks,h=>by simp[jL]at h;subst h;rfl
 | .int i::ds,ks,h=>by
  simp only[jL]at h;cases e:jL ds with
  |none=>rw[e]at h;cases h
  |some k=>rw[e]at h;simp at h;subst h;rw[xP e];rfl
 | .non::ds,ks,h=>by simp[jL]at h
 | .bl _::ds,ks,h=>by simp[jL]at h
 | .str _::ds,ks,h=>by simp[jL]at h
 | .tup _::ds,ks,h=>by simp[jL]at h
 | .lst _::ds,ks,h=>by simp[jL]at h
 | .oG _ _::ds,ks,h=>by simp[jL]at h
 | .lE _ _::ds,ks,h=>by simp[jL]at h
theorem uG(aH:List (List Int)):jW (aH.map yT)=some aH:=by
 induction aH with
 |nil=>rfl
 |cons k aH ih=>simp[jW,yT,IV]at ih ⊢;exact ih
theorem sS:∀{ds:List D}{aH:List (List Int)},jW ds=some aH->ds=aH.map yT
 | [],ks,h=>by simp[jW]at h;subst h;rfl
 | .tup es::ds,ks,h=>by
  simp only[jW]at h;cases e:jL es with
  |none=>rw[e]at h;cases h
  |some k =>
   rw[e]at h;cases e2:jW ds with
   |none=>rw[e2]at h;cases h
   |some k2=>rw[e2]at h;simp at h;subst h;rw[sS e2,xP e];rfl
 | .int i::ds,ks,h=>by simp[jW]at h
 | .non::ds,ks,h=>by simp[jW]at h
 | .bl _::ds,ks,h=>by simp[jW]at h
 | .str _::ds,ks,h=>by simp[jW]at h
 | .lst _::ds,ks,h=>by simp[jW]at h
 | .oG _ _::ds,ks,h=>by simp[jW]at h
 | .lE _ _::ds,ks,h=>by simp[jW]at h
theorem mO{K:aw}{G:Hp}:∀{ks:List Int}{vs:List V},bN K G (ks.map .int) vs->vs=ks.map V.int
 | [],vs,r=>bx.mp r
 |k::ks,vs,r=>by obtain⟨v,vs',rfl,r1,r2⟩:=aQ.mp r;rw[aR.mp r1,mO r2];rfl
theorem Eb{K:aw}{G:Hp}{ks:List Int}{v:V}:Rep K G (yT ks) v↔∃b,v=.ref b/\UG K G b ks:=by
 unfold yT UG;constructor
 ·intro h;obtain⟨a,vs,rfl,q,r⟩:=bD.mp h;rw[mO r]at q;exact⟨a,rfl,q⟩
 ·rintro⟨b,rfl,q⟩;exact bD.mpr ⟨b,_,rfl,q,yQ ks⟩
theorem zc{K:aw}{G:Hp}{aH:List (List Int)}{vs:List V}(r:bN K G (aH.map yT) vs):aH.length=vs.length/\∀(i:Nat) v,vs[i]?=some v->∃b,v=.ref b/\UG K G b (aH.getD i []):=by
 refine⟨by have:=r.length;simpa using this,fun i v hv=>?_⟩;obtain⟨d,h1,h2⟩:=r.get' hv;rw[cE]at h1;cases e:aH[i]? with
 |none=>rw[e]at h1;cases h1
 |some ks =>
  rw[e]at h1;cases h1;obtain⟨b,q1,q2⟩:=Eb.mp h2;exact⟨b,q1,by rw[fE,e];exact q2⟩
theorem nu{K:aw}{G:Hp}:∀{aH:List (List Int)}{vs:List V},vs.length=aH.length->(∀(i:Nat) v,vs[i]?=some v->∃b,v=.ref b/\UG K G b (aH.getD i []))->bN K G (aH.map yT) vs
 | [],vs,h,_=>bx.mpr (ik.mp h)
 |k::aH,[],h,_=>by cases h
 |k::aH,v::vs,h,a=>by refine aQ.mpr ⟨v,vs,rfl,Eb.mpr (a 0 v rfl),nu (by simpa using h) fun i u hu=>?_⟩;exact a (i + 1) u hu
def aeO(P:aE)(w:az)(K:aw)(W:Wi)(σ:St)(G H:Hp)(r:Rs (List (List Int)))(Q:VK):Prop :=
 match r with
 | .ok aH=>∀a H' G',Ext G H G' H'->H a=none->H' a=some (.ext (Xi P w (UG K G') a aH))->Q (.ref a) H'
 | .ex c n=>∀H' G',Ext G H G' H'->W c n σ H'
 | .no=>False
def tK(P:aE)(w:az)(K:aw)(B:Bs)(W:Wi)(f:aK->Rs (List (List Int))):TE:=fun σ H Q=>∃ρ G,SR K B σ H ρ G/\aeO P w K W σ G H (f ρ) Q
def SK(X:Cx)(B:Bs)(W:Wi)(e:ai)(f:aK->Rs (List (List Int))):Prop:=PE X e (tK X.prog X.w X.K B W f)
def Ec:D->Rs (List (List Int))
 | .lst ds=>match jW ds with|some aH=>if (bT aH).length < 1000 then .ok aH else .no|none=>.no
 | .tup ds=>match jW ds with|some aH=>if (bT aH).length < 1000 then .ok aH else .no|none=>.no
 |_=>.no
def fK(f:aK->Rs D):aK->Rs (List (List Int)):=fun ρ=>(f ρ).bind fun d=>(Ec d).bind fun aH=>.ok (bT aH)
theorem aan{G H:Hp}(gh:Same G H)(tp:∀a xs,H a=some (.tup xs)->G a=some (.tup xs)){p:ab}{φ:Heap->Prop}(hp:H p=none):Ext G H G (upd H p (.ext φ)) where
 gg:=.refl _
 hh:=fun b o e=>by rw[bC (bH e hp)];exact e
 gh:=fun b o e=>by rw[bC (bH (gh _ _ e) hp)];exact gh _ _ e
 tp:=fun b ys e=>by
  by_cases q:b=p
  ·subst q;rw[bF]at e;cases e
  ·rw[bC q]at e;exact tp _ _ e
 nw:=fun b o e n=>n
theorem Xj{e:ai}{p pos:Pos}{f:aK->Rs D}(hc:X.calm=true) (hu:X.A.units + 8 < be) (hm:X.mg "set"=none) (he:SE X B W e f) (hg:Gl X "set":=by rfl) (hst:bo [e] X.env=[(false,ba e X.env)]:=by rfl) :
  SK X B W (.Call (.Name "set" p) [e] [] pos) (fK f):=by
 refine PE.imp (uo (abB hc hu) hg hm PyProof.Rows.boot_set (iC he jX hst) (by decide) (by decide) hst rfl) fun σ H Q h=>?_;obtain⟨ρ,G,s,p⟩:=h;refine⟨ρ,G,s,?_⟩;unfold fK at p;cases e1:f ρ with
 |ok d =>
  rw[e1]at p;have p':aeO X.prog X.w X.K W σ G H ((Ec d).bind fun aH=>.ok (bT aH)) Q:=p;intro v H' G' x r;have dZ:∀(a:ab) (vs:List V) (aH:List (List Int)),v=.ref a->(pO X.K H' a vs∨ni X.K H' a vs)->bN X.K G' (aH.map yT) vs->(bT aH).length < 1000->aeO X.prog X.w X.K W σ G H (.ok (bT aH)) Q->als X.prog X.w X.K [v] H' Q:=by
   intro a vs aH ea hs rr hz pp;obtain⟨hl,hk⟩:=zc rr;refine⟨a,vs,aH,UG X.K G',by rw[ea],hs,hl,hz,fun i u hu'=>?_,fun l hl'=>?_⟩
   ·obtain⟨b,q1,q2⟩:=hk i u hu';exact⟨b,q1,Same.fW x.gh q2,q2⟩
   ·exact pp l _ G' (x.trans (aan x.gh x.tp hl')) (by cases e:H l with|none=>rfl|some o=>have:=x.hh _ _ e;rw[hl']at this;cases this) bF
  unfold Ec at p';split at p'
  ·rename_i ds;split at p'
   ·rename_i aH ek;by_cases hz:(bT aH).length < 1000
    ·rw[if_pos hz]at p';obtain⟨a,vs,rfl,q,rr⟩:=aY.mp r;have hl:=rr.length;rw[sS ek]at rr;exact dZ a vs aH rfl (.inl (x.gh.seq q)) rr hz p'
    ·rw[if_neg hz]at p';exact p'.elim
   ·exact p'.elim
  ·rename_i ds;split at p'
   ·rename_i aH ek;by_cases hz:(bT aH).length < 1000
    ·rw[if_pos hz]at p';obtain⟨a,vs,rfl,q,rr⟩:=bD.mp r;have hl:=rr.length;rw[sS ek]at rr;exact dZ a vs aH rfl (.inr (Same.fW x.gh q)) rr hz p'
    ·rw[if_neg hz]at p';exact p'.elim
   ·exact p'.elim
  ·exact p'.elim
 |ex c n=>rw[e1]at p;exact p
 |no=>rw[e1]at p;exact p
instance (aH:List (List Int)):Decidable (∀ks∈aH,ks≠[]):=inferInstance
def vR:List (List Int)->Rs D:=fun aH=>if (∀ks∈aH,ks≠[])/\aH.length < 1000 then .ok (.lst ((cF aH).map yT)) else .no
def pH(f:aK->Rs (List (List Int))):aK->Rs D:=fun ρ=>(f ρ).bind vR
theorem Xk{e:ai}{p pos:Pos}{f:aK->Rs (List (List Int))}(hc:X.calm=true) (hm:X.mg "sorted"=none) (he:SK X B W e f) (hg:Gl X "sorted":=by rfl) (hst:bo [e] X.env=[(false,ba e X.env)]:=by rfl) :
  SE X B W (.Call (.Name "sorted" p) [e] [] pos) (pH f):=by
 refine PE.imp (wN (Le hc) hg hm uk (iC he jX hst) (by decide) (by decide) hst rfl) fun σ H Q h=>?_;obtain⟨ρ,G,s,p⟩:=h;refine⟨ρ,G,s,?_⟩;unfold pH at p;cases e1:f ρ with
 |ok aH =>
  rw[e1]at p;intro a H' G' x _ ha;have p':Post X.K W σ G H (vR aH) Q:=p;unfold vR at p';by_cases hc':(∀ks∈aH,ks≠[])/\aH.length < 1000
  ·rw[if_pos hc']at p';refine⟨a,aH,UG X.K G',rfl,ha,fun b ks hb=>Same.fW x.gh hb,hc'.1,hc'.2,fun l ys hl hy hv=>?_⟩;have x2:=jF (xs:=ys) x.gh x.tp hl;refine p' _ _ _ (x.trans x2) (aY.mpr ⟨l,ys,rfl,.of bF,?_⟩);exact(nu hy hv).mono x2.gg
  ·rw[if_neg hc']at p';exact p'.elim
 |ex c n=>rw[e1]at p;exact p
 |no=>rw[e1]at p;exact p
end
def Rp(a b:List (List Int)):List (List Int):=a.filter fun x=>!decide (x∈b)
theorem Ed{a b:List (List Int)}{x:List Int}:x∈Rp a b↔x∈a/\x∉b:=by unfold Rp;rw[e_];simp
section
variable{X:Cx}{B:Bs}{W:Wi}
theorem aeP{pins:List (ab×Obj)}{σ:St}{H:Hp}{s:af}{p:ab}{a:List (List Int)}{U1 U:ab->List Int->Prop}(I:Inv X pins σ H s)(h:H p=some (.ext (Xi X.prog X.w U1 p a)))(u:∀c ks,U1 c ks->U c ks)(hU:∀c ks,U c ks->ni X.K H c (ks.map V.int)):bL X.prog X.w U s.heap p a:=by obtain⟨⟨o,ho,x⟩,_⟩:=I.hok _ _ h;exact So.Cz.at (Cz.mono x u) ho fun b ks hb=>vQ I (hU b ks hb)
def COr(a b:List (List Int)):Prop:=a.length + b.length < 900
def Xl(a b:List (List Int)):Prop:=a.length < 900/\b.length < 900
def aqd(a b:List (List Int)):Prop:=a.length < 900/\b.length < 900/\(b=[]∨¬a.length / 4 > b.length)
instance (a b:List (List Int)):Decidable (COr a b):=by unfold COr;exact inferInstance
instance (a b:List (List Int)):Decidable (Xl a b):=by unfold Xl;exact inferInstance
instance (a b:List (List Int)):Decidable (aqd a b):=by unfold aqd;exact inferInstance
def gK(C:List (List Int)->List (List Int)->Prop)[∀a b,Decidable (C a b)](g:List (List Int)->List (List Int)->List (List Int)):List (List Int)->List (List Int)->Rs (List (List Int)):=fun a b=>if C a b then .ok (g a b) else .no
def fKK(g:List (List Int)->List (List Int)->Rs (List (List Int)))(fa fb:aK->Rs (List (List Int))):aK->Rs (List (List Int)):=fun ρ=>(fa ρ).bind fun a=>(fb ρ).bind fun b=>g a b
end
end Vl
namespace Vl
open PySem PySem.Spec L2
def abC(i:Nat)(fs:aK->Rs (List D)):aK->Ou:=fun ρ=>oR (fs ρ) ρ fun ds=>if ds.length<=1000 then .nx (ρ.set i (.ow ds)) else .no
def Xm(i:Nat)(f:aK->Rs D):aK->Ou:=fun ρ=>match ρ[i]? with|some (.ow ds)=>oR (f ρ) ρ fun d=>if ds.length < 1000000 then .nx (ρ.set i (.ow (ds++[d]))) else .no|_=>.no
def Gn(i:Nat)(g:aK->Ou):aK->Ou:=fun ρ=>g (Ak i ρ)
section
variable{X:Cx}{K:aw}{B:Bs}{W:Wi}{σ:St}{G H:Hp}{ρ:aK}
theorem aeQ(i:Nat){x:Str}{es:List ai}{pos pos' lp:Pos}{f:aK->Rs (List D)}(hN:X.N.Nodup)(he:SA X B W es f)(hi:X.N[i]?=some x:=by rfl)(hx:Wm X.env.scope x:=by first|exact Or.inl rfl|exact Or.inr rfl)(hs:fm (.List es lp) (some (.Name x pos')) pos.line X.env=pure false:=by rfl)(hf:X.fn x=true∨X.env.scope.names.lookup x=some .local:=by first|exact .inl rfl|exact .inr rfl|assumption) :
  SS X B W (.Assign [.Name x pos'] (.List es lp) pos) (abC i f):=amM hN hi hx he hs hf
theorem anm(i:Nat) {x:Str}{e:ai}{pos p1 p2 cp:Pos}{f:aK->Rs D}(he:SE X B W e f) (hN:X.N[i]?=some x:=by rfl) (hv:Vis X.env.scope x:=by first|exact Or.inl rfl|exact Or.inr (Or.inl rfl)|exact Or.inr (Or.inr rfl)) (hd:(x == ("__debug__":Str))=false:=by decide)
  (hcd:(x == ("__classdict__":Str))=false:=by decide) (hst:bo [e] X.env=[(false,ba e X.env)]:=by rfl)
  (hbase:k0 (.Name x p1) "append" X.env (ba (.Name x p1) X.env)=ba (.Name x p1) X.env:=by rfl)
  (hfew:((d6 cp (bo [e] X.env)).all (fun x=>!x.1) && (ja cp (jb [] X.env)).all (fun x=>x.1.isSome)
   && decide (([e]:List ai).length + ([]:List kd).length + (if ([]:List kd).isEmpty then 0 else 1) < 30))=true:=by rfl)
  (hline:(p2.endLine == cp.line)=true:=by rfl) (hplain:(d6 cp (bo [] X.env)).any (·.1)=false:=by rfl)
  (hs:fm (.Call (.Attribute (.Name x p1) "append" p2) [e] [] cp) none pos.line X.env=pure false:=by rfl) :
  SS X B W (.Expr (.Call (.Attribute (.Name x p1) "append" p2) [e] [] cp) pos) (Xm i f) :=
 abk (pe:=adt x5 PySem.F.slot_list_append PySem.F.type_list_append Ie (nH hN hv hd hcd) (iC he jX hst) hbase hfew hline hst hplain) (nH hN hv hd hcd) he hst hs
theorem Lf(i:Nat){st:List bj}{g:aK->Ou}(h:yS X B W st g):yS X B W st (Gn i g):=air i h
theorem nW{e:ai}{p pos:Pos}{fa:aK->Rs D}(hm:X.mg "tuple"=none) (ha:SE X B W e fa) (hg:Gl X "tuple":=by rfl) (he:bo [e] X.env=[(false,ba e X.env)]:=by rfl):SE X B W (.Call (.Name "tuple" p) [e] [] pos) (fA (ao fa aU) jY) :=
 Ih Gf adJ hg hm PyProof.Rows.boot_tuple (ak ha aJ he) (by decide) (by decide) he rfl
def zf:List D->Rs D
 | [.lst ds]=>.ok (.lst ds)
 | [.tup ds]=>.ok (.lst ds)
 |_=>.no
theorem aeR:pQ K (fun xs H Q=>∃p ys,xs=[.ref p]/\(pO K H p ys∨ni K H p ys)/\∀l,H l=none->Q (.ref l) (upd H l (.lst ys))) zf:=by
 intro B W σ ρ G H ds vs Q s r p;unfold zf at p;split at p
 ·rename_i ds;obtain⟨v,vs',rfl,r1,r2⟩:=aQ.mp r;obtain⟨a,us,rfl,q,rr⟩:=aY.mp r1;rw[bx.mp r2];refine⟨a,us,rfl,.inl (s.en.gh.seq q),fun c hc=>?_⟩;have x:=jF (xs:=us) s.en.gh s.en.tp hc;exact p _ _ _ x (aY.mpr ⟨c,us,rfl,.of bF,rr.mono x.gg⟩)
 ·rename_i ds;obtain⟨v,vs',rfl,r1,r2⟩:=aQ.mp r;obtain⟨a,us,rfl,q,rr⟩:=bD.mp r1;rw[bx.mp r2];refine⟨a,us,rfl,.inr (Same.fW s.en.gh q),fun c hc=>?_⟩;have x:=jF (xs:=us) s.en.gh s.en.tp hc;exact p _ _ _ x (aY.mpr ⟨c,us,rfl,.of bF,rr.mono x.gg⟩)
 ·exact p.elim
theorem aiV{e:ai}{p pos:Pos}{fa:aK->Rs D}(hm:X.mg "list"=none) (ha:SE X B W e fa) (hg:Gl X "list":=by rfl) (he:bo [e] X.env=[(false,ba e X.env)]:=by rfl):SE X B W (.Call (.Name "list" p) [e] [] pos) (fA (ao fa aU) zf) :=
 Ih wO aeR hg hm x6 (ak ha aJ he) (by decide) (by decide) he rfl
def aqf:List D->Rs D
 | [.int i]=>.ok (.int i)
 | [.bl b]=>.ok (.int (if b then 1 else 0))
 |_=>.no
def vh:D->Bool
 | .non=>true
 |_=>false
def aeS:D->D->Rs D:=fun x y=>match y with|.non=>.ok (.bl (vh x))|_=>.no
def Ef:D->D->Rs D:=fun x y=>match y with|.non=>.ok (.bl (!vh x))|_=>.no
theorem IW{x:D}{v:V}(r:Rep K G x v):decide (v=.non)=vh x:=by
 cases x with
 |non=>rw[bZ.mp r];rfl
 |bl b=>rw[bQ.mp r];rfl
 |int b=>rw[aR.mp r];rfl
 |str b=>rw[cu.mp r];rfl
 |tup b=>obtain⟨a,vs,rfl,_⟩:=bD.mp r;rfl
 |lst b=>obtain⟨a,vs,rfl,_⟩:=aY.mp r;rfl
 |oG c n=>obtain⟨a,vs,rfl,_⟩:=JT.mp r;rfl
 |lE c n=>obtain⟨a,U,cj,rfl,_⟩:=uw.mp r;rfl
theorem aiW:Wy K (fun x y H Q=>y=.non/\Q (.bl (decide (x=.non))) H) aeS:=by
 intro B W σ ρ G H x y v u Q s rx ry p;unfold aeS at p;split at p
 ·refine⟨bZ.mp ry,?_⟩;rw[IW rx];exact Post.ok s p (bQ.mpr rfl)
 ·exact p.elim
theorem Rq:Wy K (fun x y H Q=>y=.non/\Q (.bl (!decide (x=.non))) H) Ef:=by
 intro B W σ ρ G H x y v u Q s rx ry p;unfold Ef at p;split at p
 ·refine⟨bZ.mp ry,?_⟩;rw[IW rx];exact Post.ok s p (bQ.mpr rfl)
 ·exact p.elim
variable{a b:ai}{pos:Pos}{fa fb:aK->Rs D}
theorem aiX(ha:SE X B W a fa)(hb:SE X B W b fb)(hm:iA .IsNot b=false:=by rfl):SE X B W (.Compare a [.IsNot] [b] pos) (bJ Ef fa fb):=Wz Zy Rq ha hb hm
theorem ano(ha:SE X B W a fa)(hb:SE X B W b fb)(hm:iA .Is b=false:=by rfl):ST X B W (.Compare a [.Is] [b] pos) (fT (bJ aeS fa fb)):=qD amj aiW ha hb hm
theorem aiY(ha:SE X B W a fa)(hb:SE X B W b fb)(hm:iA .IsNot b=false:=by rfl):ST X B W (.Compare a [.IsNot] [b] pos) (fT (bJ Ef fa fb)):=qD Zy Rq ha hb hm
def inD(x:D)(ds:List D):Bool:=ds.any fun d=>qC d x
def aqg(K:aw)(neg:Bool):R2:=fun x y H Q=>∃d p ys ds,y=.ref p/\(pO K H p ys∨ni K H p ys)/\Rep K H d x/\bN K H ds ys/\cR d<=7/\gB ds<=7/\Q (.bl (if neg then !inD d ds else inD d ds)) H
open Classical in
theorem alu{pins:List (ab×Obj)}{s:af}{A:a_}{x:V}{v:aa}{d:D}(I:Inv X pins σ H s)(hu:A.units + 7 < be)(rx:RelV x v)(rd:Rep X.K H d x)(hd:cR d<=7):∀{ds:List D}{ys:List V}{its:List aa},Vals ys its->bN X.K H ds ys->gB ds<=7 ->
  ∃f:aa->Bool,(∀u∈its,lL A s u v (f u))/\its.any f=inD d ds:=by
 intro ds ys its rv rr hds;refine⟨fun u=>if h:∃d' v',Rep X.K H d' v'/\RelV v' u/\cR d'<=7 then qC (choose h) d else false,fun u hu'=>?_,?_⟩
 ·obtain⟨i,hi⟩:=ky.mp hu';obtain⟨y,h1,h2⟩:=Vals.get' rv hi;obtain⟨d',h3,h4⟩:=rr.get' h1;have hx:∃d' v',Rep X.K H d' v'/\RelV v' u/\cR d'<=7:=⟨d',y,h4,h2,cz (wR (kg h3)) hds⟩
  dsimp only;rw[dif_pos hx];obtain⟨v',q1,q2,q3⟩:=choose_spec hx;exact adz I 7 q3 hd (by lia) q1 rd q2 rx
 ·unfold inD
  induction ds generalizing ys its with
  |nil =>
   cases bx.mp rr;cases rv;rfl
  |cons d0 ds ih =>
   obtain⟨y,ys',rfl,r1,r2⟩:=aQ.mp rr;cases rv with
   | @cons _ u _ us r3 r4 =>
    rw[x8,x8,ih r4 r2 (cz (by simp only[gB];exact v8 _ _) hds)];congr 1;have hd0:cR d0<=7:=cz (wR (dA)) hds;have hx:∃d' v',Rep X.K H d' v'/\RelV v' u/\cR d'<=7:=⟨d0,y,r1,r3,hd0⟩
    rw[dif_pos hx];obtain⟨v',q1,q2,q3⟩:=choose_spec hx;have:v'=y:=by have z1:=Vals.inj (xs:=[v']) (ys:=[y]) (us:=[u]) (.cons q2 .nil) (.cons r3 .nil);exact(List.cons.inj z1).1
    subst this;rw[Rep.inj I (by lia) q1 r1]
theorem abD(hu:X.A.units + 8 < be):uU X (fx .NotIn) (aqg X.K true):=by
 intro pins s σ H x y v u Q I rx ry h;obtain⟨d,p,ys,ds,rfl,hq,rd,rr,hd,hds,q⟩:=h;cases ry;rcases hq with hq|hq
 ·obtain⟨its,r,pl,hz⟩:=I.list hq;obtain⟨f,h1,h2⟩:=alu (A:=X.A.in1) I (by show X.A.units + 1 + 7 < be;lia) rx rd hd r rr hds;refine SeqAt.notIn_listAt f pl.isList (fun w hw=>h1 w (by simpa using hw)) ⟨.bl _,H,I,rfl,?_⟩;rw[show its.toArray.any f=its.any f by simp,h2];exact q
 ·obtain⟨its,r,pl,hz⟩:=I.tuple hq;obtain⟨f,h1,h2⟩:=alu (A:=X.A.in1) I (by show X.A.units + 1 + 7 < be;lia) rx rd hd r rr hds;refine SeqAt.notIn_tupleAt f pl (fun w hw=>h1 w (by simpa using hw)) ⟨.bl _,H,I,rfl,?_⟩;rw[show its.toArray.any f=its.any f by simp,h2];exact q
def Lg(neg:Bool):D->D->Rs D:=fun x y=>match y with
 | .lst ds=>if cR x<=7/\gB ds<=7 then .ok (.bl (if neg then !inD x ds else inD x ds)) else .no
 | .tup ds=>if cR x<=7/\gB ds<=7 then .ok (.bl (if neg then !inD x ds else inD x ds)) else .no
 |_=>.no
abbrev gIn:=Lg false
abbrev Lh:=Lg true
theorem anp{neg:Bool}:Wy K (aqg K neg) (Lg neg):=by
 intro B W σ ρ G H x y v u Q s rx ry p;unfold Lg at p;split at p
 ·rename_i ds;split at p
  ·rename_i hc;obtain⟨a,vs,rfl,q,rr⟩:=aY.mp ry;exact⟨x,a,vs,ds,rfl,.inl (s.en.gh.seq q),rx.mono s.en.gh,rr.mono s.en.gh,hc.1,hc.2,Post.ok s p (bQ.mpr rfl)⟩
  ·exact p.elim
 ·rename_i ds;split at p
  ·rename_i hc;obtain⟨a,vs,rfl,q,rr⟩:=bD.mp ry;exact⟨x,a,vs,ds,rfl,.inr (Same.fW s.en.gh q),rx.mono s.en.gh,rr.mono s.en.gh,hc.1,hc.2,Post.ok s p (bQ.mpr rfl)⟩
  ·exact p.elim
 ·exact p.elim
theorem aeU(hu:X.A.units + 8 < be)(ha:SE X B W a fa)(hb:SE X B W b fb)(hm:iA .NotIn b=false:=by rfl):ST X B W (.Compare a [.NotIn] [b] pos) (fT (bJ Lh fa fb)):=qD (abD hu) anp ha hb hm
end
end Vl
namespace Vl
open PySem PySem.Spec L2 So Tb
section
variable{X:Cx}{B:Bs}{W:Wi}{K:aw}
def aeV(K:aw):List V->Hp->VK->Prop:=fun xs H Q=>∃(p:ab) (ys:List V) (aH:List (List Int)) (U:ab->List Int->Prop),xs=[.ref p]/\pO K H p ys/\aH.length=ys.length/\ys.length < 1000/\(∀ks∈aH,ks≠[]) /\
 (∀(i:Nat) v,ys[i]?=some v->∃b,v=.ref b/\ni K H b ((aH.getD i []).map V.int)/\U b (aH.getD i [])) /\
 ∀l zs,H l=none->zs.length=(cF aH).length->(∀(i:Nat) v,zs[i]?=some v->∃b,v=.ref b/\U b ((cF aH).getD i []))->Q (.ref l) (upd H l (.lst zs))
theorem aeW{U:ab->List Int->Prop}{out:List aa}{aH:List (List Int)}(ho:Rm U out aH):∃ys:List V,Vals ys out/\ys.length=aH.length/\∀(i:Nat) v,ys[i]?=some v->∃b,v=.ref b/\U b (aH.getD i []):=by
 refine⟨out.map fun v=>match v with|.ref b=>V.ref b|_=>V.non,?_,by simp[ho.1],fun i v hv=>?_⟩
 ·have:∀v∈out,∃b,v=aa.ref b:=fun v hv=>by obtain⟨i,hi⟩:=ky.mp hv;obtain⟨b,e,_⟩:=ho.2 i v hi;exact⟨b,e⟩
  clear ho
  induction out with
  |nil=>exact .nil
  |cons a out ih =>
   obtain⟨b,rfl⟩:=this a (.head _);exact .cons rfl (ih fun v hv=>this v (.tail _ hv))
 ·rw[cE]at hv;cases e:out[i]? with
  |none=>rw[e]at hv;cases hv
  |some v' =>
   rw[e]at hv;obtain⟨b,rfl,h2⟩:=ho.2 i v' e;exact⟨b,(dq hv).symm,h2⟩
theorem Xn:gw X (.builtin "sorted") (aeV X.K):=by
 intro pins s σ H xs us Q I r h;obtain⟨p,ys,aH,U,rfl,hs,hlen,hz,hne,hk,q⟩:=h;obtain⟨u,rfl,rx⟩:=r.one;cases rx;obtain⟨its,rv,pl,_⟩:=I.list hs;have hl:=rv.length;have each:∀(i:Nat) v,its[i]?=some v->∃b,v=.ref b/\cv (bE X.prog X.w) s.heap (aH.getD i []) b/\U b (aH.getD i []):=fun i v hv=>by obtain⟨x,h1,h2⟩:=Vals.get' rv hv;obtain⟨b,rfl,h3,h4⟩:=hk i x h1;exact⟨b,h2,vQ I h3,h4⟩
 refine So.uF (vs:=its) (aH:=aH) (fun Q' E' hq=>?_) ⟨by lia,fun i v hv=>let ⟨b,h1,h2,_⟩:=each i v hv;⟨b,h1,h2⟩⟩ hne (by lia) fun h' tk l n p' k hl' hsp hg=>?_
 ·refine PyProof.Rows.collect_list pl.isList ?_ (by rw[d8];lia);refine hq _ s.toks (fun b o e=>?_) ?_
  ·rw[lr _ _ _ _ (bP (bu e))];exact bX _ e
  ·rw[uj,PyProof.Rows.size_push'];exact ox _
 ·have ho:=qR (U:=U) (vs:=its) (aH:=aH) (oF:=aH) ⟨by lia,fun i v hv=>let ⟨b,h1,_,h3⟩:=each i v hv;⟨b,h1,h3⟩⟩ hsp (.refl _);obtain⟨zs,r1,zl,zv⟩:=aeW ho;have Ro:H l=none:=I.hok.fresh hl';refine⟨.ref l,_,I.laid (t':=tk) k hl' (show dY X.prog X.w _ h' _ (.lst zs) from⟨?_,_,n,r1,hg⟩),rfl,q l zs Ro zl zv⟩;have:(cF aH).length=aH.length:=(fD aH).length_eq;rw[zl,this,d8];lia
def Xo(x:Int):List Int->List Int
 | []=>[x]
 |y::ys=>if y < x then y::Xo x ys else x::y::ys
def xQ(l:List Int):List Int:=l.foldr Xo []
theorem zj(x:Int):∀l,(Xo x l).Perm (x::l)
 | []=>.refl _
 |y::ys=>by
  unfold Xo;split
  ·exact((zj x ys).cons y).trans (ie.swap x y ys)
  ·exact .refl _
theorem vU:∀l,(xQ l).Perm l
 | []=>.refl _
 |x::l=>(zj x (xQ l)).trans ((vU l).cons x)
theorem aao(x:Int):∀l,l.Pairwise (·<=·)->(Xo x l).Pairwise (·<=·)
 | [],_=>by simp[Xo]
 |y::ys,h=>by
  obtain⟨h1,h2⟩:=gc.mp h;unfold Xo;split
  ·rename_i c;refine gc.mpr ⟨fun z hz=>?_,aao x ys h2⟩;rcases bz.mp ((zj x ys).mem_iff.mp hz) with rfl|hz
   ·lia
   ·exact h1 z hz
  ·rename_i c;refine gc.mpr ⟨fun z hz=>?_,h⟩;rcases bz.mp hz with rfl|hz
   ·lia
   ·have:=h1 z hz;lia
theorem Rr:∀l,(xQ l).Pairwise (·<=·)
 | []=>.nil
 |x::l=>aao x _ (Rr l)
theorem Eh:∀{l l':List Int},l.Perm l'->l.Pairwise (·<=·)->l'.Pairwise (·<=·)->l=l'
 | [],l',p,_,_=>(List.nil_perm.mp p).symm
 |x::l,[],p,_,_=>by cases List.perm_nil.mp p
 |x::l,y::l',p,h,h'=>by
  obtain⟨h1,h2⟩:=gc.mp h;obtain⟨h1',h2'⟩:=gc.mp h';have e:x=y:=by
   have m1:=bz.mp (p.mem_iff.mp (dA (a:=x) (l:=l)));have m2:=bz.mp (p.mem_iff.mpr (dA (a:=y) (l:=l')));rcases m1 with m1|m1
   ·exact m1
   ·rcases m2 with m2|m2
    ·exact m2.symm
    ·have:=h1' x m1;have:=h1 y m2;lia
  subst e;rw[Eh (p.cons_inv) h2 h2']
theorem aeX{l l':List Int}(p:l.Perm l')(h:l.Pairwise (·<=·)):l=xQ l':=Eh (p.trans (vU l').symm) h (Rr l')
theorem uq:∀{us:List aa}{ns:List Int},PyProof.Rows.IntsAre us ns->Vals (ns.map V.int) us:=by
 intro us ns h
 induction h with
 |nil=>exact .nil
 |cons n t _ ih=>exact .cons ⟨t,rfl⟩ ih
def aeY(K:aw):List V->Hp->VK->Prop:=fun xs H Q=>∃(p:ab) (ns:List Int),xs=[.ref p]/\pO K H p (ns.map V.int)/\ns.length < 64/\∀l,H l=none->Q (.ref l) (upd H l (.lst ((xQ ns).map V.int)))
theorem Xp:gw X (.builtin "sorted") (aeY X.K):=by
 intro pins s σ H xs us Q I r h;obtain⟨p,ns,rfl,hs,hz,q⟩:=h;obtain⟨u,rfl,rx⟩:=r.one;cases rx;obtain⟨its,rv,pl,_⟩:=I.list hs;have hl:=rv.length;simp only[cb]at hl;refine PyProof.Rows.sorted_ints pl.isList (CT rv) (by lia) fun out ns' h1 h2 h3=>?_;have e:ns'=xQ ns:=aeX h2 h3;subst e;have hsz:((s.heap.push (kQ "list" #[] 0)).update s.heap.objs.size (di (·++its.toArray))).objs.size=s.heap.objs.size + 1:=by rw[uj,PyProof.Rows.size_push']
 have hoL:(((s.heap.push (kQ "list" #[] 0)).update s.heap.objs.size (di (·++its.toArray))).push (kQ "list" its.toArray 0)).get? (s.heap.objs.size + 1)=some (kQ "list" its.toArray 0):=by rw[<- hsz];exact dc _ rfl
 have keep:∀b o,s.heap.get? b=some o->(((s.heap.push (kQ "list" #[] 0)).update s.heap.objs.size (di (·++its.toArray))).push (kQ "list" its.toArray 0)).get? b=some o:=fun b o q=>by refine bX _ ?_;rw[lr _ _ _ _ (bP (bu q))];exact bX _ q
 have g0:=bX (kQ "list" #[] 0) (bX (kQ "tuple" its.toArray 0) (PyProof.Rows.get?_update_seq hoL (fun _=>#[])));have g1:=PyProof.Rows.get?_update_seq g0 (fun _=>out);have Ro:H (s.heap.objs.size + 1)=none:=I.hok.fresh (ox _);refine⟨.ref (s.heap.objs.size + 1),_,I.laid (t':=s.toks) (fun b o z=>?_) (ox _) (show dY X.prog X.w _ _ _ (.lst ((xQ ns).map V.int)) from⟨?_,out.toList,_,uq h1,by rw[Array.toArray_toList];exact g1⟩),rfl,q _ Ro⟩
 ·unfold PyProof.Rows.sortedAll PyProof.Rows.sortedHeap;have ne:b≠s.heap.objs.size + 1:=bP (iE (bu z));rw[lr _ _ _ _ ne];refine bX _ (bX _ ?_);rw[lr _ _ _ _ ne];exact keep b o z
 ·rw[cb,(vU ns).length_eq,d8];lia
def vV:List D->Rs D
 | [.lst ds]=>match jW ds with
  |some aH=>if (∀ks∈aH,ks≠[])/\aH.length < 1000 then .ok (.lst ((cF aH).map yT)) else .no
  |none=>match jL ds with
   |some ns=>if ns.length < 64 then .ok (.lst ((xQ ns).map .int)) else .no
   |none=>.no
 |_=>.no
theorem aeZ:pQ K (fun xs H Q=>aeV K xs H Q∨aeY K xs H Q) vV:=by
 intro B W σ ρ G H ds vs Q s r p;unfold vV at p;split at p
 ·rename_i ds;obtain⟨v,vs',rfl,r1,r2⟩:=aQ.mp r;obtain⟨a,us,rfl,q,rr⟩:=aY.mp r1;rw[bx.mp r2];split at p
  ·rename_i aH ek;split at p
   ·rename_i hc;rw[sS ek]at rr;obtain⟨hl,hk⟩:=zc rr;refine .inl ⟨a,us,aH,UG K G,rfl,s.en.gh.seq q,hl,by lia,hc.1,fun i v hv=>?_,fun l zs hl' hz hv=>?_⟩
    ·obtain⟨b,q1,q2⟩:=hk i v hv;exact⟨b,q1,Same.fW s.en.gh q2,q2⟩
    ·have x:=jF (xs:=zs) s.en.gh s.en.tp hl';exact p _ _ _ x (aY.mpr ⟨l,zs,rfl,.of bF,(nu hz hv).mono x.gg⟩)
   ·exact p.elim
  ·split at p
   ·rename_i ns ei;split at p
    ·rename_i hc;rw[xP ei]at rr;have eu:=mO rr;subst eu;refine .inr ⟨a,ns,rfl,s.en.gh.seq q,hc,fun l hl=>?_⟩;have x:=jF (xs:=(xQ ns).map V.int) s.en.gh s.en.tp hl;exact p _ _ _ x (aY.mpr ⟨l,_,rfl,.of bF,yQ _⟩)
    ·exact p.elim
   ·exact p.elim
 ·exact p.elim
theorem gw.or{f:aa}{r r':List V->Hp->VK->Prop}(h:gw X f r)(h':gw X f r'):gw X f (fun xs H Q=>r xs H Q∨r' xs H Q):=fun pins s σ H xs us Q I rv q=>q.elim (h pins s σ H xs us Q I rv) (h' pins s σ H xs us Q I rv)
theorem afa{e:ai}{p pos:Pos}{fa:aK->Rs D}(hm:X.mg "sorted"=none) (ha:SE X B W e fa) (hg:Gl X "sorted":=by rfl) (he:bo [e] X.env=[(false,ba e X.env)]:=by rfl):SE X B W (.Call (.Name "sorted" p) [e] [] pos) (fA (ao fa aU) vV) :=
 lM (gw.or Xn Xp) aeZ hg hm uk (ak ha aJ he) (by decide) (by decide) he rfl
end
end Vl
namespace Vl
open PySem PySem.Spec L2
section
variable{X:Cx}{B:Bs}{W:Wi}{K:aw}
end
theorem Cm(i:Nat){X:Cx}{B:Bs}{W:Wi}{y:Str}{py spos:Pos}{tg iter:ai}{elt:ai}{sc:Scope}{pos:Pos}{N:List Str}{nt:Nat}{caps:List Nat}{h:Tg}{fe:aK->Rs D}{fi:aK->Rs (List D)}(hN:X.N.Nodup)
  (c:vM X sc N nt caps) (hc:X.calm=true) (hnames:sc.names.all (fun y=>y.2 != .local || sc.names.lookup y.1 == some .local)=true) (hi:SI X B W tg iter fi) (hno:vN h)
  (ht:∀s₀ H₀ C ex pins B',SG (jH X N s₀ H₀ sc (fX sc X.env) C ex pins) B' tg h)
  (he:∀s₀ H₀ C ex pins B',SE (jH X N s₀ H₀ sc (fX sc X.env) C ex pins) B' WF elt fe)
  (hs:∀x,hV iter X.env x=pure x:=by intro _;rfl) (hi':X.N[i]?=some y:=by rfl) (hx:Wm X.env.scope y:=by first|exact Or.inl rfl|exact Or.inr rfl)
  (hsw:fm (.ListComp elt [⟨tg,iter,[],0⟩] sc pos) (some (.Name y py)) spos.line X.env=pure true:=by rfl)
  (hf:X.fn y=true∨X.env.scope.names.lookup y=some .local:=by first|exact .inl rfl|exact .inr rfl|assumption) :
  SS X B W (.Assign [.Name y py] (.ListComp elt [⟨tg,iter,[],0⟩] sc pos) spos) (ig i (cM h (fun _=>.ok true) fe nt caps fi)) :=
 Dj hN hi' hx c hc (fun y hy hl=>by
  have:=ko.mp hnames y hy;simp only[rf,bne_iff_ne,beq_iff_eq,ne_eq]at this;exact this.elim (fun z=>absurd hl z) id) hi hno ht (.inl ⟨rfl,rfl⟩) he hs hsw hf
theorem zm(i:Nat){X:Cx}{B:Bs}{W:Wi}{y:Str}{py spos:Pos}{tg iter:ai}{elt cnd:ai}{sc:Scope}{pos:Pos}{N:List Str}{nt:Nat}{caps:List Nat}{h:Tg}{ft:aK->Rs Bool}{fe:aK->Rs D}{fi:aK->Rs (List D)}(hN:X.N.Nodup)
  (c:vM X sc N nt caps) (hc:X.calm=true) (hnames:sc.names.all (fun y=>y.2 != .local || sc.names.lookup y.1 == some .local)=true) (hi:SI X B W tg iter fi) (hno:vN h)
  (ht:∀s₀ H₀ C ex pins B',SG (jH X N s₀ H₀ sc (fX sc X.env) C ex pins) B' tg h)
  (hif:∀s₀ H₀ C ex pins B',ST (jH X N s₀ H₀ sc (fX sc X.env) C ex pins) B' WF cnd ft)
  (he:∀s₀ H₀ C ex pins B',SE (jH X N s₀ H₀ sc (fX sc X.env) C ex pins) B' WF elt fe)
  (hs:∀x,hV iter X.env x=pure x:=by intro _;rfl) (hi':X.N[i]?=some y:=by rfl) (hx:Wm X.env.scope y:=by first|exact Or.inl rfl|exact Or.inr rfl)
  (hsw:fm (.ListComp elt [⟨tg,iter,[cnd],0⟩] sc pos) (some (.Name y py)) spos.line X.env=pure true:=by rfl)
  (hf:X.fn y=true∨X.env.scope.names.lookup y=some .local:=by first|exact .inl rfl|exact .inr rfl|assumption) :
  SS X B W (.Assign [.Name y py] (.ListComp elt [⟨tg,iter,[cnd],0⟩] sc pos) spos) (ig i (cM h ft fe nt caps fi)) :=
 Dj hN hi' hx c hc (fun y hy hl=>by
  have:=ko.mp hnames y hy;simp only[rf,bne_iff_ne,beq_iff_eq,ne_eq]at this;exact this.elim (fun z=>absurd hl z) id) hi hno ht (.inr ⟨cnd,rfl,hif⟩) he hs hsw hf
section
variable{X:Cx}{B:Bs}{W:Wi}{K:aw}{a b:ai}{pos:Pos}{fa fb:aK->Rs D}
end
section
variable{X:Cx}{B:Bs}{W:Wi}
theorem xR{pins:List (ab×Obj)}{σ:St}{H:Hp}{s:af}{b:ab}{ks:List Int}(I:Inv X pins σ H s)(h:ni X.K H b (ks.map V.int)):cv (bE X.prog X.w) s.heap ks b:=by
 obtain⟨its,r,⟨o,ho,hc,n,hd⟩,hz⟩:=I.tuple h;refine⟨o,its.toArray,n,ho,hc,hd,?_⟩;show ItemsAre _ ks its;clear hd h hz
 induction ks generalizing its with
 |nil=>cases r;exact .nil
 |cons k ks ih =>
  cases r with
  |cons r1 r2 =>
   obtain⟨t,rfl⟩:=r1;exact .cons (intKind_is X.prog X.w k t) (ih _ r2)
abbrev DP(U:ab->List Int->Prop):=Paired (fun(p:List Int×V) (q:List Int×ab×aa)=>p.1=q.1/\U q.2.1 q.1/\RelV p.2 q.2.2)
theorem Ei{pins:List (ab×Obj)}{σ:St}{H:Hp}{s:af}{d:ab}{U:ab->List Int->Prop}{cj:List (List Int×V)}(I:Inv X pins σ H s)(hd:H d=some (.ext (nJ U d cj)))(hU:∀b ks,U b ks->UG X.K H b ks) :
  ∃xs,s.heap.DictOfH (oi (bE X.prog X.w)) d xs/\(d == iq)=false/\DP U cj xs/\(xs.map (·.1)).Nodup:=by
 obtain⟨⟨o,es,ep,xs,h1,h2,h3,h4,h5,h6,h7⟩,_,_⟩:=(show dY X.prog X.w H s.heap d (.ext (nJ U d cj)) from I.hok d _ hd)
 refine⟨xs,⟨o,es,ep,h1,h2,h3,h5,fun x hx=>?_,h6⟩,h4,h7,h6⟩;have:∀{cj:List (List Int×V)}{xs:List (List Int×ab×aa)},DP U cj xs->∀x∈xs,U x.2.1 x.1:=by
  intro cj xs r
  induction r with
  |nil=>intro x hx;cases hx
  |cons r1 _ ih =>
   intro x hx;rcases bz.mp hx with rfl|hx
   ·exact r1.2.1
   ·exact ih x hx
 exact xR I (hU _ _ (this h7 x hx))
def sU(cj:List (List Int×V))(ks:List Int):Option V:=(cj.find? fun p=>decide (p.1=ks)).map (·.2)
def Xq(cj:List (List Int×V))(ks:List Int)(v:V):List (List Int×V):=if (sU cj ks).isSome then cj.map (fun p=>if p.1=ks then (p.1,v) else p) else cj++[(ks,v)]
theorem sV{U:ab->List Int->Prop}{ks:List Int}:∀{cj:List (List Int×V)}{xs:List (List Int×ab×aa)},DP U cj xs->(sU cj ks=none/\atKey xs ks=none)∨∃v q,sU cj ks=some v/\atKey xs ks=some q/\RelV v q.2
 | [],_,.nil=>.inl ⟨rfl,rfl⟩
 |p::cj,q::xs,.cons r t=>by
  by_cases c:p.1=ks
  ·have c':q.1=ks:=r.1▸c;exact .inr ⟨p.2,q.2,by simp[sU,gf,c],by simp[atKey,gf,c'],r.2.2⟩
  ·have c':¬q.1=ks:=fun z=>c (r.1.trans z);have e1:sU (p::cj) ks=sU cj ks:=by simp[sU,gf,c]
   have e2:atKey (q::xs) ks=atKey xs ks:=by simp[atKey,gf,c']
   rw[e1,e2];exact sV t
theorem Paired.app{α β:Type}{F:α->β->Prop}:∀{l₁ l₁':List α}{l₂ l₂':List β},Paired F l₁ l₂->Paired F l₁' l₂'->Paired F (l₁++l₁') (l₂++l₂')
 |_,_,_,_,.nil,t'=>t'
 |_,_,_,_,.cons r t,t'=>.cons r (Paired.app t t')
theorem afb{U:ab->List Int->Prop}{ks:List Int}{b:ab}{v:V}{u:aa}{cj:List (List Int×V)}{xs:List (List Int×ab×aa)}(r:DP U cj xs)(hb:U b ks)(rv:RelV v u):DP U (Xq cj ks v) (storedH xs ks b u):=by
 rcases sV (ks:=ks) r with ⟨e1,e2⟩|⟨v',q,e1,e2,_⟩
 ·unfold Xq storedH;rw[e1,e2];exact Paired.app r (.cons ⟨rfl,hb,rv⟩ .nil)
 ·unfold Xq storedH;rw[e1,e2];show DP U (cj.map _) (xs.map _);clear e1 e2
  induction r with
  |nil=>exact .nil
  |cons r1 _ ih =>
   refine .cons ?_ ih;rename_i p q' _ _ _;by_cases c:p.1=ks
   ·have c':q'.1=ks:=r1.1▸c;unfold putAt;dsimp only;rw[if_pos c,if_pos c'];exact⟨r1.1,r1.2.1,rv⟩
   ·have c':¬q'.1=ks:=fun z=>c (r1.1.trans z);unfold putAt;dsimp only;rw[if_neg c,if_neg c'];exact r1
def afc(K:aw):R2:=fun x y H Q=>∃(b d:ab) (ks:List Int) (U:ab->List Int->Prop) (cj:List (List Int×V)),x=.ref b/\y=.ref d/\ni K H b (ks.map V.int)/\H d=some (.ext (nJ U d cj))/\(∀b ks,U b ks->UG K H b ks)/\Q (.bl (sU cj ks).isSome) H
theorem aiZ(hu:X.A.units + 1 < be):uU X (fx .In) (afc X.K):=by
 intro pins s σ H x y v u Q I rx ry ⟨b,d,ks,U,cj,e1,e2,hb,hd,hU,q⟩;subst e1;subst e2;cases rx;cases ry;obtain⟨xs,hm,hs,hp,_⟩:=Ei I hd hU;refine wpAny_in_heap (uv hu) (xR I hb) hs hm ⟨_,H,I.tok _,?_,q⟩;rcases sV (ks:=ks) hp with ⟨e1,e2⟩|⟨v',q',e1,e2,_⟩
 ·rw[e1,e2];rfl
 ·rw[e1,e2];rfl
def afd(K:aw):R2:=fun x y H Q=>∃(b d:ab) (ks:List Int) (U:ab->List Int->Prop) (cj:List (List Int×V)) (v:V),x=.ref d/\y=.ref b/\ni K H b (ks.map V.int)/\H d=some (.ext (nJ U d cj))/\(∀b ks,U b ks->UG K H b ks)/\sU cj ks=some v/\Q v H
theorem aja(hu:X.A.units + 1 < be):uU X getItem (afd X.K):=by
 intro pins s σ H x y v u Q I rx ry ⟨b,d,ks,U,cj,v',e1,e2,hb,hd,hU,hv,q⟩;subst e1;subst e2;cases rx;cases ry;obtain⟨xs,hm,hs,hp,_⟩:=Ei I hd hU;rcases sV (ks:=ks) hp with ⟨e1,e2⟩|⟨v2,q',e1,e2,r2⟩
 ·rw[hv]at e1;cases e1
 ·rw[hv]at e1;cases e1;exact wpAny_getItem_heap (uv hu) (xR I hb) hm e2 ⟨_,H,I.tok _,r2,q⟩
theorem aap{U:ab->List Int->Prop}{P:aE}{w:az}{d:ab}{h':Heap}{xs:List (List Int×ab×aa)}{cj:List (List Int×V)}{H:Hp}(hm:h'.DictOfH (oi (bE P w)) d xs)(hs:(d == iq)=false)(hp:DP U cj xs):dY P w H h' d (.ext (nJ U d cj)):=by obtain⟨o,es,ep,h1,h2,h3,h4,h5,h6⟩:=hm;refine⟨⟨o,es,ep,xs,h1,h2,h3,hs,h4,h6,hp⟩,⟨o,h1⟩,?_⟩;rintro g1 g2 ⟨o,es,ep,xs,h1,h2,h3,hs,h4,h6,hp⟩ k;exact⟨o,es,ep,xs,k _ h1,h2,h3,hs,h4,h6,hp⟩
end
section
variable{X:Cx}{B:Bs}{W:Wi}
theorem nJ.mono{U U':ab->List Int->Prop}{a:ab}{cj:List (List Int×V)}{xs:List (List Int×ab×aa)}(h:∀b ks,U b ks->U' b ks)(r:DP U cj xs):DP U' cj xs:=Paired.alL r fun p q z=>⟨z.1,h _ _ z.2.1,z.2.2⟩
def aqh(K:aw):ahV:=fun o i v H Q=>∃(b d:ab) (ks:List Int) (U U':ab->List Int->Prop) (cj:List (List Int×V)),o=.ref d/\i=.ref b/\ni K H b (ks.map V.int)/\H d=some (.ext (nJ U d cj))/\(∀b ks,U b ks->U' b ks)/\(∀b ks,U' b ks->UG K H b ks)/\U' b ks/\cj.length<=1000000 /\
 Q (upd H d (.ext (nJ U' d (Xq cj ks v))))
theorem anq(hu:X.A.units + 1 < be):alY X (aqh X.K):=by
 intro pins s σ H o i v ov iv u Q I ro ri rv ⟨b,d,ks,U,U',cj,e1,e2,hb,hd,hm,hU,hk,hz,q⟩;subst e1;subst e2;cases ro;cases ri;obtain⟨xs,hx,hs,hp,_⟩:=Ei I hd fun b ks z=>hU b ks (hm b ks z);refine wpAny_setItem_heap (uv hu) (xR I hb) hx (fun h' hx' sb=>?_) (by rw[<- Paired.length hp];exact sz6 hz);refine⟨_,I.write (x:=d) (e:=d) (t':=_) (by rw[hd];trivial) (.inl rfl) (fun b' u' ne e=>?_) ?_ (aap hx' hs (afb (nJ.mono (a:=d) hm hp) hk rv)),q⟩
 ·exact(sb.2 b' ne).symm▸e
 ·obtain⟨o,_,_,e,_⟩:=hx';exact⟨o,e⟩
theorem ajb{pos:Pos}:PE X (.Dict [] [] pos) (fun _ H Q=>∀l,H l=none->Q (.ref l) (upd H l (.ext (nJ (fun _ _=>False) l [])))):=by
 intro pins s σ H Q I h;have far:iq≠s.heap.objs.size:=fun z=>by have lt:=(I.mod.glob.keeps I.bk).lt;rw[<- z]at lt;exact absurd lt (by decide)
 refine wpAny_Dict_empty ⟨.ref s.heap.objs.size,_,I.laid (t':=s.toks) (fun b u e=>bX _ e) (br _) (aap (.new s.heap) (by simpa using de far) .nil),rfl,h _ I.fresh⟩
theorem ajc{i:Nat}{x:Str}{pos pos' lp:Pos}(hN:X.N.Nodup)(hi:X.N[i]?=some x)(hx:Wm X.env.scope x)(hs:fm (.Dict [] [] lp) (some (.Name x pos')) pos.line X.env=pure false:=by rfl)(hf:X.fn x=true∨X.env.scope.names.lookup x=some .local:=by first|exact .inl rfl|exact .inr rfl|assumption) :
  SS X B W (.Assign [.Name x pos'] (.Dict [] [] lp) pos) (fun ρ=>.nx (ρ.set i (.od []))):=by
 refine PS.imp (JH hN hi hx ajb hs hf) fun De σ H ⟨ρ,G,s,p⟩=>fun l hl=>?_;exact p _ _ G (s.adM rfl ⟨_,[],rfl,fun _ _ z=>z.elim,.nil⟩ hl) (.refl _)
def vW:List D->Option (List Int)
 | []=>some []
 | .int i::ds=>(vW ds).map (i::·)
 |_::_=>none
def qT:D->Option (List Int)
 | .tup ds=>vW ds
 |_=>none
theorem Ej{K:aw}{G:Hp}:∀{ds:List D}{vs:List V}{ks:List Int},bN K G ds vs->vW ds=some ks->vs=ks.map V.int
 | [],vs,ks,r,e=>by cases e;exact bx.mp r
 |d::ds,vs,ks,r,e=>by
  obtain⟨v,vs',rfl,r1,r2⟩:=aQ.mp r;cases d with
  |int i =>
   simp only[vW]at e;cases e2:vW ds with
   |none=>rw[e2]at e;cases e
   |some js =>
    rw[e2]at e;cases e;rw[aR.mp r1,Ej r2 e2];rfl
  |_=>cases e
theorem Cp{K:aw}{G:Hp}{d:D}{v:V}{ks:List Int}(r:Rep K G d v)(e:qT d=some ks):∃b,v=.ref b/\ni K G b (ks.map V.int):=by
 cases d with
 |tup ds =>
  obtain⟨a,vs,rfl,h,rr⟩:=bD.mp r;exact⟨a,rfl,Ej rr e▸h⟩
 |_=>cases e
def cC(kvs:List (List Int×D))(ks:List Int):Option D:=(kvs.find? fun p=>decide (p.1=ks)).map (·.2)
def mz(kvs:List (List Int×D))(ks:List Int)(d:D):List (List Int×D):=if (cC kvs ks).isSome then kvs.map (fun p=>if p.1=ks then (p.1,d) else p) else kvs++[(ks,d)]
theorem fM.get{K:aw}{G:Hp}{ks:List Int}{kvs:List (List Int×D)}{cj:List (List Int×V)}(h:fM K G kvs cj):(cC kvs ks=none/\sU cj ks=none)∨∃d v,cC kvs ks=some d/\sU cj ks=some v/\Rep K G d v:=by
 induction h with
 |nil=>exact .inl ⟨rfl,rfl⟩
 | @cons k d v kvs cj r t ih =>
  by_cases c:k=ks
  ·exact .inr ⟨d,v,by simp[cC,gf,c],by simp[sU,gf,c],r⟩
  ·have e1:cC ((k,d)::kvs) ks=cC kvs ks:=by simp[cC,gf,c]
   have e2:sU ((k,v)::cj) ks=sU cj ks:=by simp[sU,gf,c]
   rw[e1,e2];exact ih
theorem fM.app{K:aw}{G:Hp}{k:List Int}{d:D}{v:V}{kvs:List (List Int×D)}{cj:List (List Int×V)}(h:fM K G kvs cj)(r:Rep K G d v):fM K G (kvs++[(k,d)]) (cj++[(k,v)]):=by
 induction h with
 |nil=>exact .cons r .nil
 |cons r1 _ ih=>exact .cons r1 ih
theorem fM.len{K:aw}{G:Hp}{kvs:List (List Int×D)}{cj:List (List Int×V)}(h:fM K G kvs cj):kvs.length=cj.length:=by
 induction h with
 |nil=>rfl
 |cons _ _ ih=>simp[ih]
theorem fM.put{K:aw}{G:Hp}{ks:List Int}{d:D}{v:V}{kvs:List (List Int×D)}{cj:List (List Int×V)}(h:fM K G kvs cj)(r:Rep K G d v):fM K G (mz kvs ks d) (Xq cj ks v):=by
 rcases h.get (ks:=ks) with ⟨e1,e2⟩|⟨_,_,e1,e2,_⟩
 ·unfold mz Xq;rw[e1,e2];exact h.app r
 ·unfold mz Xq;rw[e1,e2];show fM K G (kvs.map _) (cj.map _);clear e1 e2
  induction h with
  |nil=>exact .nil
  | @cons k d' v' kvs cj r1 _ ih =>
   by_cases c:k=ks
   ·simpa[c] using fM.cons r ih
   ·simpa[c] using fM.cons r1 ih
theorem SR.od{K:aw}{σ:St}{H G:Hp}{ρ:aK}(h:SR K B σ H ρ G){i:Nat}{kvs:List (List Int×D)}(q:ρ[i]?=some (.od kvs)) :
  ∃a U cj,σ[i]?=some (some (.ref a))/\H a=some (.ext (nJ U a cj))/\G a=none/\B.2 a=none/\(∀b ks,U b ks->UG K G b ks)/\fM K G kvs cj:=by
 obtain⟨a,o,h1,h2,h3,h4,U,cj,rfl,h5,h6⟩:=h.own i _ q rfl;exact⟨a,U,cj,h1,h2,h3,h4,h5,h6⟩
end
section
variable{X:Cx}{B:Bs}{W:Wi}
theorem anr(hu:X.A.units + 1 < be):IxR X (afd X.K):=by
 intro value slice pins s σ H x y v u Q I rx ry h hs;obtain⟨b,d,ks,U,cj,v',e1,e2,hb,hd,hU,hv,q⟩:=id h;obtain⟨xs,hm,_,_,_⟩:=Ei I hd hU;have ht:s.TypeIs v "dict":=by subst e1;cases rx;exact hm.typeIs
 exact PyProof.Rows.tail_any ht slot_dict_getitem.lookup (aja hu pins s σ H x y v u Q I rx ry h) hs
theorem afe{K:aw}{σ:St}{H G H' G':Hp}{ρ:aK}{j:Nat}{kvs:List (List Int×D)}{k:D}{v:V}{ks:List Int}(s:SR K B σ H ρ G)(q:ρ[j]?=some (.od kvs))(y:Ext G H G' H')(r:Rep K G' k v)(e:qT k=some ks) :
  ∃b d U cj,v=.ref b/\σ[j]?=some (some (.ref d))/\ni K H' b (ks.map V.int)/\UG K G' b ks/\H' d=some (.ext (nJ U d cj))/\(∀b ks,U b ks->UG K G' b ks)/\(∀b ks,UG K G' b ks->UG K H' b ks)/\fM K G' kvs cj:=by
 obtain⟨b,rfl,hb⟩:=Cp r e;obtain⟨d,U,cj,h1,h2,h3,h4,h5,h6⟩:=s.od q;exact⟨b,d,U,cj,rfl,h1,Same.fW y.gh hb,hb,y.hh _ _ h2,fun c js z=>Same.fW y.gg (h5 c js z),fun c js z=>Same.fW y.gh z,h6.mono y.gg⟩
def vm(j:Nat)(fe fk:aK->Rs D):aK->Ou:=fun ρ=>oR (fe ρ) ρ fun v=>match ρ[j]? with
 |some (.od kvs)=>oR (fk ρ) ρ fun k=>(match qT k with
  |some ks=>if kvs.length<=1000000 then .nx (ρ.set j (.od (mz kvs ks v))) else .no
  |none=>.no)
 |_=>.no
theorem ajd{e b:ai}{x:Str}{p1 tp pos:Pos}{j:Nat}{fe fk:aK->Rs D}(hu:X.A.units + 1 < be)(he:SE X B W e fe)(hv:PE X (.Name x p1) (JF j))(hb:SE X B W b fk)
  (hs:l9 [.Subscript (.Name x p1) b tp] e pos.line X.env=pure false:=by rfl) (hw:l_ [.Subscript (.Name x p1) b tp] e X.env=pure none:=by rfl)
  (h1:(f6 [.Subscript (.Name x p1) b tp] X.env).map (·.2)=[assign (.Subscript (.Name x p1) b tp) X.env]:=by rfl)
  (ha:∀v,assign (.Subscript (.Name x p1) b tp) X.env v=(do
   let ov <- ef [v] (ba (.Name x p1) X.env)
   let iv <- ef [v,ov] (ba b X.env)
   l6 tp
   ef [v,ov,iv] (setItem ov iv v)
   release [v,ov,iv] []):=by intro _;rfl) :
  SS X B W (.Assign [.Subscript (.Name x p1) b tp] e pos) (vm j fe fk):=by
 refine PS.imp (Wq he (ada hv hb (anq hu) ha) hs hw h1) fun De σ H fH=>?_;obtain⟨ρ,G,s,p⟩:=fH;unfold vm at p;refine⟨ρ,G,s,gQ s p fun d v H' G' _ y r p'=>?_⟩;cases e2:ρ[j]? with
 |none=>rw[e2]at p';exact p'.elim
 |some z =>
  rw[e2]at p';cases z with
  |od kvs =>
   have s':=s.ext y;obtain⟨d0,U0,afg,h1,h2,_⟩:=s'.od e2;refine⟨_,h1,ρ,G',s',gQ s' p' fun k v2 H2 G2 _ y2 r2 p2=>?_⟩;cases e1:qT k with
   |none=>rw[e1]at p2;exact p2.elim
   |some ks =>
    rw[e1]at p2;dsimp only at p2;by_cases hl:kvs.length<=1000000
    ·rw[if_pos hl]at p2;obtain⟨b',d1,U,cj,rfl,q1,q2,q3,q4,q5,q6,q7⟩:=afe s' e2 y2 r2 e1;rw[h1]at q1;cases q1;refine⟨b',d0,ks,U,UG X.K G2,cj,rfl,rfl,q2,q4,q5,q6,q3,by rw[<- q7.len];exact hl,?_⟩;exact p2 σ _ G2 ((s'.ext y2).Qu e2 rfl h1 rfl ⟨UG X.K G2,_,rfl,fun _ _ z=>z,q7.put (r.mono y2.gg)⟩) (.refl _)
    ·rw[if_neg hl]at p2;exact p2.elim
  |_=>exact p'.elim
def afh(K:aw):V->List V->Hp->VK->Prop:=fun x vs H Q=>∃(b d:ab) (w:V) (ks:List Int) (U:ab->List Int->Prop) (cj:List (List Int×V)),x=.ref d/\vs=[.ref b,w]/\ni K H b (ks.map V.int)/\H d=some (.ext (nJ U d cj))/\(∀b ks,U b ks->UG K H b ks)/\Q ((sU cj ks).getD w) H
theorem aaq(hu:X.A.units + 1 < be):MtR X "dict.get" (afh X.K):=by
 intro pins s σ H x vs v us Q I rx rv ⟨b,d,w,ks,U,cj,e1,e2,hb,hd,hU,q⟩;subst e1;subst e2;cases rx;cases rv with
 |cons r1 rv =>
  cases rv with
  |cons r2 rv =>
   cases rv;cases r1;obtain⟨xs,hm,hs,hp,_⟩:=Ei I hd hU;refine call_meetsIn x9 hm.typeIs F.entry_dict_get (F.args_dict_get_3 _ _ _) (meetsH_dict_get_default (oi (bE X.prog X.w)) d b hs _) ⟨uv hu,ks,xs,xR I hb,hm,?_⟩;refine⟨_,H,I.tok _,?_,q⟩;rcases sV (ks:=ks) hp with ⟨w1,w2⟩|⟨v',q',w1,w2,w3⟩
   ·rw[w1,w2];exact r2
   ·rw[w1,w2];exact w3
def Ek(j:Nat)(fs:aK->Rs (List D)):aK->Rs D:=fun ρ=>match ρ[j]? with
 |some (.od kvs)=>(fs ρ).bind fun es=>match es with
  | [k,w]=>(match qT k with|some ks=>.ok ((cC kvs ks).getD w)|none=>.no)
  |_=>.no
 |_=>.no
theorem aje{k d:ai}{x:Str}{p1 p2 cp:Pos}{j:Nat}{fs:aK->Rs (List D)}(hu:X.A.units + 1 < be)(hv:PE X (.Name x p1) (JF j))(ha:SA X B W [k,d] fs)
  (h1:k0 (.Name x p1) "get" X.env (ba (.Name x p1) X.env)=ba (.Name x p1) X.env:=by rfl) (h2:bo [k,d] X.env=[(false,ba k X.env),(false,ba d X.env)]:=by rfl)
  (h3:((d6 cp (bo [k,d] X.env)).all (fun q=>!q.1) && (ja cp (jb [] X.env)).all (fun q=>q.1.isSome) && decide (([k,d]:List ai).length + 0 + 0 < 30))=true:=by rfl)
  (h4:(p2.endLine == cp.line)=true:=by rfl) (h5:((d6 cp (bo [k,d] X.env)).any fun q=>q.1)=false:=by rfl) :
  SE X B W (.Call (.Attribute (.Name x p1) "get" p2) [k,d] [] cp) (Ek j fs):=by
 intro pins s σ H Q I ⟨ρ,G,sr,p⟩;unfold Ek at p;cases e2:ρ[j]? with
 |none=>rw[e2]at p;exact p.elim
 |some z =>
  rw[e2]at p;cases z with
  |od kvs =>
   obtain⟨d0,U0,afg,g1,g2,_⟩:=sr.od e2;refine vz h1 h3 h4 rfl (je (hv pins s σ H (fun y H1=>y=.ref d0/\H1=H) I ⟨_,g1,rfl,rfl⟩) fun v s1 fH=>?_);obtain⟨y,H1,I1,r1,hy,hH⟩:=fH;subst hy;subst hH;cases r1;obtain⟨⟨o',es',ep',xs',w1,w2,_⟩,_,_⟩:=(show dY X.prog X.w H1 s1.heap d0 (.ext (nJ U0 d0 afg)) from I1.hok d0 _ g2)
   refine⟨"dict","dict.get",F.plainAttrs_dict,x9,F.type_dict_get,⟨o',w1,w2.1⟩,fun a ea=>?_,?_⟩
   ·cases ea;exact⟨o',w1,w2.2.1⟩
   have p':Post X.K W σ G H1 ((fs ρ).bind fun es=>match es with
     | [k,w]=>(match qT k with|some ks=>.ok ((cC kvs ks).getD w)|none=>.no)
     |_=>.no) Q:=p
   have hA:=ha cp pins s1 σ H1 (fun vs H2=>afh X.K (.ref d0) vs H2 Q) I1 ⟨ρ,G,sr,?_⟩
   ·rw[h2]at hA h5 ⊢;refine vE h5 (vF ?_);exact je hA fun us s2 ⟨vs,H2,I2,r2,q2⟩=>aaq hu pins s2 σ H2 (.ref d0) vs (.ref d0) us Q I2 rfl r2 q2
   ·cases e:fs ρ with
    |no=>rw[e]at p';exact p'.elim
    |ex c n=>rw[e]at p';exact p'
    |ok es =>
     rw[e]at p';intro vs H' G' y r
     match es,p',r with
     | [],p',r=>exact p'.elim
     | [_],p',r=>exact p'.elim
     |_::_::_::_,p',r=>exact p'.elim
     | [k,w],p',r =>
      obtain⟨v1,vs1,rfl,r1,r2⟩:=aQ.mp r;obtain⟨v2,vs2,rfl,r3,r4⟩:=aQ.mp r2;cases bx.mp r4;have p3:Post X.K W σ G H1 (match qT k with|some ks=>.ok ((cC kvs ks).getD w)|none=>.no) Q:=p';cases e1:qT k with
      |none=>rw[e1]at p3;exact p3.elim
      |some ks =>
       rw[e1]at p3;dsimp only at p3;obtain⟨b',d1,U,cj,rfl,q1,q2,q3,q4,q5,q6,q7⟩:=afe sr e2 y r1 e1;rw[g1]at q1;cases q1;refine⟨b',d0,v2,ks,U,cj,rfl,rfl,q2,q4,fun c js z=>q6 c js (q5 c js z),?_⟩;rcases q7.get (ks:=ks) with ⟨w1,w2⟩|⟨dd,vv,w1,w2,w3⟩
       ·rw[w2];rw[w1]at p3;exact p3 v2 H' G' y r3
       ·rw[w2];rw[w1]at p3;exact p3 vv H' G' y w3
  |_=>exact p.elim
end
section
variable{X:Cx}{B:Bs}{W:Wi}
theorem Rt{M:Model}{A:a_}{E:aa->af->Prop}{s:af}{v u:aa}{Q:aa->af->Prop}(h:ag M A (fx .In v u) (fun r s'=>∃c,r=.bool c/\Q (.bool (!c)) s') E s) :
  ag M A (fx .NotIn v u) Q E s:=by
 have h':ag M A (contains u v >>= fun b=>pure (aa.bool b)) (fun r s'=>∃c,r=aa.bool c/\Q (.bool (!c)) s') E s:=h;show ag M A (contains u v >>= fun b=>pure (aa.bool (!b))) Q E s;intro Γ p hΓ;have h2:=h' Γ p hΓ;simp only[Sem.wp_bind',Sem.wp_pure']at h2 ⊢;refine Sem.wp_mono M Γ _ (fun b p1 s1 z=>?_) (fun _ _ _ z=>z) _ _ h2;obtain⟨c,e,q⟩:=z;cases e;exact q
def afi(K:aw):R2:=fun x y H Q=>afc K x y H fun z H'=>∃c,z=.bl c/\Q (.bl (!c)) H'
theorem afj(hu:X.A.units + 1 < be):uU X (fx .NotIn) (afi X.K):=by intro pins s σ H x y v u Q I rx ry h;refine Rt (eD (aiZ hu pins s σ H x y v u _ I rx ry h) (fun r s' ⟨z,H',I',rz,c,e,q⟩=>?_) fun _ _ e=>e);subst e;cases rz;exact⟨c,rfl,V.bl (!c),H',I',rfl,q⟩
end
def afk(i:Nat):aK->Ou:=fun ρ=>.nx (ρ.set i (.od []))
section
variable{X:Cx}{B:Bs}{W:Wi}
theorem Li(i:Nat){x:Str}{pos pos' lp:Pos}(hN:X.N.Nodup)(hi:X.N[i]?=some x:=by rfl)(hx:Wm X.env.scope x:=by first|exact Or.inl rfl|exact Or.inr rfl)(hs:fm (.Dict [] [] lp) (some (.Name x pos')) pos.line X.env=pure false:=by rfl)(hf:X.fn x=true∨X.env.scope.names.lookup x=some .local:=by first|exact .inl rfl|exact .inr rfl|assumption) :
  SS X B W (.Assign [.Name x pos'] (.Dict [] [] lp) pos) (afk i):=ajc hN hi hx hs hf
theorem Ja(h:X.A.units + 8 < be):X.A.units + 1 < be:=by lia
theorem aar(j:Nat) {k d:ai}{x:Str}{p1 p2 cp:Pos}{fs:aK->Rs (List D)}(hu:X.A.units + 8 < be) (ha:SA X B W [k,d] fs) (hN:X.N[j]?=some x:=by rfl) (hv:Vis X.env.scope x:=by first|exact Or.inl rfl|exact Or.inr (Or.inl rfl)|exact Or.inr (Or.inr rfl)) (hd:(x == ("__debug__":Str))=false:=by decide)
  (hcd:(x == ("__classdict__":Str))=false:=by decide)
  (h1:k0 (.Name x p1) "get" X.env (ba (.Name x p1) X.env)=ba (.Name x p1) X.env:=by rfl) (h2:bo [k,d] X.env=[(false,ba k X.env),(false,ba d X.env)]:=by rfl)
  (h3:((d6 cp (bo [k,d] X.env)).all (fun q=>!q.1) && (ja cp (jb [] X.env)).all (fun q=>q.1.isSome) && decide (([k,d]:List ai).length + 0 + 0 < 30))=true:=by rfl)
  (h4:(p2.endLine == cp.line)=true:=by rfl) (h5:((d6 cp (bo [k,d] X.env)).any fun q=>q.1)=false:=by rfl) :
  SE X B W (.Call (.Attribute (.Name x p1) "get" p2) [k,d] [] cp) (Ek j fs):=aje (Ja hu) (nH hN hv hd hcd) ha h1 h2 h3 h4 h5
theorem xT(j:Nat) {e b:ai}{x:Str}{p1 tp pos:Pos}{fe fk:aK->Rs D}(hu:X.A.units + 8 < be) (he:SE X B W e fe) (hb:SE X B W b fk) (hN:X.N[j]?=some x:=by rfl) (hv:Vis X.env.scope x:=by first|exact Or.inl rfl|exact Or.inr (Or.inl rfl)|exact Or.inr (Or.inr rfl)) (hd:(x == ("__debug__":Str))=false:=by decide)
  (hcd:(x == ("__classdict__":Str))=false:=by decide)
  (hs:l9 [.Subscript (.Name x p1) b tp] e pos.line X.env=pure false:=by rfl) (hw:l_ [.Subscript (.Name x p1) b tp] e X.env=pure none:=by rfl)
  (h1:(f6 [.Subscript (.Name x p1) b tp] X.env).map (·.2)=[assign (.Subscript (.Name x p1) b tp) X.env]:=by rfl)
  (ha:∀v,assign (.Subscript (.Name x p1) b tp) X.env v=(do
   let ov <- ef [v] (ba (.Name x p1) X.env)
   let iv <- ef [v,ov] (ba b X.env)
   l6 tp
   ef [v,ov,iv] (setItem ov iv v)
   release [v,ov,iv] []):=by intro _;rfl) :
  SS X B W (.Assign [.Subscript (.Name x p1) b tp] e pos) (vm j fe fk):=ajd (Ja hu) he (nH hN hv hd hcd) hb hs hw h1 ha
end
section
variable{X:Cx}{K:aw}{B:Bs}{W:Wi}{σ:St}{G H:Hp}{ρ:aK}{a b c:ai}{pos:Pos}{fa fb fc:aK->Rs D}
def aas:List D->Rs D
 | [.int i,.int j]=>.ok (.int (if j < i then j else i))
 |_=>.no
theorem ajf:pQ K (fun xs H Q=>∃i j,xs=[V.int i,.int j]/\Q (.int (if j < i then j else i)) H) aas:=by
 intro B W σ ρ G H ds vs Q s r p
 match ds,p,r with
 | [.int i,.int j],p,r =>
  obtain⟨v1,vs1,rfl,r1,r2⟩:=aQ.mp r;obtain⟨v2,vs2,rfl,r3,r4⟩:=aQ.mp r2;cases bx.mp r4;exact⟨i,j,by rw[aR.mp r1,aR.mp r3],p _ H G s.vD (aR.mpr rfl)⟩
theorem aat{e e':ai}{p pos:Pos}(hc:X.calm=true) (hm:X.mg "min"=none) (ha:SE X B W e fa) (hb:SE X B W e' fb) (hg:Gl X "min":=by rfl) (he:bo [e,e'] X.env=[(false,ba e X.env),(false,ba e' X.env)]:=by rfl) (he':bo [e'] X.env=[(false,ba e' X.env)]:=by rfl) :
  SE X B W (.Call (.Name "min" p) [e,e'] [] pos) (fA (ao fa (ao fb aU)) aas) :=
 lM (abe hc) ajf hg hm rfl (ak ha (ak hb aJ he') (by rw[he,he'])) (by decide) (by decide) (by rw[he,he']) (by rw[he'];rfl)
end
section
variable{X:Cx}{B:Bs}{W:Wi}
end
end Vl
namespace L2
open PySem PySem.Spec PyProof.Rows
section
variable{X:Cx}{pins:List (ab×Obj)}{σ:List (Option V)}{H:Hp}{s:af}{h':Heap}
theorem Inv.uH{t':Nat}{ch:List ab}(I:Inv X pins σ H s)(k:∀b u,b∉ch->s.heap.get? b=some u->h'.get? b=some u)(hf:∀b∈ch,qx X pins H b):Inv X pins σ H { s with heap:=h',toks:=t' }:=by
 have nch:∀b u,H b=some u->b∉ch:=fun b u e z=>by rw[(hf b z).1]at e;cases e
 refine I.step (g':=s.gens) (d':=s.drawn) (ch:=ch) (fun b hb=>⟨(hf b hb).2.2.2.1,(hf b hb).2.1,(hf b hb).2.2.2.2.1,(hf b hb).2.2.2.2.2⟩) (fun b o _ _ hc e _=>k b o hc e) (fun b o _ _ hc e _=>⟨o.slots,k b o hc e⟩) (fun _ _ _ _ n=>n)
  (fun b o hc e=>⟨o,k b o hc e⟩) (fun _ _ e=>e) (fun _ _ _ e=>e) (fun b ps e=>⟨#[],by rw[e];simp⟩) (fun m hm=>?_) (fun b u e=>?_) I.bare
 ·obtain⟨o,es,ep,ho,r⟩:=hm;exact⟨o,es,ep,k _ o (fun z=>(hf _ z).2.1 rfl) ho,r⟩
 ·refine(I.hok b u e).stay (fun c v hc q=>k c v ?_ q) (fun _ q=>q) (fun _ _ q=>q) fun _ _ q=>q;rcases hc with z|z
  ·rw[z];exact nch b u e
  ·exact nch c _ z
end
section
variable{X:Cx}
end
end L2
namespace Vl
open PySem PySem.Spec L2
section
variable{X:Cx}{B:Bs}{W:Wi}
end
end Vl
namespace PySem
namespace Wo
theorem abE:Slot "reversed" "__init__" "object.__init__" :=
 .of (owner:="object") (n:="__init__") (by rw[ny,nz];kernel_rfl) (by decide+kernel) (by decide+kernel) (by decide+kernel)
  (by first|exact .inl (by decide+kernel)|exact .inr (by decide+kernel)) (by rw[j7];kernel_rfl)
theorem called:TypeCalled "reversed" "reversed.__new__" "object.__init__" :=
 ⟨by decide+kernel,by decide+kernel,⟨_,_,F.mro_reversed⟩,F.made_reversed,by decide+kernel,by rw[j7];kernel_rfl,abE⟩
theorem slot_next:Slot "reversed" "__next__" "reversed.__next__" :=
 .of (owner:="reversed") (n:="__next__") (by rw[ny,nz];kernel_rfl) (by decide+kernel) (by decide+kernel) (by decide+kernel)
  (by first|exact .inl (by decide+kernel)|exact .inr (by decide+kernel)) (by rw[j7];kernel_rfl)
theorem entry_next:nB table "reversed.__next__"=some Builtin.«reversed.__next__»:=entryFor_of_tree (by kernel_rfl)
theorem args_next(a:aa):j8 "reversed.__next__" ⟨[a],[]⟩:=by unfold j8;kernel_rfl
theorem Jb:Slot "reversed" "__iter__" "reversed.__iter__" :=
 .of (owner:="reversed") (n:="__iter__") (by rw[ny,nz];kernel_rfl) (by decide+kernel) (by decide+kernel) (by decide+kernel)
  (by first|exact .inl (by decide+kernel)|exact .inr (by decide+kernel)) (by rw[j7];kernel_rfl)
theorem abF(a:aa):j8 "reversed.__iter__" ⟨[a],[]⟩:=by unfold j8;kernel_rfl
theorem Xr:nB table "reversed.__iter__"=some Builtin.«dict_keyiterator.__iter__» :=
 sN (id':="dict_keyiterator.__iter__") (by kernel_rfl) (by first|rfl|decide+kernel|(unfold String.splitOn;simp+decide [String.splitOnAux])) (by decide+kernel) (by kernel_rfl)
theorem ant:typeLookup (.type "tuple") "__reversed__"=pure none:=by rw[ny,nz];kernel_rfl
end Wo
section
variable{prog:aE}{w:az}{A:a_}{E:aa->af->Prop}{s:af}
def aau(t:ab)(i:Int):Obj:={ cls:=.type "reversed",data:=.fields #[.ref t,c_ i] }
abbrev Heap.vo(h:Heap)(a t:ab)(i:Int):Prop:=h.get? a=some { cls:=.type "reversed",dict:=none,data:=.fields #[.ref t,c_ i],slots:=#[] }
theorem ji{a t:ab}{i:Int}(x:s.heap.vo a t i):s.TypeIs (.ref a) "reversed":=⟨_,x,rfl⟩
theorem uW(t:ab)(items:Array aa):Meets (Builtin.«reversed.__new__» ⟨[.type "reversed",.ref t],[]⟩)
  (fun _ R s=>x_ s.heap t items/\(items.size:Int) < 2 ^ 63/\∀tk,R (.ok (.ret (.ref s.heap.objs.size))) { s with heap:=s.heap.push (aau t ((items.size:Int) - 1)),toks:=tk }) :=
 .of_wp fun prog w A R s h=>by
  obtain⟨ht,hfit,h⟩:=h;unfold Builtin.«reversed.__new__»;refine ae (iO (newClass_reversed _) ?_)
  try dsimp only
  refine ae (iO (a:=()) (by first|rfl|kernel_rfl) ?_);refine ae (iO (a:=()) (by first|rfl|kernel_rfl) ?_)
  try dsimp only
  refine ae (m9 ht.typeIs Wo.ant ?_)
  try dsimp only
  refine ae ?_
  wp_delta
  refine ae (kx (T:="tuple") (b:=false) ht.typeIs (by rw[j7];kernel_rfl) ?_)
  try dsimp only
  try simp only[aS,if_false]
  refine ae (m9 ht.typeIs PyProof.Rows.slot_tuple_getitem.lookup ?_)
  try dsimp only
  rw[if_pos (by decide)];refine ar ?_
  try simp only[dS,aS,if_false]
  refine ae (PyProof.Rows.len_tuple ht hfit ?_);refine ae (m:=asInt? _) (ar ?_)
  try dsimp only
  refine ae ?_;show ag _ _ (newObj (.type "reversed") (.fields #[.ref t,c_ ((items.size:Int) - 1)])) _ _ _;exact gp (ar ⟨_,rfl,h _⟩)
theorem uX{t:ab}{items:Array aa}{Q:aa->af->Prop}(ht:x_ s.heap t items)(hfit:(items.size:Int) < 2 ^ 63)
  (h:∀tk,Q (.ref s.heap.objs.size) { s with heap:=s.heap.push (aau t ((items.size:Int) - 1)),toks:=tk }):ag (ah prog w) A (call (.type "reversed") [.ref t]) Q E s:=by
 refine callType_new Wo.called (by decide) (F.typeCall_reversed_1 _) (F.newCall_reversed_1 _) (fun obj=>F.args_object_init_2 obj _) F.entry_reversed_new (uW t items) ⟨ht,hfit,fun tk=>?_⟩;exact⟨⟨_,dc _ rfl,rfl⟩,h tk⟩
theorem pW{it t:ab}{i:Int}{Q:aa->af->Prop}(hit:s.heap.vo it t i)(h:Q (.ref it) s):ag (ah prog w) A (kB (.ref it)) Q E s:=by refine sP (ji hit) Wo.Jb (gT Wo.Jb (ji hit) Wo.Xr ?_ (Wo.abF _));show ag _ _ (ret (.ref it)) _ _ s;exact ar ⟨_,rfl,"reversed",_,(ji hit),Wo.slot_next.lookup,h⟩
theorem rR{it t:ab}{i:Nat}{items:Array aa}{x:aa}{Q:Option aa->af->Prop}(hit:s.heap.vo it t (i:Int))(ht:x_ s.heap t items)(hi:(items.size:Int) < 2 ^ 63)(hx:items[i]?=some x)
  (hQ:∀h' tk,h'.vo it t ((i:Int) - 1)->cS it s.heap h'->Q (some x) { s with heap:=h',toks:=tk }):ag (ah prog w) A (eA (.ref it)) Q E s:=by
 have hlt:i < items.size:=by have:=(ic.mp hx).1;exact this
 unfold eA;refine ae (kM (nI (name:=nK "__next__") (ji hit) Wo.slot_next
  (gT Wo.slot_next (ji hit) Wo.entry_next ?_ (Wo.args_next _))))
 unfold Builtin.«reversed.__next__»;refine ae (iO (a:=(aa.ref it,[])) rfl ?_)
 try dsimp only
 refine ae (p_ hit rfl (x:=.ref t) rfl ?_);refine ae (p_ hit rfl (x:=c_ (i:Int)) rfl ?_);show ag _ _ (if (i:Int) < 0 then _ else _) _ _ s;rw[if_neg (by lia)];refine ae (m9 ht.typeIs PyProof.Rows.slot_tuple_getitem.lookup ?_)
 try dsimp only
 rw[if_neg (by simp)];refine ae (wpAny_mkInt ?_);refine ae (kM (PyProof.Rows.getItem_tuple (j:=i) ht (by lia) (by lia) (by simp[ot];lia) hx ?_))
 try dsimp only
 refine ae (p_ hit rfl (x:=c_ (i:Int)) rfl ?_)
 try dsimp only
 refine ae (ya hit (by simp) fun h' he' hs'=>?_);exact ar ⟨x,rfl,ar (hQ h' _ he' hs')⟩
theorem sW{it t:ab}{Q:Option aa->af->Prop}(hh:A.handled=none)(hit:s.heap.vo it t (-1))
  (hQ:∀h',td it s.heap h'->Q none { s with heap:=h' }):ag (ah prog w) A (eA (.ref it)) Q E s:=by
 unfold eA;refine ae (kM (nI (name:=nK "__next__") (ji hit) Wo.slot_next
  (gT Wo.slot_next (ji hit) Wo.entry_next ?_ (Wo.args_next _))))
 unfold Builtin.«reversed.__next__»;refine ae (iO (a:=(aa.ref it,[])) rfl ?_)
 try dsimp only
 refine ae (p_ hit rfl (x:=.ref t) rfl ?_);refine ae (p_ hit rfl (x:=c_ (-1)) rfl ?_);show ag _ _ (if (-1:Int) < 0 then _ else _) _ _ s;rw[if_pos (by decide)];refine ae (gu ?_);refine ae ?_
 wp_delta
 refine ae (ya hit (by simp) fun h1 he1 hs1=>?_);refine ya he1 (by simp) fun h2 he2 hs2=>?_;have x2:td it s.heap h2:=fun b o hb e=>hs2.extBut b o hb (hs1.extBut b o hb e)
 first
 |show ag _ _ (newExc (.type "StopIteration") [] >>= _) _ _ _
 | (refine ae ?_;show ag _ _ (newExc (.type "StopIteration") [] >>= _) _ _ _)
 refine ae ?_;simp only[newExc,newTuple];refine ae (gp ?_ (by size_fits));refine ae (m:=nL _ _) (iO (a:=aa.none) (by first|rfl|(simp only[nL];rfl)) ?_);refine gp ?_ (by size_fits);simp only[raiseNew];refine ae (xw ?_)
 first|rw[show A.in1.handled=none from hh]|rw[hh]
 refine ae (ar (xx ?_));refine ae (kx (T:="StopIteration") (b:=true) ⟨_,dc _ rfl,rfl⟩ xy ?_);exact ar (hQ _ ((x2.push _).push _))
end
end PySem
namespace PySem
open PyProof.Rows (IsTup)
section
variable{prog:aE}{w:az}{A:a_}{E:aa->af->Prop}{s:af}
end
section
variable{prog:aE}{w:az}{A:a_}{E:aa->af->Prop}{s:af}
end
end PySem
namespace Vl
open PySem PySem.Spec L2
section
variable{X:Cx}{B:Bs}{W:Wi}{K:aw}
theorem Ru{G:Hp}:∀{ds:List D}{vs:List V},bN K G ds vs->bN K G ds.reverse vs.reverse
 | [],_,h=>by rw[bx.mp h];exact bx.mpr rfl
 |d::ds,_,h=>by obtain⟨v,vs',rfl,h1,h2⟩:=aQ.mp h;rw[yb,yb];exact(Ru h2).append (bN.one h1)
end
end Vl
namespace Vl
open PySem PySem.Spec PySem.Calls PySem.W L2
structure auU (K:aw)(x:Str)(st:bj)(f:ab)(fd:cq)(ps:List Str):Prop where
 ex:∃(oc:aa) (od:Option ab) (dV kV doc pm:aa) (an:Option ab) (cdv ct:aa) (osl:Array (Option aa)),
  fd=gi x x (bK st) (bG st) (aG st) dV kV doc pm an cdv ct/\K.lookup f=some ⟨oc,od,.func fd,osl⟩/\mo K cdv x=true
 kp:kc K (.ref f)=true
 bi:Binds K fd ps []
end Vl
namespace Vl
open PySem PySem.Spec L2
section
variable{X:Cx}{K:aw}{B:Bs}{W:Wi}{σ:St}{G H:Hp}{ρ:aK}{a b c:ai}{pos:Pos}{fa fb fc:aK->Rs D}
def Rv:List D->Rs D
 | [.int i,.int j]=>.ok (.int (if j > i then j else i))
 |_=>.no
theorem ajg:pQ K (fun xs H Q=>∃i j,xs=[V.int i,.int j]/\Q (.int (if j > i then j else i)) H) Rv:=by
 intro B W σ ρ G H ds vs Q s r p
 match ds,p,r with
 | [.int i,.int j],p,r =>
  obtain⟨v1,vs1,rfl,r1,r2⟩:=aQ.mp r;obtain⟨v2,vs2,rfl,r3,r4⟩:=aQ.mp r2;cases bx.mp r4;exact⟨i,j,by rw[aR.mp r1,aR.mp r3],p _ H G s.vD (aR.mpr rfl)⟩
theorem Lj{e e':ai}{p pos:Pos}(hc:X.calm=true) (hm:X.mg "max"=none) (ha:SE X B W e fa) (hb:SE X B W e' fb) (hg:Gl X "max":=by rfl) (he:bo [e,e'] X.env=[(false,ba e X.env),(false,ba e' X.env)]:=by rfl) (he':bo [e'] X.env=[(false,ba e' X.env)]:=by rfl) :
  SE X B W (.Call (.Name "max" p) [e,e'] [] pos) (fA (ao fa (ao fb aU)) Rv) :=
 lM (abd hc) ajg hg hm rfl (ak ha (ak hb aJ he') (by rw[he,he'])) (by decide) (by decide) (by rw[he,he']) (by rw[he'];rfl)
end
section
variable{X:Cx}{B:Bs}{W:Wi}
end
end Vl
namespace Dk
open PySem PySem.Spec
section
variable{prog:aE}{w:az}{A:a_}{E:aa->af->Prop}{s:af}{d it:ab}{es:Array oz}{ep:Nat}
def pX(h:Heap)(d:ab)(es:Array oz)(ep:Nat):Prop:=∃o,h.get? d=some o/\o.ExactDict/\o.data=.dict es ep
theorem pX.ty(x:pX s.heap d es ep):s.TypeIs (.ref d) "dict":=let ⟨o,ho,hc,_⟩:=x;⟨o,ho,hc.1⟩
theorem pX.go{h h':Heap}(x:pX h d es ep)(e:∀o,h.get? d=some o->h'.get? d=some o):pX h' d es ep:=let ⟨o,ho,r⟩:=x;⟨o,e o ho,r⟩
def kit(d:ab)(i n ep:Nat):Obj:={ cls:=.type "dict_keyiterator",data:=.fields #[.ref d,.int i 0,.int n 0,.int ep 0] }
theorem afl{h:Heap}{i n:Nat}(e:h.get? it=some (kit d i n ep)):h.IsKeyIter it d i n ep:=⟨_,e,rfl,rfl⟩
theorem alv{Q:aa->af->Prop}(hd:(d == iq)=false)(hm:pX s.heap d es ep)(hQ:Q (.ref s.heap.objs.size) { s with heap:=s.heap.push (kit d 0 es.size ep) }):ag (ah prog w) A (kB (.ref d)) Q E s:=by obtain⟨o,ho,hc,hdat⟩:=id hm;refine sP hm.ty F.slot_dict_iter (gT F.slot_dict_iter hm.ty F.entry_dict_iter ?_ (F.args_dict_iter_1 _));unfold Builtin.«dict.__iter__» cy.Dict.dictSlotNone;refine ae (ae (wpAny_notOrdered_dict hm.ty ?_));show ag _ _ (pure (aa.ref d)) _ _ s;refine ar ?_;show ag _ _ (cy.Dict.showsAll d >>= _) _ _ s;unfold cy.Dict.showsAll;rw[if_neg (by rw[hd];exact we)];refine ae (ar (ae (ye ho hdat (ae (yf ho hdat ?_)))));exact ae (gp (ar ⟨_,rfl,"dict_keyiterator",_,⟨_,dc _ rfl,rfl⟩,qa.lookup,hQ⟩))
theorem aqi{i:Nat}{Q:Option aa->af->Prop}(hit:s.heap.IsKeyIter it d i es.size ep)(hm:pX s.heap d es ep)(hx:i < es.size)
  (hQ:∀h',h'.IsKeyIter it d (i + 1) es.size ep->cS it s.heap h'->Q (some es[i].key) { s with heap:=h' }):ag (ah prog w) A (eA (.ref it)) Q E s:=by
 obtain⟨o,ho,hc,hd⟩:=id hit;obtain⟨od,hod,hcd,hdd⟩:=id hm;unfold eA;refine ae (kM (nI (name:=nK "__next__") hit.typeIs qa (gT qa hit.typeIs F.entry_dict_keyiterator_next ?_ (F.args_dict_keyiterator_next_1 _))));refine ae (ar (ae (ae (ae ?_))))
 first|refine uA hit.typeIs (ar ?_)|refine uB hit.typeIs (ar ?_)
 refine ae (sT ho hd ?_);simp only[show cy.Dict_items.ownsTuple "dict_keyiterator"=false by decide,aS,if_false];show ag _ _ (if (aa.ref d == aa.none)=true then _ else _) _ _ s;rw[if_neg (by intro z;cases z)];refine ae (ar (ae (ye hod hdd ?_)));rw[if_neg (by simp)];refine ae (ar (ae (yf hod hdd ?_)));rw[if_neg (by simp)];refine ar ?_;simp only[show ¬((i:Int) < 0) from by lia,if_false,mM,nN hx];refine ae (ae ?_)
 first|refine uA hit.typeIs (ar ?_)|refine uB hit.typeIs (ar ?_)
 refine ae (wpAny_isOneOf_keyiter hit.typeIs ?_);show ag _ _ (setField (.ref it) 1 (c_ ((i:Int) + 1)) >>= _) _ _ s;refine ae (o_ ho hd (by simp) ?_);have hit':(s.heap.update it (pd (·.setIfInBounds 1 (c_ ((i:Int) + 1))))).IsKeyIter it d (i + 1) es.size ep :=
  ⟨_,fy _ ho (xv (s_ hd _)),(Obj.cls_mapFields ..).trans hc,by rw[s_ hd];simp[c_]⟩
 refine ae (dP (ae ?_));refine wpAny_isOneOf_keyiter (s:={ s with heap:=s.heap.update it (pd (·.setIfInBounds 1 (c_ ((i:Int) + 1)))) }) hit'.typeIs ?_;show ag _ _ (pure es[i].key) _ _ _;exact ar (ar ⟨_,rfl,ar (hQ _ hit' (m_ ..))⟩)
theorem asx{Q:Option aa->af->Prop}(hh:A.handled=none)(hit:s.heap.IsKeyIter it d es.size es.size ep)(hm:pX s.heap d es ep)
  (hQ:∀h',td it s.heap h'->Q none { s with heap:=h' }):ag (ah prog w) A (eA (.ref it)) Q E s:=by
 obtain⟨o,ho,hc,hd⟩:=id hit;obtain⟨od,hod,hcd,hdd⟩:=id hm;unfold eA;refine ae (kM (nI (name:=nK "__next__") hit.typeIs qa (gT qa hit.typeIs F.entry_dict_keyiterator_next ?_ (F.args_dict_keyiterator_next_1 _))));refine ae (ar (ae (ae (ae ?_))))
 first|refine uA hit.typeIs (ar ?_)|refine uB hit.typeIs (ar ?_)
 refine ae (sT ho hd ?_);simp only[show cy.Dict_items.ownsTuple "dict_keyiterator"=false by decide,aS,if_false];show ag _ _ (if (aa.ref d == aa.none)=true then _ else _) _ _ s;rw[if_neg (by intro z;cases z)];refine ae (ar (ae (ye hod hdd ?_)));rw[if_neg (by simp)];refine ae (ar (ae (yf hod hdd ?_)));rw[if_neg (by simp)];refine ar ?_;simp only[show ¬((es.size:Int) < 0) from by lia,if_false,mM,tf (br _)];refine ae (ae ?_)
 first|refine uA hit.typeIs (ar ?_)|refine uB hit.typeIs (ar ?_)
 show ag _ _ (setField (.ref it) 0 .none >>= _) _ _ s;refine ae (o_ ho hd (by simp) ?_);show ag _ _ (newExc (.type "StopIteration") [] >>= _) _ _ _;refine ae ?_;simp only[newExc,newTuple];refine ae (gp ?_ (by size_fits));refine ae (m:=nL _ _) (iO (a:=aa.none) (by first|rfl|(simp only[nL];rfl)) ?_);refine gp ?_ (by size_fits);simp only[raiseNew];refine ae (xw ?_);rw[show A.in1.handled=none from hh];refine ae (ar (xx ?_));refine ae (kx (T:="StopIteration") (b:=true) ⟨_,dc _ rfl,rfl⟩ xy ?_);exact ar (hQ _ (((m_ ..).extBut.push _).push _))
theorem afm(hh:A.handled=none)(hne:d≠it) :
  Walks prog w A it [it,d] [it] es.size (fun i v=>∃e,es[i]?=some e/\v=e.key) (fun i h=>h.IsKeyIter it d i es.size ep/\pX h d es ep) where
 sub:=fun b hb=>by simp at hb;simp[hb]
 frame:=fun _ _ _ st hk=>⟨st.1.at fun o e=>hk it (by simp) o e,st.2.go fun o e=>hk d (by simp) o e⟩
 item:=fun i s Q E hi st hQ=>aqi st.1 st.2 hi fun h' hI hs=>hQ _ h' s.toks ⟨_,nN hi,rfl⟩ ⟨hI,st.2.go fun o e=>(hs.2 d hne).trans e⟩ fun b o hb e=>(hs.2 b (fun z=>hb (by simp[z]))).trans e
 done:=fun s Q E st hQ=>asx hh st.1 st.2 fun h' he=>hQ h' s.toks fun b o hb e=>he b o (fun z=>hb (by simp[z])) e
 self:=fun _ _ _ _ st hQ=>wpAny_pyIter_keyiter st.1 hQ
theorem alw{Q:Bool->af->Prop}(hm:pX s.heap d es ep)(h:Q false s):ag (ah prog w) A (tj (.ref d)) Q E s:=by
 unfold tj;refine ae (m9 hm.ty F.slot_dict_len.lookup ?_);have e1:splitId "dict.__len__"=some ("dict","__len__"):=by kernel_rfl
 simp only[e1];refine ae (kx (b:=true) hm.ty (by rw[j7];kernel_rfl) ?_);simp only[dS,aS,if_false];have pick:∀{c:Bool}{x y:Sem Bool},c=true->ag (ah prog w) A x Q E s->ag (ah prog w) A (if c=true then x else y) Q E s:=fun {c x y} hc hy=>by rw[hc];exact hy
 refine pick (by decide+kernel) ?_;exact ae (mT hm.ty (ar h))
abbrev cP:Obj:=Tb.cP
theorem afn{D:ab}{Q:List aa->af->Prop}(hh:A.handled=none)(hd:(D == iq)=false)(ho:pX s.heap D es ep)(hn:es.size<=1000)
  (hQ:∀h' tk,(∀b o,s.heap.get? b=some o->h'.get? b=some o)->s.heap.objs.size<=h'.objs.size->Q (es.toList.map (·.key)) { s with heap:=h',toks:=tk }):ag (ah prog w) A (collect (.ref D)) Q E s:=by
 have sH:D < s.heap.objs.size:=by obtain⟨o,e,_⟩:=id ho;exact bu e
 unfold collect;refine ae (sD (gr F.entry_proto_collect ?_));rw[gS F.plain_proto_collect _];show ag _ A.in1 (newList [] >>= fun l=>again (.builtin "list.__iadd__" ⟨[l,.ref D],[]⟩)) _ _ s;refine ae (gp ?_);refine ar ⟨fF tm _,gr F.entry_list_iadd ?_⟩;rw[gS tm _];have p1:∀b o,s.heap.get? b=some o->(s.heap.push cP).get? b=some o:=fun b o e=>bX _ e;have hD1:pX (s.heap.push cP) D es ep:=ho.go fun o e=>p1 _ _ e;have hS1:(s.heap.push cP).get? s.heap.objs.size=some cP:=dc _ rfl;show ag _ A.in1 (kN (.ref s.heap.objs.size) (.ref D) (.ref s.heap.objs.size)) _ _ _;unfold kN;have hT:xn { s with heap:=s.heap.push cP } (.ref D) "dict":=pX.ty (s:={ s with heap:=s.heap.push cP }) hD1;refine ae (mT hT ?_);have k1:nS (.ref s.heap.objs.size) (.ref D)=false:=by simp[nS];exact hG sH
 have k2:(aa.type "dict" == aa.type "list")=false:=by decide
 have k3:(aa.type "dict" == aa.type "tuple")=false:=by decide
 simp only[k1,k2,k3,sm,aS,if_false];refine ae (alv hd hD1 ?_);have p2:∀b o,(s.heap.push cP).get? b=some o->((s.heap.push cP).push (kit D 0 es.size ep)).get? b=some o:=fun b o e=>bX _ e;have hD2:pX ((s.heap.push cP).push (kit D 0 es.size ep)) D es ep:=hD1.go fun o e=>p2 _ _ e;have hS2:=p2 _ _ hS1;have hI2:((s.heap.push cP).push (kit D 0 es.size ep)).get? (s.heap.push cP).objs.size=some (kit D 0 es.size ep):=dc _ rfl;have KN:(s.heap.push cP).objs.size=s.heap.objs.size + 1:=mI ..;refine ae (dP (alw hD2 ?_));have pick:∀{c:Bool}{x y:Sem k9}{R:k9->af->Prop}{F':aa->af->Prop}{s':af},c=true->ag (ah prog w) A.in1 x R F' s'->ag (ah prog w) A.in1 (if c=true then x else y) R F' s':=fun {c x y R F' s'} hc hy=>by rw[hc];exact hy
 refine pick (by decide+kernel) ?_;refine ae (gu ?_);refine ae ?_;show ag _ A.in1 (j9 s.heap.objs.size (·.push .none) >>= fun _=>j9 s.heap.objs.size (·.pop)) _ _ _;refine ae (gx hS2 rfl ?_);have hS3:=fy (di (·.push aa.none)) hS2 rfl;refine gx hS3 rfl ?_;have Gj:=fy (di (·.pop)) hS3 rfl;generalize hH:(((s.heap.push cP).push (kit D 0 es.size ep)).update s.heap.objs.size (di (·.push aa.none))).update s.heap.objs.size (di (·.pop))=H at Gj;have oth:∀b o,b≠s.heap.objs.size->((s.heap.push cP).push (kit D 0 es.size ep)).get? b=some o->H.get? b=some o:=fun b o hb e=>by rw[<- hH];exact(eS _ _ (de hb)).trans ((eS _ _ (de hb)).trans e)
 have W:=(afm (prog:=prog) (w:=w) (A:=A.in1) (d:=D) (it:=(s.heap.push cP).objs.size) (es:=es) (ep:=ep) (by simpa using hh) (by rw[KN];exact bP (iE sH))).toS;have hSf:s.heap.objs.size∉[(s.heap.push cP).objs.size,D]:=by simp only[bz,gd,or_false,not_or];exact⟨by rw[KN];exact bP (Nat.lt_succ_self _),hG sH⟩
 refine ar ⟨fF tq _,xC W (by rw[d8];lia) s.heap.objs.size hSf _ es.size 0 _ _ _ rfl (eC _) ⟨afl (oth _ _ (by rw[KN];exact sM _) hI2),hD2.go fun o e=>oth _ _ (bP sH) e⟩ Gj (xD _) fun s' acc c hm hS' hacc=>?_⟩;show ag _ A (load s.heap.objs.size >>= _) _ _ s';refine ae (wpAny_load hS' ?_);have hacc':acc.toList=es.toList.map (·.key):=by
  apply tw;intro i;rw[cE,h_,h_];cases e:acc[i]? with
  |some v =>
   obtain⟨x,hx,rfl⟩:=hacc.2 i v e;rw[hx];rfl
  |none =>
   have:acc.size<=i:=by simpa using e
   rw[hacc.1]at this;rw[tf this];rfl
 obtain⟨h',g',d',tk',os'⟩:=s';have eg:g'=s.gens:=hm.gens;have ed:d'=s.drawn:=hm.drawn;have eo:os'=s.os:=hm.os;subst eg ed eo;show ag _ _ (pure acc.toList) _ _ _;rw[hacc'];refine ar (hQ h' tk' (fun b o e=>hm.heap b o ?_ (oth b o (bP (bu e)) (p2 _ _ (p1 _ _ e)))) (gL (bu hS')));simp only[bz,gd,or_false,not_or];exact⟨bP (bu e),by rw[KN];exact bP (iE (bu e))⟩
end
end Dk
namespace Vl
open PySem PySem.Spec L2 So Tb
section
variable{X:Cx}{B:Bs}{W:Wi}{K:aw}
def anu(K:aw):List V->Hp->VK->Prop:=fun xs H Q=>∃(a:ab) (U:ab->List Int->Prop) (cj:List (List Int×V)),xs=[.ref a]/\H a=some (.ext (nJ U a cj))/\(∀b ks,U b ks->UG K H b ks)/\cj.length < 1000/\(∀p∈cj,p.1≠[]) /\
 ∀l zs,H l=none->zs.length=(cF (cj.map (·.1))).length->(∀(i:Nat) v,zs[i]?=some v->∃b,v=.ref b/\U b ((cF (cj.map (·.1))).getD i []))->Q (.ref l) (upd H l (.lst zs))
theorem sZ{U:ab->List Int->Prop}:∀{cj:List (List Int×V)}{xs:List (List Int×ab×aa)},Paired (fun(p:List Int×V) (q:List Int×ab×aa)=>p.1=q.1/\U q.2.1 q.1/\RelV p.2 q.2.2) cj xs ->
  xs.map (·.1)=cj.map (·.1)/\∀x∈xs,U x.2.1 x.1
 | [],_,.nil=>⟨rfl,fun _ h=>by cases h⟩
 |p::cj,q::xs,.cons r t=>by
  obtain⟨e,m⟩:=sZ t;refine⟨by rw[ck,ck,e,r.1],fun x hx=>?_⟩;rcases bz.mp hx with rfl|hx
  ·exact r.2.1
  ·exact m x hx
theorem Xu(hc:X.calm=true):gw X (.builtin "sorted") (anu X.K):=by
 intro pins s σ H xs us Q I r h;obtain⟨a,U,cj,rfl,hH,hU,hz,hne,q⟩:=h;obtain⟨u,rfl,rx⟩:=r.one;cases rx;obtain⟨⟨o,es,ep,ys,ho,hx,hdat,hsys,hes,hnd,hp⟩,_⟩:=I.hok _ _ hH;obtain⟨ek,hu⟩:=sZ hp;have hlen:ys.length=cj.length:=by have:=congrArg f9 ek;simpa using this
 have hsz:es.size=ys.length:=by have:=congrArg f9 hes;simpa using this
 have evs:es.toList.map (·.key)=ys.map fun x=>aa.ref x.2.1:=by rw[hes,d5];rfl
 have each:∀(i:Nat) v,(ys.map fun x=>aa.ref x.2.1)[i]?=some v->∃b,v=.ref b/\cv (bE X.prog X.w) s.heap ((ys.map (·.1)).getD i []) b/\U b ((ys.map (·.1)).getD i []):=fun i v hv=>by
  rw[cE]at hv;cases e:ys[i]? with
  |none=>rw[e]at hv;cases hv
  |some x =>
   rw[e]at hv;have hg:(ys.map (·.1)).getD i []=x.1:=by rw[fE,cE,e];rfl
   rw[hg];have hux:=hu x (kg e);exact⟨x.2.1,(dq hv).symm,vQ I (hU _ _ hux),hux⟩
 have hd0:Dk.pX s.heap a es ep:=⟨o,ho,hx,hdat⟩
 refine So.uF (vs:=ys.map fun x=>aa.ref x.2.1) (aH:=ys.map (·.1)) (fun Q' E' hq=>?_) ⟨by simp,fun i v hv=>let ⟨b,h1,h2,_⟩:=each i v hv;⟨b,h1,h2⟩⟩ (fun ks hks=>?_) (by simp;lia) fun h' tk l n p' k hl' hsp hg=>?_
 ·have:=Dk.afn (prog:=X.prog) (w:=X.w) (A:=X.A.in1) (E:=E') (Q:=Q') (by simpa using I.ok.hd hc) hsys hd0 (by lia) (by rw[evs];exact hq);exact this
 ·rw[ek]at hks;obtain⟨p,hp',rfl⟩:=b0.mp hks;exact hne p hp'
 ·have ho':=qR (U:=U) (vs:=ys.map fun x=>aa.ref x.2.1) (aH:=ys.map (·.1)) (oF:=ys.map (·.1)) ⟨by simp,fun i v hv=>let ⟨b,h1,_,h3⟩:=each i v hv;⟨b,h1,h3⟩⟩ hsp (.refl _);obtain⟨zs,r1,zl,zv⟩:=aeW ho';rw[ek]at zl zv;have Ro:H l=none:=I.hok.fresh hl';refine⟨.ref l,_,I.laid (t':=tk) k hl' (show dY X.prog X.w _ h' _ (.lst zs) from⟨?_,_,n,r1,hg⟩),rfl,q l zs Ro zl zv⟩;have:(cF (cj.map (·.1))).length=(cj.map (·.1)).length:=(fD _).length_eq;rw[zl,this,d8];simp;lia
def vX(j:Nat):aK->Rs D:=fun ρ=>match ρ[j]? with
 |some (.od kvs)=>if kvs.length < 1000/\∀p∈kvs,p.1≠[] then .ok (.lst ((cF (kvs.map (·.1))).map yT)) else .no
 |_=>.no
theorem fM.keys{G:Hp}{kvs:List (List Int×D)}{cj:List (List Int×V)}(h:fM K G kvs cj):cj.map (·.1)=kvs.map (·.1):=by
 induction h with
 |nil=>rfl
 |cons r t ih=>rw[ck,ck,ih]
theorem Rw(j:Nat) {x:Str}{p p1 pos:Pos}(hc:X.calm=true) (hm:X.mg "sorted"=none) (hN:X.N[j]?=some x:=by rfl) (hv:Vis X.env.scope x:=by first|exact Or.inl rfl|exact Or.inr (Or.inl rfl)|exact Or.inr (Or.inr rfl)) (hd:(x == ("__debug__":Str))=false:=by decide)
  (hcd:(x == ("__classdict__":Str))=false:=by decide) (hg:Gl X "sorted":=by rfl) (he:bo [.Name x p1] X.env=[(false,ba (.Name x p1) X.env)]:=by rfl) :
  SE X B W (.Call (.Name "sorted" p) [.Name x p1] [] pos) (vX j):=by
 refine PE.imp (wN (Xu hc) hg hm uk (iC (nH hN hv hd hcd) jX he) (by decide) (by decide) he rfl) fun σ H Q fH=>?_;obtain⟨ρ,G,s,pp⟩:=fH;unfold vX at pp;split at pp
 ·rename_i kvs q;split at pp
  ·rename_i hc2;obtain⟨a,o,h1,h2,h3,h4,U,cj,rfl,hU,hk⟩:=s.own j _ q rfl;have ek:=hk.keys;have el:cj.length=kvs.length:=by have:=congrArg f9 ek;simpa using this
   refine⟨_,h1,a,U,cj,rfl,h2,fun b ks z=>Same.fW s.en.gh (hU b ks z),by lia,fun p hp=>?_,fun l zs hl hz hv'=>?_⟩
   ·have:p.1∈kvs.map (·.1):=ek▸gy hp;obtain⟨p',hp',e⟩:=b0.mp this;exact e▸hc2.2 p' hp'
   ·rw[ek]at hz hv';have x:=jF (xs:=zs) s.en.gh s.en.tp hl;refine pp _ _ _ x (aY.mpr ⟨l,zs,rfl,.of bF,(nu hz fun i v hv2=>?_).mono x.gg⟩);obtain⟨b,e1,e2⟩:=hv' i v hv2;exact⟨b,e1,hU b _ e2⟩
  ·exact pp.elim
 ·exact pp.elim
end
end Vl
namespace Zp
open PySem PySem.Spec
section
variable{prog:aE}{w:az}{A:a_}{E:aa->af->Prop}{s:af}
end
structure Ap (z TI TO i1 i2:ab)(f1 f2:List ab):Prop where
 zTI:TI≠z
 zTO:TO≠z
 TT:TI≠TO
 z1:z∉f1
 z2:z∉f2
 o1:TO∉f1
 o2:TO∉f2
 t1:TI∉f1
 t2:TI∉f2
 m1:i1∈f1
 m2:i2∈f2
 c1:i2∉f1
 c2:i1∉f2
section
variable{prog:aE}{w:az}{A:a_}{E:aa->af->Prop}{s:af}{z TI TO i1 i2:ab}{f1 f2:List ab}{n1 n2 k:Nat}{P1 P2:Nat->aa->Prop}{S1 S2:Nat->Heap->Prop}{a b:aa}
end
section
variable{prog:aE}{w:az}{A:a_}{E:aa->af->Prop}{s:af}
end
end Zp
namespace L2
open PySem PySem.Spec PyProof.Rows
section
variable{X:Cx}
end
end L2
namespace Vl
open PySem PySem.Spec L2
section
variable{X:Cx}{B:Bs}{W:Wi}{K:aw}{G:Hp}
end
end Vl
namespace Vl
open PySem PySem.Spec PySem.Calls PySem.W L2
section
variable{X:Cx}{K:aw}{B:Bs}{W:Wi}{σ:St}{G H:Hp}{ρ:aK}
def Rx(i:Nat)(f:aK->Rs D):aK->Ou:=fun ρ=>oR (f ρ) ρ fun d=>match d with
 | .lst ds=>.nx (ρ.set i (.ow ds))
 | .tup ds=>.nx (ρ.set i (.ow ds))
 |_=>.no
theorem ajh(i:Nat) {x:Str}{e:ai}{pos pos' p cp:Pos}{f:aK->Rs D}(hN:X.N.Nodup) (hm:X.mg "list"=none) (he:SE X B W e f) (hi:X.N[i]?=some x:=by rfl) (hx:Wm X.env.scope x:=by first|exact Or.inl rfl|exact Or.inr rfl)
  (hs:fm (.Call (.Name "list" p) [e] [] cp) (some (.Name x pos')) pos.line X.env=pure false:=by rfl) (hf:X.fn x=true∨X.env.scope.names.lookup x=some .local:=by first|exact .inl rfl|exact .inr rfl|assumption) (hg:Gl X "list":=by rfl) (hst:bo [e] X.env=[(false,ba e X.env)]:=by rfl) :
  SS X B W (.Assign [.Name x pos'] (.Call (.Name "list" p) [e] [] cp) pos) (Rx i f):=by
 refine PS.imp (JH hN hi hx (uo wO hg hm x6 (iC he jX hst) (by decide) (by decide) hst rfl) hs hf) fun De σ H fH=>?_;obtain⟨ρ,G,s,p⟩:=fH;unfold Rx at p;refine⟨ρ,G,s,gQ s p fun d v H' G' _ y r p'=>?_⟩;cases d with
 |lst ds =>
  obtain⟨a,vs,rfl,q,rr⟩:=aY.mp r;exact⟨a,vs,rfl,.inl (y.gh.seq q),fun c hc=>p' _ _ G' ((s.ext y).adN rr hc) (.refl _)⟩
 |tup ds =>
  obtain⟨a,vs,rfl,q,rr⟩:=bD.mp r;exact⟨a,vs,rfl,.inr (Same.fW y.gh q),fun c hc=>p' _ _ G' ((s.ext y).adN rr hc) (.refl _)⟩
 |_=>exact p'.elim
theorem bN.set:∀{ds:List D}{vs:List V}{d:D}{v:V}(j:Nat),bN K G ds vs->Rep K G d v->bN K G (ds.set j d) (vs.set j v)
 | [],_,_,_,_,h,_=>by rw[bx.mp h];exact bx.mpr rfl
 |e::ds,_,d,v,0,h,r=>by obtain⟨u,us,rfl,h1,h2⟩:=aQ.mp h;exact aQ.mpr ⟨v,us,rfl,r,h2⟩
 |e::ds,_,d,v,j + 1,h,r=>by obtain⟨u,us,rfl,h1,h2⟩:=aQ.mp h;exact aQ.mpr ⟨u,_,rfl,h1,bN.set j h2 r⟩
theorem bN.erase:∀{ds:List D}{vs:List V}(j:Nat),bN K G ds vs->bN K G (ds.eraseIdx j) (vs.eraseIdx j)
 | [],_,_,h=>by rw[bx.mp h];exact bx.mpr rfl
 |e::ds,_,0,h=>by obtain⟨u,us,rfl,h1,h2⟩:=aQ.mp h;exact h2
 |e::ds,_,j + 1,h=>by obtain⟨u,us,rfl,h1,h2⟩:=aQ.mp h;exact aQ.mpr ⟨u,_,rfl,h1,bN.erase j h2⟩
def Jc(i:Nat)(fe fk:aK->Rs D):aK->Ou:=fun ρ=>oR (fe ρ) ρ fun v=>match ρ[i]? with
 |some (.ow ds)=>oR (fk ρ) ρ fun k=>(match k with
  | .int k=>(match JK ds.length k with|some j=>.nx (ρ.set i (.ow (ds.set j v)))|none=>.no)
  |_=>.no)
 |_=>.no
theorem aji(i:Nat) {e b:ai}{x:Str}{p1 tp pos:Pos}{fe fk:aK->Rs D}(he:SE X B W e fe) (hb:SE X B W b fk) (hN:X.N[i]?=some x:=by rfl) (hv:Vis X.env.scope x:=by first|exact Or.inl rfl|exact Or.inr (Or.inl rfl)|exact Or.inr (Or.inr rfl)) (hd:(x == ("__debug__":Str))=false:=by decide)
  (hcd:(x == ("__classdict__":Str))=false:=by decide)
  (hs:l9 [.Subscript (.Name x p1) b tp] e pos.line X.env=pure false:=by rfl) (hw:l_ [.Subscript (.Name x p1) b tp] e X.env=pure none:=by rfl)
  (h1:(f6 [.Subscript (.Name x p1) b tp] X.env).map (·.2)=[assign (.Subscript (.Name x p1) b tp) X.env]:=by rfl)
  (ha:∀v,assign (.Subscript (.Name x p1) b tp) X.env v=(do
   let ov <- ef [v] (ba (.Name x p1) X.env)
   let iv <- ef [v,ov] (ba b X.env)
   l6 tp
   ef [v,ov,iv] (setItem ov iv v)
   release [v,ov,iv] []):=by intro _;rfl) :
  SS X B W (.Assign [.Subscript (.Name x p1) b tp] e pos) (Jc i fe fk):=by
 refine PS.imp (Wq he (ada (nH hN hv hd hcd) hb adq ha) hs hw h1) fun De σ H fH=>?_;obtain⟨ρ,G,s,p⟩:=fH;unfold Jc at p;refine⟨ρ,G,s,gQ s p fun d v H' G' _ y r p'=>?_⟩;cases e2:ρ[i]? with
 |none=>rw[e2]at p';exact p'.elim
 |some z =>
  rw[e2]at p';cases z with
  |ow ds =>
   have s':=s.ext y;obtain⟨a,vs,q1,q2,q3,q4,q5⟩:=s'.ow i ds e2;refine⟨_,q1,ρ,G',s',gQ s' p' fun k v2 H2 G2 _ y2 r2 p2=>?_⟩;cases k with
   |int k =>
    dsimp only at p2;cases e3:JK ds.length k with
    |none=>rw[e3]at p2;exact p2.elim
    |some j =>
     rw[e3]at p2;rw[aR.mp r2];exact⟨a,vs,k,j,rfl,rfl,y2.hh _ _ q2,by rw[<- q5.length];exact e3,p2 σ _ G2 ((s'.ext y2).write e2 q1 (bN.set j (q5.mono y2.gg) (r.mono y2.gg))) (.refl _)⟩
   |_=>exact p2.elim
  |_=>exact p'.elim
def Jd(i:Nat)(f:aK->Rs D):aK->Ou:=fun ρ=>match ρ[i]? with
 |some (.ow ds)=>oR (f ρ) ρ fun k=>(match k with
  | .int k=>if 0<=k/\k < ds.length/\ds.length<=1000000 then .nx (ρ.set i (.ow (ds.eraseIdx k.toNat))) else .no
  |_=>.no)
 |_=>.no
theorem ajj(i:Nat) {x:Str}{e:ai}{pos p1 p2 cp:Pos}{f:aK->Rs D}(he:SE X B W e f) (hN:X.N[i]?=some x:=by rfl) (hv:Vis X.env.scope x:=by first|exact Or.inl rfl|exact Or.inr (Or.inl rfl)|exact Or.inr (Or.inr rfl)) (hd:(x == ("__debug__":Str))=false:=by decide)
  (hcd:(x == ("__classdict__":Str))=false:=by decide) (hst:bo [e] X.env=[(false,ba e X.env)]:=by rfl)
  (hbase:k0 (.Name x p1) "pop" X.env (ba (.Name x p1) X.env)=ba (.Name x p1) X.env:=by rfl)
  (hfew:((d6 cp (bo [e] X.env)).all (fun x=>!x.1) && (ja cp (jb [] X.env)).all (fun x=>x.1.isSome)
   && decide (([e]:List ai).length + ([]:List kd).length + (if ([]:List kd).isEmpty then 0 else 1) < 30))=true:=by rfl)
  (hline:(p2.endLine == cp.line)=true:=by rfl) (hplain:(d6 cp (bo [] X.env)).any (·.1)=false:=by rfl)
  (hs:fm (.Call (.Attribute (.Name x p1) "pop" p2) [e] [] cp) none pos.line X.env=pure false:=by rfl) :
  SS X B W (.Expr (.Call (.Attribute (.Name x p1) "pop" p2) [e] [] cp) pos) (Jd i f):=by
 refine PS.imp (JG (adt x5 PySem.F.slot_list_pop PySem.F.type_list_pop adw (nH hN hv hd hcd) (iC he jX hst) hbase hfew hline hst hplain) hs) fun De σ H fH=>?_;obtain⟨ρ,G,s,p⟩:=fH;unfold Jd at p;cases q:ρ[i]? with
 |none=>rw[q]at p;exact p.elim
 |some z =>
  rw[q]at p;cases z with
  |ow ds =>
   obtain⟨a,vs,e1,h2,h3,h4,h5⟩:=s.ow i ds q;refine⟨_,e1,.inl ⟨rfl,vs,.of h2⟩,ρ,G,s,gQ s p fun d v H' G' _ x r p'=>?_⟩;cases d with
   |int k =>
    dsimp only at p';by_cases hc:0<=k/\k < ds.length/\ds.length<=1000000
    ·rw[if_pos hc]at p';have s':=s.ext x;have hl:=h5.length;have hk:k.toNat < vs.length:=by lia
     have hix:ot k vs.length=some k.toNat:=(JL (n:=vs.length) (i:=k) (j:=k.toNat) (by unfold JK;rw[if_pos (by lia),if_pos (by lia)])).1;rw[aR.mp r];exact⟨a,vs,k,k.toNat,vs[k.toNat],rfl,rfl,x.hh _ _ h2,by lia,by lia,hix,eI hk,p' σ _ G' (s'.write q e1 (bN.erase k.toNat (h5.mono x.gg))) (.refl _)⟩
    ·rw[if_neg hc]at p';exact p'.elim
   |_=>exact p'.elim
  |_=>exact p.elim
def afo:List D->Rs D
 | [.int i]=>.ok (.int (if i < 0 then-i else i))
 |_=>.no
theorem anv:pQ K (fun xs H Q=>∃i,xs=[V.int i]/\Q (.int (if i < 0 then-i else i)) H) afo:=by
 intro B W σ ρ G H ds vs Q s r p;unfold afo at p;split at p
 ·rename_i i;obtain⟨v1,vs1,rfl,r1,r2⟩:=aQ.mp r;cases bx.mp r2;exact⟨i,by rw[aR.mp r1],p _ H G s.vD (aR.mpr rfl)⟩
 ·exact p.elim
theorem afp{e:ai}{p pos:Pos}{fa:aK->Rs D}(hm:X.mg "abs"=none) (ha:SE X B W e fa) (hg:Gl X "abs":=by rfl) (he:bo [e] X.env=[(false,ba e X.env)]:=by rfl):SE X B W (.Call (.Name "abs" p) [e] [] pos) (fA (ao fa aU) afo) :=
 lM adi anv hg hm rfl (ak ha aJ he) (by decide) (by decide) he rfl
end
end Vl
namespace Vl
open PySem PySem.Spec L2
def rT:List Int->Int
 | []=>0
 | [n]=>n
 |n::ns=>if rT ns < n then n else rT ns
theorem aav:∀{ns:List Int},0 < ns.length->rT ns∈ns/\∀a∈ns,a<=rT ns
 | [n],_=>⟨by simp[rT],fun a h=>by simp at h;rw[h];simp[rT]⟩
 |n::m::ns,_=>by
  obtain⟨h1,h2⟩:=aav (ns:=m::ns) (by simp);show(if rT (m::ns) < n then n else rT (m::ns))∈n::m::ns/\∀a∈n::m::ns,a<=if rT (m::ns) < n then n else rT (m::ns);split
  ·refine⟨dA,fun a ha=>?_⟩;rcases bz.mp ha with rfl|ha
   ·exact g7 _
   ·have:=h2 a ha;lia
  ·refine⟨dQ _ h1,fun a ha=>?_⟩;rcases bz.mp ha with rfl|ha
   ·lia
   ·exact h2 a ha
section
variable{X:Cx}{B:Bs}{W:Wi}{K:aw}
theorem abH(hc:X.calm=true):gw X (.builtin "max") (fun xs H Q=>∃p ns,xs=[.ref p]/\pO X.K H p (ns.map V.int)/\0 < ns.length/\Q (.int (rT ns)) H):=by
 intro pins s σ H xs us Q I r h;obtain⟨p,ns,rfl,hs,hne,q⟩:=h;obtain⟨u,rfl,rx⟩:=r.one;cases rx;obtain⟨its,rv,pl,_⟩:=I.list hs;have hi:=CT rv;obtain⟨ys,e⟩:=hi.allInts.items;have hns:ns=ys.toList.map (·.1):=by rw[<- hi.numsOf,<- nums_intItems,<- e]
 have hsz:0 < ys.size:=by have h3:=hne;rw[hns,cb,fR]at h3;exact h3
 have hl:=pl.isList;rw[e]at hl;refine max_intList (I.ok.hd hc) hl hsz fun v h' tk hv hk=>?_;obtain⟨t,rfl⟩:=intItems_at hv;obtain⟨b1,b2⟩:=argBest_gt (ka ys) (ys.size - 1);have m1:ka ys (dk (fun i j=>decide (ka ys i > ka ys j)) (ys.size - 1))∈ns:=by rw[hns,PySem.numAt_eq];exact PySem.getD_mem (by rw[cb,fR];lia)
 have m2:∀a∈ns,a<=ka ys (dk (fun i j=>decide (ka ys i > ka ys j)) (ys.size - 1)):=fun a ha=>by rw[hns]at ha;obtain⟨j,hj,rfl⟩:=PySem.mem_getD ha;rw[cb,fR]at hj;rw[<- PySem.numAt_eq];exact b2 j (by lia)
 obtain⟨k1,k2⟩:=aav hne;have em:ka ys (dk (fun i j=>decide (ka ys i > ka ys j)) (ys.size - 1))=rT ns:=Int.le_antisymm (k2 _ m1) (m2 _ k1);exact⟨.int (rT ns),H,I.kept (t':=tk) hk,⟨t,by rw[em]⟩,q⟩
def Je(best:List Int->Int):List D->Rs D
 | [.lst ds]=>(match jL ds with|some ns=>if 0 < ns.length then .ok (.int (best ns)) else .no|none=>.no)
 |_=>.no
theorem ajk{best:List Int->Int}:pQ K (fun xs H Q=>∃p ns,xs=[V.ref p]/\pO K H p (ns.map V.int)/\0 < ns.length/\Q (.int (best ns)) H) (Je best):=by
 intro B W σ ρ G H ds vs Q s r p;unfold Je at p;split at p
 ·rename_i ds;obtain⟨v,vs',rfl,r1,r2⟩:=aQ.mp r;obtain⟨a,us,rfl,q,rr⟩:=aY.mp r1;rw[bx.mp r2];split at p
  ·rename_i ns ei;split at p
   ·rename_i hc;rw[xP ei]at rr;have eu:=mO rr;subst eu;exact⟨a,ns,rfl,s.en.gh.seq q,hc,p _ H G s.vD (aR.mpr rfl)⟩
   ·exact p.elim
  ·exact p.elim
 ·exact p.elim
theorem ajl{e:ai}{p pos:Pos}{fa:aK->Rs D}(hc:X.calm=true) (hm:X.mg "max"=none) (ha:SE X B W e fa) (hg:Gl X "max":=by rfl) (he:bo [e] X.env=[(false,ba e X.env)]:=by rfl):SE X B W (.Call (.Name "max" p) [e] [] pos) (fA (ao fa aU) (Je rT)) :=
 lM (abH hc) ajk hg hm rfl (ak ha aJ he) (by decide) (by decide) he rfl
end
end Vl
namespace L2
open PySem PySem.Spec PyProof.Rows
section
variable{X:Cx}
end
end L2
namespace Vl
open PySem PySem.Spec L2
section
variable{X:Cx}{B:Bs}{W:Wi}{K:aw}{G:Hp}
end
end Vl
namespace Tb
open PySem PySem.SetTable
def wd(p:Probe)(d:Option Nat):Probe:={ p with dummy:=d }
theorem vY(t:bq)(p:Probe)(d:Option Nat):t.advance (wd p d)=wd (t.advance p) d:=by unfold advance wd;simp only;split <;> rfl
def Emp(t:bq)(j:Nat):Prop:=¬qK t j/\has t.dummies j=false
theorem afq{t:bq}{j:Nat}(h:¬qK t j):¬(t.place[below t.place j]? == some j)=true:=by
 intro c;apply h;have c':t.place[below t.place j]?=some j:=by simpa using c
 obtain⟨hl,e⟩:=ic.mp c';exact⟨_,hl,by simp[eL,hl,e]⟩
theorem afr{t:bq}{j:Nat}(h:Emp t j):t.slot j=.empty:=by unfold slot;simp only;rw[if_neg (afq h.1),if_neg (by rw[h.2];simp)]
theorem afs{t:bq}{j:Nat}(h:¬qK t j)(hd:has t.dummies j=true):t.slot j=.dummy:=by unfold slot;simp only;rw[if_neg (afq h),if_pos hd]
theorem anw{t:bq}(R:rQ t.place)(hashAt:Nat->Int)(h:Int):∀(fuel s0 s1:Nat) (d:Option Nat),s0<=s1->s1 < s0 + fuel->Emp t (pos t h s1) ->
    ∃s2 d',s0<=s2/\s2<=s1/\(∀s,s0<=s->s < s2->(∃i,i < t.place.size/\t.place.getD i 0=pos t h s/\hashAt i≠h)∨(¬qK t (pos t h s)/\has t.dummies (pos t h s)=true)) /\
      ((Emp t (pos t h s2) /\ probe.go t hashAt h fuel (wd (lN t s0 (t.probeStart h)) d) = some (.empty (pos t h s2) d')) ∨
       ∃i,i < t.place.size/\t.place.getD i 0=pos t h s2/\hashAt i=h/\probe.go t hashAt h fuel (wd (lN t s0 (t.probeStart h)) d)=some (.candidate (pos t h s2) i (wd (lN t (s2 + 1) (t.probeStart h)) d'))):=by
  intro fuel
  induction fuel with
  |zero=>intro s0 s1 d h1 h2;lia
  |succ fuel ih =>
    intro s0 s1 d h1 h2 hl;unfold probe.go;by_cases c:qK t (pos t h s0)
    . obtain⟨i,hi,e1,e2⟩:=xu R c
      have e2':t.slot (wd (lN t s0 (t.probeStart h)) d).j=.live i:=e2;rw[e2'];simp only;by_cases q:hashAt i=h
      . refine⟨s0,d,br _,h1,fun s a b=>absurd a (by lia),.inr ⟨i,hi,e1,q,?_⟩⟩
        rw[if_pos (by simp[q]),jJ,vY];rfl
      . rw[if_neg (by simp[q]),vY,<- jJ]
        have hne:s0≠s1:=fun z=>hl.1 (z▸c);obtain⟨s2,d',a1,a2,a3,a4⟩:=ih (s0 + 1) s1 d (by lia) (by lia) hl;refine⟨s2,d',by lia,a2,fun s b1 b2=>?_,a4⟩;by_cases z:s=s0
        . subst z;exact .inl ⟨i,hi,e1,q⟩
        . exact a3 s (by lia) b2
    . cases hd:has t.dummies (pos t h s0) with
      |true =>
        have e2:t.slot (wd (lN t s0 (t.probeStart h)) d).j=.dummy:=afs c hd;rw[e2];simp only;have e3:t.advance { wd (lN t s0 (t.probeStart h)) d with dummy:=some (wd (lN t s0 (t.probeStart h)) d).j }=wd (lN t (s0 + 1) (t.probeStart h)) (some (pos t h s0)):=by rw[jJ,<- vY];rfl
        rw[e3];have hne:s0≠s1:=fun z=>by have:=hl.2;rw[<- z,hd]at this;cases this
        obtain⟨s2,d',a1,a2,a3,a4⟩:=ih (s0 + 1) s1 (some (pos t h s0)) (by lia) (by lia) hl;refine⟨s2,d',by lia,a2,fun s b1 b2=>?_,a4⟩;by_cases z:s=s0
        . subst z;exact .inr ⟨c,hd⟩
        . exact a3 s (by lia) b2
      |false =>
        refine⟨s0,d,br _,h1,fun s a b=>absurd a (by lia),.inl ⟨⟨c,hd⟩,?_⟩⟩;have e2:t.slot (wd (lN t s0 (t.probeStart h)) d).j=.empty:=afr ⟨c,hd⟩;rw[e2];rfl
theorem Jf{l:List Nat}:rQ l.toArray↔l.Pairwise (· < ·):=by
 rw[j5];constructor
 ·intro R i j hi hj hij;have:=R i j hij (by simpa using hj);simpa[eL,hi,hj] using this
 ·intro P a b hab hb;have hb':b < l.length:=by simpa using hb
  have:=P a b (by lia) hb' hab;have ha':a < l.length:=by lia
  simpa[eL,ha',hb'] using this
theorem uI{l:List Nat}(R:rQ l.toArray){j:Nat}:has l.toArray j=true↔j∈l:=by
 unfold has;constructor
 ·intro c;have c':l.toArray[below l.toArray j]?=some j:=by simpa using c
  have:l[below l.toArray j]?=some j:=by simpa using c'
  exact kg this
 ·intro hm;obtain⟨i,hi,e⟩:=f_.mp hm;have hi':i < l.toArray.size:=by simpa using hi
  have e1:l.toArray.getD i 0=j:=by simp[eL,hi,e]
  have:=Qz R hi';rw[e1]at this;rw[this];simp[hi,e]
theorem aft{l:List Nat}(R:rQ l.toArray){j:Nat}(hn:j∉l):∃l':List Nat,insertAt l.toArray (below l.toArray j) j=l'.toArray/\rQ l'.toArray/\(∀x,x∈l'↔x=j∨x∈l)/\l'.length=l.length + 1:=by
 obtain⟨b1,b2,b3⟩:=qJ R j;generalize hp:below l.toArray j=p at *;have b1':p<=l.length:=by simpa using b1
 have P:=Jf.mp R;refine⟨l.take p++j::l.drop p,pD l p b1' j,Jf.mpr ?_,fun x=>?_,by simp;lia⟩
 ·rw[gN];refine⟨P.sublist (ml _ _),gc.mpr ⟨fun a ha=>?_,P.sublist (r_ _ _)⟩,fun a ha b hb=>?_⟩
  ·obtain⟨i,hi,rfl⟩:=f_.mp ha;have hi':p + i < l.length:=by simp at hi;lia
   have q:=b3 (p + i) (by lia) (by simpa using hi');have e:l.toArray.getD (p + i) 0=l[p + i]:=by simp[eL,hi']
   rw[e]at q;have ne:l[p + i]≠j:=fun z=>hn (z▸dm hi');simp only[r8];lia
  ·obtain⟨i,hi,rfl⟩:=f_.mp ha;have hi':i < p:=by simp at hi;lia
   have q:=b2 i hi';have hi2:i < l.length:=by lia
   have e:l.toArray.getD i 0=l[i]:=by simp[eL,hi2]
   rw[e]at q;simp only[List.getElem_take];rcases bz.mp hb with z|z
   ·rw[z];exact q
   ·obtain⟨i',hi3,rfl⟩:=f_.mp z;have hi4:p + i' < l.length:=by simp at hi3;lia
    have:=b3 (p + i') (by lia) (by simpa using hi4);have e':l.toArray.getD (p + i') 0=l[p + i']:=by simp[eL,hi4]
    rw[e']at this;simp only[r8];lia
 ·have:l=l.take p++l.drop p:=(k6 p l).symm;constructor
  ·intro z;rcases d9.mp z with z|z
   ·exact .inr (mS z)
   ·rcases bz.mp z with z|z
    ·exact .inl z
    ·exact .inr (r0 z)
  ·rintro(z|z)
   ·subst z;simp
   ·rw[this]at z;rcases d9.mp z with z|z
    ·exact l5 _ z
    ·exact fq _ (dQ _ z)
theorem xU{α:Type}(xs:List α)(i:Nat)(hi:i < xs.length):eraseAt xs.toArray i=(xs.eraseIdx i).toArray:=by unfold eraseAt;apply oD.mp;simp only[List.extract_toArray,cK,iN,w6,Nat.sub_zero,List.drop_zero];rw[rX (l:=xs.drop (i + 1)) (by simp),List.eraseIdx_eq_take_drop_succ]
theorem Xv{α β:Type}(f:α->β):∀(l:List α) (i:Nat),(l.map f).eraseIdx i=(l.eraseIdx i).map f
 | [],_=>by simp
 |a::l,0=>by simp
 |a::l,i + 1=>by simp[Xv f l i]
theorem aaw:∀{l l':List Nat},l.Nodup->(∀x∈l,x∈l')->l.length<=l'.length
 | [],_,_,_=>by simp
 |a::l,l',nd,h=>by obtain⟨n1,n2⟩:=eQ.mp nd;have ha:=h a (.head _);have:=aaw (l':=l'.erase a) n2 fun x hx=>(List.mem_erase_of_ne (fun(z:x=a)=>n1 (z▸hx))).mpr (h x (.tail _ hx));have e:=List.length_erase_of_mem ha;have hp:0 < l'.length:=List.length_pos_of_mem ha;simp only[cx];lia
structure rW (t:bq)(L:List jT):Prop where
 pw:∃k,t.mask + 1=2 ^ k
 m7:7<=t.mask
 pl:t.place=(L.map (·.1)).toArray
 so:(L.map (·.1)).Pairwise (· < ·)
 le:∀e∈L,e.1<=t.mask
 dr:rQ t.dummies
 dj:∀e∈L,has t.dummies e.1=false
 fl:t.fill<=t.mask
 reach:∀e∈L,∃s,pos t e.2.1 s=e.1/\∀s',s' < s->¬Emp t (pos t e.2.1 s')
section
variable{t:bq}{L:List jT}
theorem rW.lies(g:rW t L):Lies t L:=⟨g.pl,g.so,g.fl⟩
theorem rW.live(g:rW t L){j:Nat}:qK t j↔∃e∈L,e.1=j:=by
 have y:=g.lies;constructor
 ·rintro⟨i,hi,e⟩;rw[y.sz]at hi;rw[y.at hi]at e;exact⟨L[i],dm hi,e⟩
 ·rintro⟨e,he,q⟩;obtain⟨i,hi,e1⟩:=f_.mp he;exact⟨i,by rw[y.sz];exact hi,by rw[y.at hi,e1];exact q⟩
theorem ajm:∀{L:List jT},(L.map (·.1)).Pairwise (· < ·)->∀{e e':jT},e∈L->e'∈L->e.1=e'.1->e=e':=by
 intro L so e e' h h' q;obtain⟨i,hi,rfl⟩:=f_.mp h;obtain⟨j,hj,rfl⟩:=f_.mp h';have P:=j5.mp so;by_cases c:i < j
 ·have:=P i j (by simpa using hi) (by simpa using hj) c;simp only[tP]at this;lia
 ·by_cases d:j < i
  ·have:=P j i (by simpa using hj) (by simpa using hi) d;simp only[tP]at this;lia
  ·obtain rfl:i=j:=by lia
   rfl
theorem Good.lost(g:Good t L)(hl:L.length<=t.mask):rW t L where
 pw:=g.pw
 m7:=g.m7
 pl:=g.pl
 so:=g.so
 le:=g.le
 dr:=by rw[g.nd];intro a b _ h;simp at h
 dj:=fun e _=>by unfold has;rw[g.nd];simp
 fl:=(g.lies hl).fl
 reach:=fun e he=>by obtain⟨s,e1,e2⟩:=g.reach e he;refine⟨s,e1,fun s' hs z=>z.1 ?_⟩;obtain⟨e',h1,h2⟩:=e2 s' hs;exact g.live.mpr ⟨e',h1,h2⟩
theorem rW.emp(g:rW t L):∃e,e<=t.mask/\Emp t e:=by
 refine sf fun c=>?_;have h:=aaw (l:=cn (t.mask + 1)) (l':=t.place.toList++t.dummies.toList) List.nodup_range fun x hx=>?_
 ·have:=g.fl;unfold fill at this;simp at h;lia
 ·refine sf fun d=>c ⟨x,by have:=fg.mp hx;lia,fun⟨i,hi,e⟩=>d (l5 _ ?_),?_⟩
  ·rw[<- e];have:t.place.getD i 0=t.place.toList[i]'(by simpa using hi):=by simp[eL,hi]
   rw[this];exact dm _
  ·cases e:has t.dummies x with
   |false=>rfl
   |true =>
    refine absurd (fq _ ?_) d;have R:rQ t.dummies.toList.toArray:=by simpa using g.dr
    exact(uI R).mp (by simpa using e)
theorem rW.drop(g:rW t L){i:Nat}(hi:i < L.length):rW (t.drop i) (L.eraseIdx i)/\(t.drop i).plain=t.plain/\(t.drop i).led=t.led/\(t.drop i).mask=t.mask:=by
 have ep:t.place[i]?=some L[i].1:=by rw[g.pl];simp[hi]
 obtain⟨D,hD⟩:∃D:List Nat,t.dummies=D.toArray:=⟨t.dummies.toList,by simp⟩
 have R:rQ D.toArray:=hD▸g.dr;have hn:L[i].1∉D:=fun z=>by have:=g.dj _ (dm hi);rw[hD,(uI R).mpr z]at this;cases this
 obtain⟨D',d1,d2,d3,d4⟩:=aft R hn;have et:t.drop i={ t with place:=((L.eraseIdx i).map (·.1)).toArray,dummies:=D'.toArray }:=by
  unfold j3.drop;rw[ep];simp only;have q1:eraseAt t.place i=((L.eraseIdx i).map (·.1)).toArray:=by rw[g.pl,xU _ _ (by simpa using hi),Xv]
  rw[q1,hD,d1]
 have sub:∀e,e∈L.eraseIdx i->e∈L:=fun e he=>(uC L i).subset he;have ne:∀e∈L.eraseIdx i,e.1≠L[i].1:=fun e he z=>by have P:=g.so;have hp:(L[i]::L.eraseIdx i).Perm L:=nT hi;have nd:(L.map (·.1)).Nodup:=P.imp fun h=>bP h;have nd':=((hp.map (·.1)).nodup_iff).mpr nd;rw[ck]at nd';exact(eQ.mp nd').1 (z▸gy he)
 have so':((L.eraseIdx i).map (·.1)).Pairwise (· < ·):=kq ((uC L i).map _) g.so;rw[et];refine⟨⟨g.pw,g.m7,rfl,so',fun e he=>g.le e (sub e he),d2,fun e he=>?_,?_,fun e he=>?_⟩,rfl,rfl,rfl⟩
 ·show has D'.toArray e.1=false;cases q:has D'.toArray e.1 with
  |false=>rfl
  |true =>
   rcases(d3 _).mp ((uI d2).mp q) with z|z
   ·exact absurd z (ne e he)
   ·have:=g.dj e (sub e he);rw[hD,(uI R).mpr z]at this;cases this
 ·have:=g.fl;unfold fill at this ⊢;rw[g.pl,hD]at this;simp only[cK,cb]at this ⊢;rw[d4,sL hi];lia
 ·obtain⟨s,e1,e2⟩:=g.reach e (sub e he);have pm:∀s,pos { t with place:=((L.eraseIdx i).map (·.1)).toArray,dummies:=D'.toArray } e.2.1 s=pos t e.2.1 s:=fun s=>sy (by rfl) _ s;refine⟨s,by rw[pm];exact e1,fun s' hs z=>e2 s' hs ?_⟩;rw[pm]at z;obtain⟨z1,z2⟩:=z;have z2':pos t e.2.1 s'∉D':=fun q=>by have:=(uI d2).mpr q;rw[show has D'.toArray _=false from z2]at this;cases this
  refine⟨fun l=>?_,?_⟩
  ·obtain⟨e',h1,h2⟩:=g.live.mp l;have hp:(L[i]::L.eraseIdx i).Perm L:=nT hi;rcases bz.mp (hp.mem_iff.mpr h1) with q|q
   ·exact z2' ((d3 _).mpr (.inl (by rw[<- h2,q])))
   ·obtain⟨k,hk,ek⟩:=f_.mp q;exact z1 ⟨k,by simpa using hk,by simp[eL,hk,ek,h2]⟩
  ·cases q:has t.dummies (pos t e.2.1 s') with
   |false=>rfl
   |true=>rw[hD]at q;exact absurd ((d3 _).mpr (.inr ((uI R).mp q))) z2'
end
end Tb
namespace Tb
open PySem PySem.Spec PySem.SetTable
theorem rW.odd{t:bq}{L:List jT}(g:rW t L):t.gaveWay=false:=by
 obtain⟨k,hk⟩:=g.pw;have h7:=g.m7;unfold gaveWay;cases k with
 |zero=>simp at hk;lia
 |succ k =>
  have:t.mask % 2=1:=by rw[k5]at hk;lia
  simp[this]
theorem rW.len{t:bq}{L:List jT}(g:rW t L):L.length<=t.mask:=by have:=g.fl;unfold fill at this;rw[g.lies.sz]at this;lia
section
variable{prog:aE}{w:az}{A:a_}{E:aa->af->Prop}{s:af}
theorem Ry{a b:ab}{ks:List Int}{L:List jT}{ep:Nat}{t:bq}{f:jT->List Int}{Q:SetFound->af->Prop}(ho:s.heap.get? a=some (cL L ep t))(g:rW t L)(hf:∀e∈L,Kw prog w s.heap e (f e))
  (hb:cv (bE prog w) s.heap ks b) (hu:A.units < be) (q1:∀i (hi:i < L.length),f L[i]=ks->Q (.there (some i)) s)
  (q2:∀j d,(∀e∈L,f e≠ks)->Q (.free j d) s) :
  ∀(fuel s0 sE:Nat) (nQ:Option Probe) (d:Option Nat),s0<=sE->sE < s0 + fuel->sE < s0 + 10 * turns t.mask->Emp t (pos t (hK prog w ks) sE)->nQ.getD (t.probeStart (hK prog w ks))=wd (lN t s0 (t.probeStart (hK prog w ks))) d ->
   (∀n,n < s0->(∃e∈L,e.1=pos t (hK prog w ks) n/\f e≠ks)∨(¬qK t (pos t (hK prog w ks) n)/\has t.dummies (pos t (hK prog w ks) n)=true))->ag (ah prog w) A (ij a (.ref b) (hK prog w ks) false fuel nQ) Q E s:=by
 intro fuel;have y:=g.lies
 induction fuel with
 |zero=>intro s0 sE _ _ h1 h2;lia
 |succ fuel ih =>
  intro s0 sE nQ d h1 h2 h2' hE hst hpre;unfold ij;refine ae (d7 ho rfl (y.fits g.len) ?_);simp only[g.odd,aS,if_false];obtain⟨s2,d2,a1,a2,a3,a4⟩:=anw y.rise (fun i=>((((L.map (·.2)).toArray)[i]?).map (·.1)).getD 0) (hK prog w ks) (10 * turns t.mask) s0 sE d h1 h2' hE;have hh:∀i (hi:i < L.length),((((L.map (·.2)).toArray)[i]?).map (·.1)).getD 0=L[i].2.1:=fun i hi=>by simp[hi]
  have passed:∀n,n < s2->(∃e∈L,e.1=pos t (hK prog w ks) n/\f e≠ks)∨(¬qK t (pos t (hK prog w ks) n)/\has t.dummies (pos t (hK prog w ks) n)=true):=fun n hn=>by
   by_cases c:n < s0
   ·exact hpre n c
   ·rcases a3 n (by lia) hn with ⟨i,hi,e1,e2⟩|z
    ·rw[y.sz]at hi;rw[y.at hi]at e1;rw[hh i hi]at e2;refine .inl ⟨L[i],dm hi,e1,fun z=>e2 ?_⟩;obtain⟨b',_,_,e3⟩:=hf _ (dm hi);rw[e3,z]
    ·exact .inr z
  rcases a4 with ⟨hne,hp⟩|⟨i,hi,e1,e2,hp⟩
  ·-- an empty slot
   have hp':t.probe (fun i=>((((L.map (·.2)).toArray)[i]?).map (·.1)).getD 0) (hK prog w ks) (nQ.getD (t.probeStart (hK prog w ks)))=some (.empty (pos t (hK prog w ks) s2) d2):=by rw[hst];exact hp
   generalize hr:t.probe _ (hK prog w ks) (nQ.getD (t.probeStart (hK prog w ks)))=r;obtain rfl:r=_:=hr.symm.trans hp';have none_:∀e∈L,f e≠ks:=fun e he z=>by
    obtain⟨b',_,_,e3⟩:=hf e he;obtain⟨n,r1,r2⟩:=g.reach e he;rw[e3,z]at r1 r2;by_cases c:n < s2
    ·rcases passed n c with ⟨e',he',q,ne⟩|⟨nl,_⟩
     ·have:=ajm g.so he' he (q.trans r1);subst this;exact ne z
     ·exact nl (g.live.mpr ⟨e,he,r1.symm⟩)
    ·by_cases d:s2 < n
     ·exact r2 s2 d hne
     ·obtain rfl:n=s2:=by lia
      exact hne.1 (g.live.mpr ⟨e,he,r1.symm⟩)
   simp only;cases d2 with
   |none=>exact ar (q2 _ _ none_)
   |some d0 =>
    simp only[kT,aS,if_false];exact ar (q2 _ _ none_)
  ·-- a key with the same hash
   rw[y.sz]at hi;have e1':=e1;rw[y.at hi]at e1;obtain⟨b',hv,hk',hx⟩:=hf _ (dm hi);have hp':t.probe (fun i=>((((L.map (·.2)).toArray)[i]?).map (·.1)).getD 0) (hK prog w ks) (nQ.getD (t.probeStart (hK prog w ks)))=some (.candidate (pos t (hK prog w ks) s2) i (wd (lN t (s2 + 1) (t.probeStart (hK prog w ks))) d2)):=by rw[hst];exact hp
   generalize hr:t.probe _ (hK prog w ks) (nQ.getD (t.probeStart (hK prog w ks)))=r;obtain rfl:r=_:=hr.symm.trans hp';simp only;have ei:((L.map (·.2)).toArray)[i]?=some (L[i].2.1,.ref b'):=by
    have:((L.map (·.2)).toArray)[i]?=some L[i].2:=by simp[hi]
    rw[this,<- hv]
   have rest:ag (ah prog w) A (do
     let some (_,y):=((L.map (·.2)).toArray)[i]?|unsupported "internal:set-entry"
     let equal <- ef [y] (eqBool y (.ref b))
     let (es',_,t') <- setState a
     if false && equal then return .there none
     let some same:=t'.sameMemory t.moves t.mask|unsupported "set.changed-during-lookup:is-the-new-block-at-the-old-address"
     let still <- match (if same then t'.slot (pos t (hK prog w ks) s2) else .empty) with
      | .live i'=>match es'[i']? with
       |some (_,y')=>do pure (if <- isSame y' y then some i' else none)
       |none=>pure none
      |_=>pure none
     match still with
     |none=>rule "set.search.anew";ij a (.ref b) (hK prog w ks) false fuel none
     |some i'=>if equal then return .there (some i') else ij a (.ref b) (hK prog w ks) false fuel (some (wd (lN t (s2 + 1) (t.probeStart (hK prog w ks))) d2))) Q E s:=by
    rw[ei];simp only;refine ae (dP ((TK prog w).eqBool hu hk' hb ?_));refine ae (d7 ho rfl (y.fits g.len) ?_);simp only[kT,aS,if_false];have hsm:t.sameMemory t.moves t.mask=some true:=by unfold sameMemory;simp
    rw[hsm];simp only[if_true];have hsl:t.slot (pos t (hK prog w ks) s2)=.live i:=by rw[<- e1'];exact uz y.rise (by rw[y.sz];exact hi)
    rw[hsl];simp only[ei];refine ae (sG (ae (ar ?_)));simp only[if_true];by_cases c:f L[i]=ks
    ·simp only[c,decide_true,if_true];exact ar (q1 i hi c)
    ·simp only[c,decide_false,aS,if_false];have hne:s2≠sE:=fun z=>hE.1 (z▸g.live.mpr ⟨_,dm hi,e1⟩);refine ih (s2 + 1) sE _ d2 (by lia) (by lia) (by lia) hE rfl fun n hn=>?_;by_cases d:n=s2
     ·subst d;exact .inl ⟨_,dm hi,e1,c⟩
     ·exact passed n (by lia)
   cases apM:t.led with
   |true=>simp only[dS,aS,if_false];exact rest
   |false =>
    simp only[j6,if_true];refine ae (Kz hb _ (fun y hy=>?_) ?_)
    ·obtain⟨e,he,rfl⟩:=b0.mp hy;have he':e∈(L.map (·.2)):=by have:=xh.mp he;have:=(xi.mp this).1;simpa using this
     obtain⟨e0,h0,rfl⟩:=b0.mp he';obtain⟨b2,hv2,hk2,_⟩:=hf e0 h0;exact⟨_,b2,hv2,hk2⟩
    ·simp only[aS,if_false];exact rest
theorem abI{a b:ab}{ks:List Int}{L:List jT}{ep:Nat}{t:bq}{f:jT->List Int}{Q:Option Nat->af->Prop}(ho:s.heap.get? a=some (cL L ep t))(g:rW t L)(mb:t.mask < 8000)(hf:∀e∈L,Kw prog w s.heap e (f e))(hb:cv (bE prog w) s.heap ks b)(hu:A.units < be)
  (q1:∀i (hi:i < L.length),f L[i]=ks->Q (some i) s) (q2:(∀e∈L,f e≠ks)->Q none s):ag (ah prog w) A (pf a (.ref b) (hK prog w ks)) Q E s:=by
 have alm:t.mask < 8000:=mb;unfold pf;show ag (ah prog w) A (tx a (.ref b) (hK prog w ks) (99999 + 1)) Q E s;unfold tx;refine ae (d7 ho rfl (g.lies.fits g.len) ?_);have hby:nc (.ref b) (L.map (·.2)).toArray=false:=by simp[nc,xk]
 simp only[hby,aS,if_false];obtain⟨e0,he0,hE0⟩:=g.emp;obtain⟨k,hk⟩:=g.pw;obtain⟨sE,_,hsE,pE⟩:=Kr hk (hK prog w ks) 0 he0;refine ae ?_;unfold setSearch;refine Ry (f:=f) (Q:=fun r s'=>ag (ah prog w) A (match r with
  | .there i=>_
  | .free ..=>_) Q E s') ho g hf hb hu (fun i hi c=>?_) (fun j d hno=>?_) 100000 0 sE none none (eC _) (by lia) (by unfold turns;lia) (by rw[pE];exact hE0) rfl (fun n hn=>absurd hn (by lia))
 ·exact ar (q1 i hi c)
 ·exact ar (q2 hno)
end
def dH(prog:aE)(w:az)(U:ab->List Int->Prop)(h:Heap)(a:ab)(aH:List (List Int)):Prop :=
 ∃(L:List jT) (ep:Nat) (t:bq) (f:Int×aa->List Int),h.get? a=some (cL L ep t)/\rW t L/\t.mask < 8000/\(t.plain=true/\t.led=!qM w)/\(∀e∈L,Kw prog w h e (f e.2))/\(L.map fun e=>f e.2).Perm aH/\aH.Nodup/\∀e∈L,∀b,e.2.2=.ref b->U b (f e.2)
section
variable{prog:aE}{w:az}{U:ab->List Int->Prop}{A:a_}{E:aa->af->Prop}{s:af}
theorem bL.lost{h:Heap}{a:ab}{aH:List (List Int)}(x:bL prog w U h a aH):dH prog w U h a aH:=by obtain⟨L,ep,t,f,ho,g,room,mb,pl,hf,hp,nd,uu⟩:=x;have:=g.m7;exact⟨L,ep,t,f,ho,g.lost (by lia),mb,pl,hf,hp,nd,uu⟩
theorem dH.nd{h:Heap}{a:ab}{aH:List (List Int)}(x:dH prog w U h a aH):aH.Nodup:=by obtain⟨_,_,_,_,_,_,_,_,_,_,z,_⟩:=x;exact z
theorem dH.perm{h:Heap}{a:ab}{aH oF:List (List Int)}(x:dH prog w U h a aH)(p:aH.Perm oF):dH prog w U h a oF:=by obtain⟨L,ep,t,f,ho,g,mb,pl,hf,hp,nd,uu⟩:=x;exact⟨L,ep,t,f,ho,g,mb,pl,hf,hp.trans p,p.nodup_iff.mp nd,uu⟩
theorem Xw{a b:ab}{ks:List Int}{aH:List (List Int)}{Q:Bool->af->Prop}(hS:dH prog w U s.heap a aH)(hb:cv (bE prog w) s.heap ks b)(hu:A.units < be)
  (h:∀h' r,cS a s.heap h'->dH prog w U h' a (aH.erase ks)->Q r { s with heap:=h' }):ag (ah prog w) A (setDiscardHashed a (.ref b) (hK prog w ks)) Q E s:=by
 obtain⟨L,ep,t,f,ho,g,mb,pl,hf,hp,nd,uu⟩:=hS;have hmem:∀x,x∈aH↔∃e∈L,f e.2=x:=fun x=>by rw[<- hp.mem_iff,b0]
 unfold setDiscardHashed;refine ae (abI (f:=fun e=>f e.2) ho g mb hf hb hu (fun i hi c=>?_) fun hno=>?_)
 ·simp only;refine ae (d7 ho rfl (g.lies.fits g.len) ?_);simp only;have ee:eraseAt ((L.map (·.2)).toArray) i=(((L.eraseIdx i).map (·.2)).toArray):=by rw[xU _ _ (by simpa using hi),Xv]
  rw[ee];obtain⟨g',d1,d2,d3⟩:=g.drop hi;have hlen:(L.eraseIdx i).length<=1000000:=by have:=g.len;rw[sL hi];lia
  refine ae (nR (L':=L.eraseIdx i) (t':=t.drop i) ho hlen fun h' hs hg=>ae (wpAny_point (ar (h h' true hs ?_))));have sub:∀e,e∈L.eraseIdx i->e∈L:=fun e he=>(uC L i).subset he;refine⟨L.eraseIdx i,ep + 1,t.drop i,f,hg,g',by rw[d3];exact mb,⟨d1.trans pl.1,d2.trans pl.2⟩,fun e he=>?_,?_,nd.erase _,fun e he=>uu e (sub e he)⟩
  ·obtain⟨b',h1,h2,h3⟩:=hf e (sub e he);exact⟨b',h1,lO ho hs h2,h3⟩
  ·have p1:(L[i]::L.eraseIdx i).Perm L:=nT hi;have p2:=(p1.map fun e=>f e.2).trans hp;rw[ck,show f L[i].2=ks from c]at p2;have:=p2.erase ks;simpa using this
 ·refine ar (h s.heap false (iF a s.heap) ?_);rw[List.erase_of_not_mem fun z=>by obtain⟨e,he,q⟩:=(hmem ks).mp z;exact hno e he q];exact⟨L,ep,t,f,ho,g,mb,pl,hf,hp,nd,uu⟩
theorem xV{x:List Int}:∀(ks aH:List (List Int)),aH.Nodup->((ks.foldl uS aH).Nodup/\(x∈ks.foldl uS aH↔x∈aH/\x∉ks))
 | [],aH,nd=>⟨nd,by simp⟩
 |k::ks,aH,nd=>by
  obtain⟨h1,h2⟩:=xV (x:=x) ks (aH.erase k) (nd.erase k);refine⟨h1,?_⟩;rw[jI,h2,nd.mem_erase_iff];simp only[bz,not_or];constructor
  ·rintro⟨⟨a,b⟩,c⟩;exact⟨b,a,c⟩
  ·rintro⟨b,a,c⟩;exact⟨⟨a,b⟩,c⟩
theorem xW:∀(ks aH:List (List Int)),(ks.foldl uS aH).length<=aH.length
 | [],aH=>br _
 |k::ks,aH=>by rw[jI];have h1:=xW ks (aH.erase k);have h2:(aH.erase k).length<=aH.length:=List.length_erase_le;lia
theorem Jg{r:ab}{f:Int×aa->List Int}{body:Int×aa->PUnit->Sem (ForInStep PUnit)}{s0:af}{Q:PUnit->af->Prop}
  (hbody:∀(e:Int×aa) (b:ab) (acc:List (List Int)) (s':af) (R:ForInStep PUnit->af->Prop),e=(hK prog w (f e),.ref b)->cv (bE prog w) s'.heap (f e) b->cS r s0.heap s'.heap->dH prog w U s'.heap r acc ->
   (∀h',cS r s'.heap h'->dH prog w U h' r (acc.erase (f e))->R (.yield ⟨⟩) { s' with heap:=h' })->ag (ah prog w) A (body e ⟨⟩) R E s') :
  ∀(es:List (Int×aa)) (acc:List (List Int)) (s':af),(∀e∈es,∃b,e=(hK prog w (f e),.ref b)/\cv (bE prog w) s0.heap (f e) b/\U b (f e))->cS r s0.heap s'.heap->dH prog w U s'.heap r acc ->
   (∃o,s0.heap.get? r=some o/\∀xs m,o.data≠.seq xs m) ->
   (∀h',cS r s0.heap h'->dH prog w U h' r ((es.map f).foldl uS acc)->Q ⟨⟩ { s' with heap:=h' })->ag (ah prog w) A (forIn es PUnit.unit body) Q E s'
 | [],acc,s',_,hs,hS,_,h=>by rw[qV];exact ar (h s'.heap hs hS)
 |e::es,acc,s',he,hs,hS,hr,h=>by
  rw[wa];obtain⟨b,e1,k1,u1⟩:=he e (.head _);have key':cv (bE prog w) s'.heap (f e) b:=by
   obtain⟨o,its,n,q1,q2,q3,q4⟩:=k1;obtain⟨ro,g1,g2⟩:=hr;have ne:b≠r:=fun z=>by subst z;rw[g1]at q1;cases q1;exact g2 _ _ q3
   exact⟨o,its,n,(hs.2 b ne).trans q1,q2,q3,q4⟩
  refine ae (hbody e b acc s' _ e1 key' hs hS fun h' hs' hS'=>?_);refine Jg hbody es _ { s' with heap:=h' } (fun e' h'=>he e' (.tail _ h')) (hs.trans hs') hS' hr fun h2 hs2 hS2=>?_;exact h h2 hs2 hS2
theorem abJ{a:ab}{aH:List (List Int)}{Q:Unit->af->Prop}(hS:dH prog w U s.heap a aH)(hn:aH.length < 1000)(h:∀h',cS a s.heap h'->dH prog w U h' a aH->Q () { s with heap:=h' }):ag (ah prog w) A (setTidy a) Q E s:=by
 obtain⟨L,ep,t,f,ho,g,mb,pl,hf,hp,nd,uu⟩:=hS;have hlen:L.length=aH.length:=by have:=hp.length_eq;simpa using this
 unfold setTidy;refine ae (d7 ho rfl (g.lies.fits g.len) ?_);simp only;cases c:t.tooManyDummies with
 |false =>
  simp only[aS,if_false];exact ar (h s.heap (iF a s.heap) ⟨L,ep,t,f,ho,g,mb,pl,hf,hp,nd,uu⟩)
 |true =>
  simp only[if_true];have es:((L.map (·.2)).toArray).size=L.length:=by simp
  rw[es];have hg:grown L.length=L.length * 4:=by unfold grown;rw[if_neg (by lia)]
  rw[hg];obtain⟨s1,s2,s3,s4⟩:=mL (L.length * 4) (by lia);unfold o3;refine ae (d7 ho rfl (g.lies.fits g.len) ?_);have hsz:¬sizeAbove (L.length * 4) > sizeLine:=by rw[d8];lia
  simp only[hsz,if_false];obtain⟨t',order,L',e1,e2,e3,e4,e5,g',e6,e7⟩:=uD s1 s2 t.finger (t.movedTo (sizeAbove (L.length * 4) - 1)) t.led t.plain (L.map (·.2)) (by simp;lia);have hlen':L'.length=L.length:=by have:=e7.length_eq;simpa using this
  have er:t.relaid (((L.map (·.2)).toArray).map (·.1)) (L.length * 4)=some (t',order):=by
   unfold relaid;have:((L.map (·.2)).toArray).map (·.1)=((L.map (·.2)).map (·.1)).toArray:=by simp
   rw[this];exact e1
  have main:ag (ah prog w) A (do
    let some (t,order):=t.relaid (((L.map (·.2)).toArray).map (·.1)) (L.length * 4)|unsupported "internal:set-table-without-room"
    let es':=order.filterMap (((L.map (·.2)).toArray)[·]?)
    if es'.size != ((L.map (·.2)).toArray).size then unsupported "internal:set-table-lost-an-element"
    pure (es',t)) (fun r s'=>ag (ah prog w) A (oS a r.1 r.2) Q E s') E s:=by
   rw[er];simp only;rw[e6];have:((L'.map (·.2)).toArray.size != ((L.map (·.2)).toArray).size)=false:=by simp[hlen']
   rw[this];simp only[aS,if_false];refine ar ?_;refine nR (t':=t') ho (by lia) fun h' hs hg=>h h' hs ⟨L',ep + 1,t',f,hg,g'.lost (by rw[e2];lia),by rw[e2];lia,⟨e4.trans pl.1,e3.trans pl.2⟩,fun e he=>?_,?_,nd,fun e he=>?_⟩
   ·obtain⟨e0,h0,q0⟩:=b0.mp (e7.mem_iff.mp (gy he));obtain⟨b',h1,h2,h3⟩:=hf e0 h0;rw[q0]at h1 h2 h3;exact⟨b',h1,lO ho hs h2,h3⟩
   ·have:=(e7.map f)
    simp only[d5]at this;exact this.trans hp
   ·obtain⟨e0,h0,q0⟩:=b0.mp (e7.mem_iff.mp (gy he));have:=uu e0 h0;rw[q0]at this;exact this
  exact ae main
theorem dH.keys{h:Heap}{a:ab}{aH:List (List Int)}(x:dH prog w U h a aH):∃o,h.get? a=some o/\∀xs m,o.data≠.seq xs m:=by obtain⟨L,ep,t,f,ho,_⟩:=x;exact⟨_,ho,fun xs m z=>by cases z⟩
theorem abK{id:String}{r o:ab}{aH js:List (List Int)}{Q:Unit->af->Prop}(hr:bL prog w U s.heap r aH)(ho:bL prog w U s.heap o js)(hne:r≠o)(hk:aH.length < 900)(hj:js.length<=aH.length)(hu:A.units < be)
  (h:∀h' ls,cS r s.heap h'->(∀x,x∈ls↔x∈aH/\x∉js)->dH prog w U h' r ls->Q () { s with heap:=h' }):ag (ah prog w) A (tJ id r (.ref o)) Q E s:=by
 obtain⟨L,ep,t,f,hoD,gs,hlen,hp,he⟩:=ho.goes (by lia);unfold tJ;refine Xa (by rw[beq_eq_false_iff_ne];intro e;injection e with e;exact hne e.symm) ?_;refine ae (yX ho.ty ?_);simp only[if_true];refine ae (m:=iP _) (ar ?_);refine ae (oH ho (by lia) (ae (oH hr (by lia) ?_)));have hc:¬js.length / 8 > aH.length:=by lia
 rw[if_neg hc];refine ae (nE hoD rfl (gs.g.fits gs.hl) ?_);refine ae (dP (ae (xJ hoD gs ?_)));rw[<- m8];refine ae (Jg (U:=U) (r:=r) (f:=f) (s0:=s) (fun e b acc s' R e1 k1 hs' hS' hR'=>?_) _ aH s he (iF r s.heap) hr.lost hr.lost.keys fun h' hs' hS'=>?_)
 ·rw[e1];simp only;refine ae (dP (Xw hS' k1 hu fun h2 q hs2 hS2=>?_));unfold tz;have hD':h2.get? o=some (cL L ep t):=(hs2.2 o (de hne)).trans ((hs'.2 o (de hne)).trans hoD);refine ae (ae (nE (s:={ s' with heap:=h2 }) hD' rfl (gs.g.fits gs.hl) ?_));simp only[bne_self_eq_false,aS,if_false];exact ar (ar (hR' h2 hs2 hS2))
 ·refine ar ?_;have hle:=xW ((fu w o ep L).toList.map f) aH;refine abJ (s:={ s with heap:=h' }) hS' (by lia) fun h2 hs2 hS2=>h h2 _ (hs'.trans hs2) (fun x=>?_) hS2;rw[(xV (x:=x) _ aH hr.nd).2,hp.mem_iff]
end
section
variable{prog:aE}{w:az}{U:ab->List Int->Prop}{A:a_}{E:aa->af->Prop}{s:af}
theorem anx{id:String}{l r:ab}{aH js:List (List Int)}{Q:aa->af->Prop}(hl:bL prog w U s.heap l aH)(hr:bL prog w U s.heap r js)(hk:aH.length < 900)(hj:js.length < 900)(hu:A.units < be)
  (h:∀h' tk ls,(∀b o,s.heap.get? b=some o->h'.get? b=some o)->(∀x,x∈ls↔x∈aH/\x∉js)->dH prog w U h' s.heap.objs.size ls->Q (.ref s.heap.objs.size) { s with heap:=h',toks:=tk }) :
  ag (ah prog w) A (tN id l (.ref r)) Q E s:=by
 have lt:∀{D:ab}{k:List (List Int)},bL prog w U s.heap D k->D < s.heap.objs.size:=fun hS=>by obtain⟨L,ep,t,ho,_⟩:=hS.len;exact bu ho
 by_cases c:aH.length / 4 > js.length
 ·unfold tN;refine ae (yX hr.ty ?_);simp only[dS,aS,if_false,kT,if_true];refine ae (m:=iP _) (ar ?_);refine ae (oH hr (by lia) (ae (oH hl (by lia) ?_)));rw[if_pos c];refine ae (gu ?_);refine ae (aae hl (by lia) hu fun h1 tk1 k1 kp nd1 hm1 hS1=>?_);have hp:k1.length=aH.length:=(oJ nd1 hl.nd hm1).length_eq;refine ae (m:=iP _) (ar ?_);refine ae (dP (abK (s:={ s with heap:=h1,toks:=tk1 }) hS1 (hr.moved fun b o _ e=>kp b o e) (hG (lt hr)) (by lia) (by lia) hu fun h2 ls hs2 hm2 hS2=>?_));exact ar (h h2 tk1 ls (fun b o e=>(hs2.2 b (bP (bu e))).trans (kp b o e)) (fun x=>by rw[hm2 x,hm1 x]) hS2)
 ·exact apW hl hr hk hj (.inr c) hu fun h' tk ls k hm hS=>h h' tk ls k hm hS.lost
theorem ajn{l r:ab}{aH js:List (List Int)}{Q:aa->af->Prop}(hl:bL prog w U s.heap l aH)(hr:bL prog w U s.heap r js)(hk:aH.length < 900)(hj:js.length < 900)(hu:A.units + 4 < be)
  (h:∀h' tk ls,(∀b o,s.heap.get? b=some o->h'.get? b=some o)->(∀x,x∈ls↔x∈aH/\x∉js)->dH prog w U h' s.heap.objs.size ls->Q (.ref s.heap.objs.size) { s with heap:=h',toks:=tk }) :
  ag (ah prog w) A (hW .Sub (.ref l) (.ref r)) Q E s:=by
 refine wpAny_binaryOp_same (op:=.Sub) (T:="set") hl.ty hr.ty F.fills_set_sub F.slot_set_sub (gT F.slot_set_sub hl.ty QL ?_ (F.args_set_sub_2 _ _));exact ang (name:="__sub__") hl.ty hr.ty (anx hl hr hk hj (by show A.units + 1 < be;lia) fun h' tk ls k hm hS=>⟨_,rfl,by simp,h h' tk ls k hm hS⟩)
end
end Tb
namespace So
open PySem PySem.Spec PySem.W PyProof.Rows PySem.Calls PySem.SetTable Tb
section
variable{prog:aE}{w:az}{A:a_}{E:aa->af->Prop}{s:af}{U:ab->List Int->Prop}
def Rz(prog:aE)(w:az)(U:ab->List Int->Prop)(o:Obj)(aH:List (List Int)):Prop :=
 ∃(L:List jT) (ep:Nat) (t:bq) (f:Int×aa->List Int),o=cL L ep t/\rW t L/\t.mask < 8000/\(t.plain=true/\t.led=!qM w)/\(∀e∈L,∃b,e.2.2=.ref b/\e.2.1=hK prog w (f e.2)/\U b (f e.2))/\(L.map fun e=>f e.2).Perm aH/\aH.Nodup
theorem dH.obj{h:Heap}{a:ab}{aH:List (List Int)}(x:dH prog w U h a aH):∃o,h.get? a=some o/\Rz prog w U o aH:=by obtain⟨L,ep,t,f,ho,g,mb,pl,hf,hp,nd,uu⟩:=x;refine⟨_,ho,L,ep,t,f,rfl,g,mb,pl,fun e he=>?_,hp,nd⟩;obtain⟨b,h1,h2,h3⟩:=hf e he;exact⟨b,h1,h3,uu e he b h1⟩
theorem Rz.at{h:Heap}{a:ab}{o:Obj}{aH:List (List Int)}(x:Rz prog w U o aH)(ho:h.get? a=some o)(hU:∀b ks,U b ks->cv (bE prog w) h ks b):dH prog w U h a aH:=by
 obtain⟨L,ep,t,f,rfl,g,mb,pl,hf,hp,nd⟩:=x;refine⟨L,ep,t,f,ho,g,mb,pl,fun e he=>?_,hp,nd,fun e he b hb=>?_⟩
 ·obtain⟨b,h1,h2,h3⟩:=hf e he;exact⟨b,h1,hU _ _ h3,h2⟩
 ·obtain⟨b',h1,h2,h3⟩:=hf e he;rw[hb]at h1;cases h1;exact h3
theorem RB{D:ab}{aH:List (List Int)}{Q:aa->af->Prop}(hh:A.handled=none)(hS:dH prog w U s.heap D aH)(hne:∀ks∈aH,ks≠[])(h64:aH.length < 1000)
  (h:∀h' tk l n (out:List aa),(∀b o,s.heap.get? b=some o->h'.get? b=some o)->s.heap.objs.size<=l->Rm U out (cF aH)->h'.get? l=some (eM "list" out.toArray n)->Q (.ref l) { s with heap:=h',toks:=tk }) :
  ag (ah prog w) A (call (.builtin "sorted") [.ref D]) Q E s:=by
 obtain⟨L,ep,t,f,ho,g,mb,pl,hf,hp,nd,uu⟩:=hS;have hlen:L.length=aH.length:=by have:=hp.length_eq;simpa using this
 have gs:Goes w L t:=⟨g.lies,g.len,pl.1,pl.2⟩
 have op:=uE w D ep L;have osz:(fu w D ep L).toList.length=L.length:=by rw[fR,jt]
 have kp:((fu w D ep L).toList.map f).Perm aH:=((op.map f).trans (k_ (by rw[d5];rfl))).trans hp;have each:∀x∈(fu w D ep L).toList,∃b,x.2=.ref b/\cv (bE prog w) s.heap (f x) b/\U b (f x):=fun x hx=>by obtain⟨e,he,rfl⟩:=b0.mp (op.mem_iff.mp hx);obtain⟨b,h1,h2,h3⟩:=hf e he;exact⟨b,h1,h2,uu e he b h1⟩
 have at_:∀(i:Nat) v,((fu w D ep L).toList.map (·.2))[i]?=some v->∃x,x∈(fu w D ep L).toList/\v=x.2/\((fu w D ep L).toList.map f).getD i []=f x:=fun i v hv=>by
  rw[cE]at hv;cases e:(fu w D ep L).toList[i]? with
  |none=>rw[e]at hv;cases hv
  |some x =>
   rw[e]at hv;refine⟨x,kg e,(dq hv).symm,?_⟩;rw[fE,cE,e];rfl
 refine uF (vs:=(fu w D ep L).toList.map (·.2)) (aH:=(fu w D ep L).toList.map f) (fun Q' E' hq=>?_) ⟨by simp,fun i v hv=>?_⟩ (fun ks hks=>?_) (by rw[cb,osz];lia) fun h' tk l n p k hl hsp hg=>?_
 ·exact Ao (by simpa using hh) ho gs (by lia) hq
 ·obtain⟨x,hx,rfl,e⟩:=at_ i v hv;obtain⟨b,h1,h2,h3⟩:=each x hx;exact⟨b,h1,by rw[e];exact h2⟩
 ·exact hne ks (kp.mem_iff.mp hks)
 ·refine h h' tk l n _ k hl (qR ⟨by simp,fun i v hv=>?_⟩ hsp kp) hg;obtain⟨x,hx,rfl,e⟩:=at_ i v hv;obtain⟨b,h1,h2,h3⟩:=each x hx;exact⟨b,h1,by rw[e];exact h3⟩
end
end So
namespace Vl
open PySem PySem.Spec L2 So Tb
def RD(P:aE)(w:az)(U:ab->List Int->Prop)(a:ab)(aH:List (List Int)):Heap->Prop:=fun h=>∃o,h.get? a=some o/\Rz P w U o aH
section
variable{X:Cx}{B:Bs}{W:Wi}
def afu(P:aE)(w:az)(K:aw):List V->Hp->VK->Prop:=fun xs H Q=>∃(p:ab) (aH:List (List Int)) (U:ab->List Int->Prop),xs=[.ref p]/\H p=some (.ext (RD P w U p aH))/\(∀b ks,U b ks->ni K H b (ks.map V.int))/\(∀ks∈aH,ks≠[])/\aH.length < 1000 /\
 ∀l ys,H l=none->ys.length=(cF aH).length->(∀(i:Nat) v,ys[i]?=some v->∃b,v=.ref b/\U b ((cF aH).getD i []))->Q (.ref l) (upd H l (.lst ys))
theorem Lk(hc:X.calm=true):gw X (.builtin "sorted") (afu X.prog X.w X.K):=by
 intro pins s σ H xs us Q I r h;obtain⟨p,aH,U,rfl,hp,hU,hne,h64,q⟩:=h;obtain⟨u,rfl,rx⟩:=r.one;cases rx;obtain⟨⟨o,ho,x⟩,_⟩:=I.hok _ _ hp;have hS:=So.Rz.at x ho (fun b ks hb=>vQ I (hU b ks hb));refine So.RB (I.ok.hd hc) hS hne h64 fun h' tk l n out k hl ho hg=>?_;have Ro:H l=none:=I.hok.fresh hl;have hv:∃ys:List V,Vals ys out/\ys.length=(cF aH).length/\∀(i:Nat) v,ys[i]?=some v->∃b,v=.ref b/\U b ((cF aH).getD i []):=by
  refine⟨out.map fun v=>match v with|.ref b=>V.ref b|_=>V.non,?_,by simp[ho.1],fun i v hv=>?_⟩
  ·have:∀v∈out,∃b,v=aa.ref b:=fun v hv=>by obtain⟨i,hi⟩:=ky.mp hv;obtain⟨b,e,_⟩:=ho.2 i v hi;exact⟨b,e⟩
   clear ho hg
   induction out with
   |nil=>exact .nil
   |cons a out ih =>
    obtain⟨b,rfl⟩:=this a (.head _);exact .cons rfl (ih fun v hv=>this v (.tail _ hv))
  ·rw[cE]at hv;cases e:out[i]? with
   |none=>rw[e]at hv;cases hv
   |some v' =>
    rw[e]at hv;obtain⟨b,rfl,h2⟩:=ho.2 i v' e;exact⟨b,(dq hv).symm,h2⟩
 obtain⟨ys,rv,yl,yv⟩:=hv;have e0:s.heap.objs.size<=l:=hl;refine⟨.ref l,_,I.laid (t':=tk) k hl (show dY X.prog X.w _ h' _ (.lst ys) from⟨?_,out,n,rv,hg⟩),rfl,q l ys Ro yl yv⟩;have:(cF aH).length=aH.length:=(fD aH).length_eq;rw[yl,this,d8];lia
def afv(P:aE)(w:az)(K:aw)(W:Wi)(σ:St)(G H:Hp)(r:Rs (List (List Int)))(Q:VK):Prop :=
 match r with
 | .ok aH=>∀a H' G',Ext G H G' H'->H a=none->H' a=some (.ext (RD P w (UG K G') a aH))->Q (.ref a) H'
 | .ex c n=>∀H' G',Ext G H G' H'->W c n σ H'
 | .no=>False
def tW(P:aE)(w:az)(K:aw)(B:Bs)(W:Wi)(f:aK->Rs (List (List Int))):TE:=fun σ H Q=>∃ρ G,SR K B σ H ρ G/\afv P w K W σ G H (f ρ) Q
def SL(X:Cx)(B:Bs)(W:Wi)(e:ai)(f:aK->Rs (List (List Int))):Prop:=PE X e (tW X.prog X.w X.K B W f)
def rW2(P:aE)(w:az)(K:aw)(C:List (List Int)->List (List Int)->Prop)(g:List (List Int)->List (List Int)->List (List Int)):R2:=fun x y H Q=>∃(p p2:ab) (a b:List (List Int)) (U1 U2 U:ab->List Int->Prop),x=.ref p/\y=.ref p2/\p≠p2/\H p=some (.ext (Xi P w U1 p a))/\H p2=some (.ext (Xi P w U2 p2 b)) /\
 (∀c ks,U1 c ks->U c ks)/\(∀c ks,U2 c ks->U c ks)/\(∀c ks,U c ks->ni K H c (ks.map V.int))/\C a b/\∀l,H l=none->Q (.ref l) (upd H l (.ext (RD P w U l (g a b))))
theorem abL{pins:List (ab×Obj)}{σ:St}{H:Hp}{s:af}{Q:VK}{U:ab->List Int->Prop}{ls a:List (List Int)}{h':Heap}{tk:Nat}(I:Inv X pins σ H s)(k:∀b o,s.heap.get? b=some o->h'.get? b=some o)(hS:dH X.prog X.w U h' s.heap.objs.size ls)(p:ls.Perm a)
  (q:∀l,H l=none->Q (.ref l) (upd H l (.ext (RD X.prog X.w U l a)))):EP X pins σ Q (.ref s.heap.objs.size) { s with heap:=h',toks:=tk }:=by
 have hS':=hS.perm p;refine⟨.ref s.heap.objs.size,_,I.laid (t':=tk) k (br _) (show dY X.prog X.w _ h' _ (.ext (RD X.prog X.w U s.heap.objs.size a)) from⟨So.dH.obj hS',?_,?_⟩),rfl,q _ I.fresh⟩
 ·obtain⟨o,ho,_⟩:=So.dH.obj hS';exact⟨o,ho⟩
 ·rintro h1 h2 ⟨o,ho,x⟩ hk';exact⟨o,hk' o ho,x⟩
theorem ajo(hu:X.A.units + 8 < be):uU X (hW .Sub) (rW2 X.prog X.w X.K Xl Rp):=by intro pins s σ H x y v u Q I rx ry ⟨p,p2,a,b,U1,U2,U,ex,ey,ne,h1,h2,u1,u2,hU,hc,q⟩;subst ex ey;cases rx;cases ry;have A1:=aeP I h1 u1 hU;have A2:=aeP I h2 u2 hU;exact ajn A1 A2 hc.1 hc.2 (by lia) fun h' tk ls k hm hS=>abL I k hS (oJ hS.nd (A1.nd.filter _) fun x=>by rw[hm x];exact Ed.symm) q
abbrev anz:=gK Xl Rp
theorem anA{a b:ai}{pos:Pos}{fa fb:aK->Rs (List (List Int))}(hc:X.calm=true)(hu:X.A.units + 8 < be)(ha:SK X B W a fa)(hb:SK X B W b fb) :
  SL X B W (.BinOp a .Sub b pos) (fKK anz fa fb):=by
 refine PE.imp (akX (ajo hu) ha hb) fun σ H Q h=>?_;obtain⟨ρ,G,s,p⟩:=h;refine⟨ρ,G,s,?_⟩;unfold fKK at p;cases e1:fa ρ with
 |ok l =>
  rw[e1]at p;have p':afv X.prog X.w X.K W σ G H ((fb ρ).bind fun m=>anz l m) Q:=p;intro p1 H1 G1 x1 n1 h1;refine⟨ρ,G1,s.ext x1,?_⟩;cases e2:fb ρ with
  |ok m =>
   rw[e2]at p';have p2':afv X.prog X.w X.K W σ G H (if Xl l m then .ok (Rp l m) else .no) Q:=p';intro p2 H2 G2 x2 n2 h2;have ne:p1≠p2:=fun z=>by subst z;rw[h1]at n2;cases n2
   by_cases hc:Xl l m
   ·rw[if_pos hc]at p2';refine⟨p1,p2,l,m,UG X.K G1,UG X.K G2,UG X.K G2,rfl,rfl,ne,x2.hh _ _ h1,h2,fun c ks q=>Same.fW x2.gg q,fun c ks q=>q,fun c ks q=>Same.fW x2.gh q,hc,fun l' hl'=>?_⟩;have x12:=x1.trans x2;exact p2' l' _ G2 (x12.trans (aan x2.gh x2.tp hl')) (by cases e:H l' with|none=>rfl|some o=>have:=x12.hh _ _ e;rw[hl']at this;cases this) bF
   ·rw[if_neg hc]at p2';exact p2'.elim
  |ex c n=>rw[e2]at p';exact fun H2 G2 x2=>p' H2 G2 (x1.trans x2)
  |no=>rw[e2]at p';exact p'
 |ex c n=>rw[e1]at p;exact p
 |no=>rw[e1]at p;exact p
theorem Xx{e:ai}{p pos:Pos}{f:aK->Rs (List (List Int))}(hc:X.calm=true) (hm:X.mg "sorted"=none) (he:SL X B W e f) (hg:Gl X "sorted":=by rfl) (hst:bo [e] X.env=[(false,ba e X.env)]:=by rfl) :
  SE X B W (.Call (.Name "sorted" p) [e] [] pos) (pH f):=by
 refine PE.imp (wN (Lk hc) hg hm uk (iC he jX hst) (by decide) (by decide) hst rfl) fun σ H Q h=>?_;obtain⟨ρ,G,s,p⟩:=h;refine⟨ρ,G,s,?_⟩;unfold pH at p;cases e1:f ρ with
 |ok aH =>
  rw[e1]at p;intro a H' G' x _ ha;have p':Post X.K W σ G H (vR aH) Q:=p;unfold vR at p';by_cases hc':(∀ks∈aH,ks≠[])/\aH.length < 1000
  ·rw[if_pos hc']at p';refine⟨a,aH,UG X.K G',rfl,ha,fun b ks hb=>Same.fW x.gh hb,hc'.1,hc'.2,fun l ys hl hy hv=>?_⟩;have x2:=jF (xs:=ys) x.gh x.tp hl;refine p' _ _ _ (x.trans x2) (aY.mpr ⟨l,ys,rfl,.of bF,?_⟩);exact(nu hy hv).mono x2.gg
  ·rw[if_neg hc']at p';exact p'.elim
 |ex c n=>rw[e1]at p;exact p
 |no=>rw[e1]at p;exact p
end
end Vl
namespace Vl
open PySem PySem.Spec L2 Dk
section
variable{prog:aE}{w:az}{A:a_}{E:aa->af->Prop}{s:af}
end
section
variable{X:Cx}{B:Bs}{W:Wi}
end
end Vl
namespace So
open PySem PySem.Spec PySem.W PyProof.Rows PySem.Calls Tb
section
variable{prog:aE}{w:az}{A:a_}{E:aa->af->Prop}{s:af}
theorem anB{x y:List Int}{a b:ab}{P:k9->af->Prop}(hx:cv (bE prog w) s.heap x a)(hy:cv (bE prog w) s.heap y b)(h:P (.done (.ret (.bool (jE x y)))) s) :
  ag (ah prog w) A (Builtin.«tuple.__lt__» ⟨[.ref a,.ref b],[]⟩) P E s:=by
 have hTb:=hy.typeIs;obtain⟨oa,xs,na,hoa,_,hda,hia⟩:=hx;obtain⟨ob,ys,nb,hob,_,hdb,hib⟩:=hy;show ag _ _ (isInstance (.ref b) (.type "tuple") >>= _) _ _ s;refine ae (kx hTb isSubtype_tuple_tuple ?_);simp only[dS,aS,if_false];refine ae (wpAny_tupleItemsOf hoa hda (ae (wpAny_tupleItemsOf hob hdb (ae ?_))));refine sk _ (fun left r s'=>r.1=none/\s'=s/\∃p q us vs,left=us.zip vs/\ItemsAre (bE prog w) p us/\ItemsAre (bE prog w) q vs/\jE p q=jE x y/\(us.length < vs.length↔xs.size < ys.size)) _ (fun e left r s' inv=>?_) (fun r s' inv=>?_) _ _ ⟨rfl,rfl,x,y,xs.toList,ys.toList,rfl,hia,hib,rfl,by simp⟩
 ·obtain⟨u,v⟩:=e;obtain⟨hr,rfl,p,q,us,vs,hz,hp,hq,hlt,Ro⟩:=inv;cases hp with
  |nil=>simp at hz
  | @cons k1 u' p' us' h1 hp' =>
   cases hq with
   |nil=>simp at hz
   | @cons k2 v' q' vs' h2 hq' =>
    simp only[List.zip_cons_cons,List.cons.injEq,rS]at hz;obtain⟨⟨rfl,rfl⟩,rfl⟩:=hz;refine ae ((bE prog w).eqBool (a:=k1) (b:=k2) h1 h2 ?_);by_cases hk:k1=k2
    ·rw[decide_eq_true hk];simp only[dS,aS,if_false];refine ar ⟨rfl,rfl,p',q',us',vs',rfl,hp',hq',?_,by simpa using Ro⟩;rw[<- hlt];simp[jE,hk]
    ·rw[decide_eq_false hk];simp only[j6,if_true];have e1:jE x y=decide (k1 < k2):=by rw[<- hlt];simp[jE,hk]
     rw[e1]at h;obtain⟨t1,rfl⟩:∃t,u=aa.int k1 t:=by
      cases u with
      |int i t=>exact⟨t,by rw[show i=k1 by simpa[bE,lz] using h1]⟩
      |_=>simp[bE,lz]at h1
     obtain⟨t2,rfl⟩:∃t,v=aa.int k2 t:=by
      cases v with
      |int i t=>exact⟨t,by rw[show i=k2 by simpa[bE,lz] using h2]⟩
      |_=>simp[bE,lz]at h2
     refine ae (gu (ae (wpAny_lt_int ?_)));exact ae (ar (ar (ar h)))
 ·obtain⟨r1,r2⟩:=r;obtain⟨hr,rfl,p,q,us,vs,hz,hp,hq,hlt,Ro⟩:=inv;simp only at hr;subst hr;refine ar ?_;have hfin:decide (xs.size < ys.size)=jE x y:=by
   have e9:decide (xs.size < ys.size)=decide (us.length < vs.length):=decide_eq_decide.mpr Ro.symm;rw[<- hlt,e9];cases hp with
   |nil =>
    cases hq with
    |nil=>simp[jE]
    |cons _ _=>simp[jE]
   |cons _ _ =>
    cases hq with
    |nil=>simp[jE]
    |cons _ _=>simp at hz
  show P (.done (.ret (.bool (decide (xs.size < ys.size))))) s';rw[hfin];exact h
theorem aqj{x y:List Int}{a b:ab}{Q:aa->af->Prop}(hu:A.units < be)(hx:cv (bE prog w) s.heap x a)(hy:cv (bE prog w) s.heap y b)(h:Q (.bool (jE x y)) s) :
  ag (ah prog w) A (qc .Lt (.ref a) (.ref b)) Q E s :=
 wpAny_richCompare_same_room (op:=.Lt) hx.typeIs hy.typeIs F.slot_tuple_lt (gT F.slot_tuple_lt hx.typeIs F.entry_tuple_lt (anB hx hy ⟨_,rfl,(fun e=>nomatch e),h⟩) (F.args_tuple_lt_2 _ _)) hu
section
variable{I S:ab}{fp wr:List ab}{G:Array l4->Array l4->Prop}{n:Nat}{P:Nat->aa->Prop}{St:Nat->af->Prop}{R:Result->af->Prop}{Kp:Heap->Prop}{bt:Nat->Nat->Bool}
def two(v:aa)(c:Nat):Obj:={ cls:=.type "list",dict:=none,data:=.seq #[v,v] c,slots:=#[] }
theorem ajp(W:WalksS prog w A.in1 I fp wr G n P St)(hcmp:∀i j vi vj (s:af) (Q:aa->af->Prop) (E:aa->af->Prop),Kp s.heap->P i vi->P j vj->Q (.bool (bt i j)) s->ag (ah prog w) A.in1 (qc .Lt vi vj) Q E s)
  (hK:∀h h':Heap,Kp h->(∀b o,b∉S::wr->h.get? b=some o->h'.get? b=some o)->Kp h') (hSf:S∉fp) :
  ∀(k j:Nat) (s:af) (vb:aa) (c:Nat),n - (j + 1)=k->j + 1<=n->St (j + 1) s->Kp s.heap->P (dk bt j) vb->s.heap.get? S=some (two vb c) ->
  (∀v s',P (dk bt (n - 1)) v->Moved (S::wr) G s s'->R (.ok (.ret v)) s')->f7 (ah prog w) A (.builtin "min.loop" ⟨[.ref I,.none,.ref S],[]⟩) R s:=by
 have ajq:S∉wr:=fun z=>hSf (W.sub _ z);have more:∀b∈wr,b∈S::wr:=fun b=>dQ _;have nm:(toString "min"++toString ".loop":String)="min.loop":=by decide
 have ne:∀{b:ab},b∉S::wr->S≠b:=fun hb z=>hb (z▸dA);have nw:∀{b:ab},b∉S::wr->b∉wr:=fun hb z=>hb (more _ z);intro k
 induction k with
 |zero =>
  intro j s vb c hk hj st kp pb hS hR;have hn:j + 1=n:=by lia
  refine gr yi ?_;rw[gS lx _];show ag _ A.in1 (n9 (.ref S) >>= _) _ _ s;refine ae (ku hS rfl ?_);show ag _ A.in1 (tryCatch (eA (.ref I)) _ >>= _) _ _ s;refine ae (i3 (W.done s _ _ (hn▸st) fun s1 m1=>?_));show ag _ A.in1 (j9 S (fun _=>#[]) >>= _) _ _ _;refine ae (gx (m1.heap S _ ajq hS) rfl (ae (kz (ar (hR vb _ (hn▸pb) ?_)))));exact(m1.mono more).then_heap (tk:=s1.toks) (br _) fun b o hb e=>(eS _ _ (ne hb)).trans e
 |succ k ih =>
  intro j s vb c hk hj st kp pb hS hR;refine gr yi ?_;rw[gS lx _];show ag _ A.in1 (n9 (.ref S) >>= _) _ _ s;refine ae (ku hS rfl ?_);show ag _ A.in1 (tryCatch (eA (.ref I)) _ >>= _) _ _ s;refine ae (i3 (W.item (j + 1) s _ _ (by lia) st fun v s1 pv st1 m1=>?_));have hS1:=m1.heap S _ ajq hS;have kp1:Kp s1.heap:=hK _ _ kp fun b o hb e=>m1.heap b o (nw hb) e;show ag _ A.in1 (tryCatch (ef [v,v] (qc .Lt v vb >>= _)) _ >>= _) _ _ _;refine ae (i3 (dP (ae (hcmp (j + 1) (dk bt j) v vb _ _ _ kp1 pv pb (ae (dP (l8 (ae (kz (ar ?_))))))))));cases hb:bt (j + 1) (dk bt j) with
  |false =>
   simp only[aS,if_false];refine ae (kz ?_);rw[nm];refine ar ⟨fF lx _,ih (j + 1) _ vb c (by lia) (by lia) st1 kp1 (by simp only[dk,hb,aS,if_false];exact pb) hS1 fun u s2 pu m2=>?_⟩;exact hR u s2 pu (sx W.gtrans (m1.mono more) m2)
  |true =>
   simp only[if_true];refine ae (gx hS1 rfl (ae (kz ?_)));rw[nm];have keep:∀b o,b∉S::wr->s1.heap.get? b=some o->(s1.heap.update S (di fun _=>#[v,v])).get? b=some o:=fun b o hb e=>(eS _ _ (ne hb)).trans e;refine ar ⟨fF lx _,ih (j + 1) _ v _ (by lia) (by lia) (W.frame _ s1 _ s1.toks st1 (br _) fun b hbf o e=>?_) (hK _ _ kp1 keep) (by simp only[dk,hb,if_true];exact pv) (fy _ hS1 rfl) fun u s2 pu m2=>?_⟩
   ·exact(eS _ _ (fun z:S=b=>hSf (z▸hbf))).trans e
   ·exact hR u s2 pu (sx W.gtrans ((m1.mono more).then_heap (tk:=s1.toks) (br _) keep) m2)
theorem Xy(W:WalksS prog w A.in1 I fp wr G n P St)(hcmp:∀i j vi vj (s:af) (Q:aa->af->Prop) (E:aa->af->Prop),Kp s.heap->P i vi->P j vj->Q (.bool (bt i j)) s->ag (ah prog w) A.in1 (qc .Lt vi vj) Q E s)
  (hK:∀h h':Heap,Kp h->(∀b o,b∉S::wr->h.get? b=some o->h'.get? b=some o)->Kp h') (hSf:S∉fp) (hn:0 < n) {s:af}{c:Nat}(st:St 0 s) (kp:Kp s.heap) (hS:s.heap.get? S=some { cls:=.type "list",dict:=none,data:=.seq #[] c,slots:=#[] })
  (hR:∀v s',P (dk bt (n - 1)) v->Moved (S::wr) G s s'->R (.ok (.ret v)) s'):f7 (ah prog w) A (.builtin "min.loop" ⟨[.ref I,.none,.ref S],[]⟩) R s:=by
 have ajq:S∉wr:=fun z=>hSf (W.sub _ z);have more:∀b∈wr,b∈S::wr:=fun b=>dQ _;have nm:(toString "min"++toString ".loop":String)="min.loop":=by decide
 have ne:∀{b:ab},b∉S::wr->S≠b:=fun hb z=>hb (z▸dA);have nw:∀{b:ab},b∉S::wr->b∉wr:=fun hb z=>hb (more _ z);refine gr yi ?_;rw[gS lx _];show ag _ A.in1 (n9 (.ref S) >>= _) _ _ s;refine ae (ku hS rfl ?_);show ag _ A.in1 (tryCatch (eA (.ref I)) _ >>= _) _ _ s;refine ae (i3 (W.item 0 s _ _ hn st fun v s1 pv st1 m1=>?_));have hS1:=m1.heap S _ ajq hS;have kp1:Kp s1.heap:=hK _ _ kp fun b o hb e=>m1.heap b o (nw hb) e;show ag _ A.in1 (j9 S (fun _=>#[v,v]) >>= _) _ _ _;refine ae (gx hS1 rfl ?_);rw[nm];have keep:∀b o,b∉S::wr->s1.heap.get? b=some o->(s1.heap.update S (di fun _=>#[v,v])).get? b=some o:=fun b o hb e=>(eS _ _ (ne hb)).trans e;refine ar ⟨fF lx _,ajp W hcmp hK hSf _ 0 _ v _ rfl hn (W.frame _ s1 _ s1.toks st1 (br _) fun b hbf o e=>?_) (hK _ _ kp1 keep) pv (fy _ hS1 rfl) fun u s2 pu m2=>?_⟩
 ·exact(eS _ _ (fun z:S=b=>hSf (z▸hbf))).trans e
 ·exact hR u s2 pu (sx W.gtrans ((m1.mono more).then_heap (tk:=s1.toks) (br _) keep) m2)
end
theorem afw{l:ab}{vs:List aa}{aH:List (List Int)}{Q:aa->af->Prop}(hh:A.handled=none)(hl:s.heap.IsList l vs.toArray)(hk:KeysAre prog w s.heap vs aH)(hne:0 < vs.length)(hu:A.units + 1 < be)
  (h:∀v h' tk,vs[dk (fun i j=>jE (aH.getD i []) (aH.getD j [])) (vs.length - 1)]?=some v->(∀b o,s.heap.get? b=some o->h'.get? b=some o)->Q v { s with heap:=h',toks:=tk }) :
  ag (ah prog w) A (call (.builtin "min") [.ref l]) Q E s:=by
 have nm:(toString "min"++toString ".loop":String)="min.loop":=by decide
 have hlt:l < s.heap.objs.size:=by obtain⟨_,e,_⟩:=hl;exact bu e
 refine call_function_tree F.kind_min F.plain_min F.entry_min (F.args_min1 _) ?_;show ag _ A.in1 (u4 "min" ["key","default"] 0 ⟨[],[]⟩ >>= _) _ _ s;refine ae (iO (show u4 "min" ["key","default"] 0 ⟨[],[]⟩=pure [none,none] from rfl) ?_);refine ae (ar (ae (qo hl ?_)));refine ae (gp ?_);rw[nm];have sz:∀o,(s.heap.push o).objs.size=s.heap.objs.size + 1:=fun o=>mI ..;have W:=(o7 (prog:=prog) (w:=w) (A:=A.in1) hh s.heap.objs.size l (bP hlt) vs.toArray).toS;have each:∀(i:Nat) v,vs[i]?=some v->∃b,v=.ref b/\b < s.heap.objs.size:=fun i v hv=>by obtain⟨b,e,q⟩:=hk.2 i v hv;obtain⟨o,_,_,ho,_⟩:=q;exact⟨b,e,bu ho⟩
 generalize hO:({ cls:=.type "list_iterator",data:=.fields #[.ref l,.int 0 0] }:Obj)=O at *;have hK:∀h1 h2:Heap,KeysAre prog w h1 vs aH->(∀b o,b∉[(s.heap.push O).objs.size,s.heap.objs.size]->h1.get? b=some o->h2.get? b=some o)->KeysAre prog w h2 vs aH:=fun h1 h2 k hm=>⟨k.1,fun i v hv=>by
  obtain⟨b,e,q⟩:=k.2 i v hv;obtain⟨b',e',lt⟩:=each i v hv;rw[e]at e';cases e';obtain⟨o,its,m,q1,q2,q3,q4⟩:=q;refine⟨b,e,o,its,m,hm b o ?_ q1,q2,q3,q4⟩;simp only[sz,bz,gd,or_false,not_or];exact⟨bP (iE lt),bP lt⟩⟩
 have kp:KeysAre prog w ((s.heap.push O).push { cls:=.type "list",dict:=none,data:=.seq #[] 0,slots:=#[] }) vs aH:=hk.moved fun b o e _=>bX _ (bX _ e);refine ar ⟨fF lx _,Xy (S:=(s.heap.push O).objs.size) (Kp:=fun h=>KeysAre prog w h vs aH) (bt:=fun i j=>jE (aH.getD i []) (aH.getD j [])) W (fun i j vi vj s' Q' E' k pi pj q=>?_) hK ?_ (by simpa using hne) ?_ kp (dc _ rfl) fun v s' pv m=>?_⟩
 ·have pi':vs[i]?=some vi:=by simpa using pi
  have pj':vs[j]?=some vj:=by simpa using pj
  obtain⟨b1,rfl,k1⟩:=k.2 i vi pi';obtain⟨b2,rfl,k2⟩:=k.2 j vj pj';exact aqj (by show A.units + 1 < be;exact hu) k1 k2 q
 ·rw[sz];simp only[bz,gd,or_false,not_or];exact⟨sM _,hG (iE hlt)⟩
 ·subst hO;exact⟨⟨_,bX _ (dc _ rfl),rfl,rfl⟩,(hl.push _).push _⟩
 ·obtain⟨h',g',d',tk',os'⟩:=s';have eg:g'=s.gens:=m.gens;have ed:d'=s.drawn:=m.drawn;have eo:os'=s.os:=m.os;subst eg ed eo;refine h v h' tk' (by simpa using pv) fun b o e=>m.heap b o ?_ (bX _ (bX _ e));have:=bu e;rw[sz];simp only[bz,gd,or_false,not_or];exact⟨bP (iE this),bP this⟩
end
end So
namespace Vl
open PySem PySem.Spec L2 So
theorem aax(k:List Int):jE k k=false:=by
 cases z:jE k k with
 |false=>rfl
 |true=>have:=sJ _ _ z;rw[z]at this;cases this
def mQ:List (List Int)->List Int
 | []=>[]
 | [k]=>k
 |k::ks=>if jE k (mQ ks) then k else mQ ks
theorem aay:∀{ks:List (List Int)},0 < ks.length->mQ ks∈ks/\∀a∈ks,jE a (mQ ks)=false
 | [k],_=>⟨by simp[mQ],fun a h=>by
   simp at h;rw[h];exact aax k⟩
 |k::m::ks,_=>by
  obtain⟨h1,h2⟩:=aay (ks:=m::ks) (by simp);show(if jE k (mQ (m::ks)) then k else mQ (m::ks))∈k::m::ks/\∀a∈k::m::ks,jE a (if jE k (mQ (m::ks)) then k else mQ (m::ks))=false;cases e:jE k (mQ (m::ks)) with
  |true =>
   simp only[if_true];refine⟨dA,fun a ha=>?_⟩;have e':=sJ _ _ e;rcases bz.mp ha with rfl|ha
   ·cases z:jE a a with
    |false=>rfl
    |true=>have:=sJ _ _ z;rw[z]at this;cases this
   ·exact Dv _ _ _ e' (h2 a ha)
  |false =>
   simp only[aS,if_false];refine⟨dQ _ h1,fun a ha=>?_⟩;rcases bz.mp ha with rfl|ha
   ·exact e
   ·exact h2 a ha
theorem aaz(aH:List (List Int)):∀m,dk (fun i j=>jE (aH.getD i []) (aH.getD j [])) m<=m/\∀j,j<=m->jE (aH.getD j []) (aH.getD (dk (fun i j=>jE (aH.getD i []) (aH.getD j [])) m) [])=false
 | 0=>⟨br _,fun j hj=>by
   obtain rfl:j=0:=by lia
   show jE (aH.getD 0 []) (aH.getD 0 [])=false;cases z:jE (aH.getD 0 []) (aH.getD 0 []) with
   |false=>rfl
   |true=>have:=sJ _ _ z;rw[z]at this;cases this⟩
 |m + 1=>by
  obtain⟨h1,h2⟩:=aaz aH m;simp only[dk];by_cases e:jE (aH.getD (m + 1) []) (aH.getD (dk (fun i j=>jE (aH.getD i []) (aH.getD j [])) m) [])=true
  ·rw[if_pos e];refine⟨br _,fun j hj=>?_⟩;by_cases c:j=m + 1
   ·subst c;exact aax _
   ·exact Dv _ _ _ (sJ _ _ e) (h2 j (by lia))
  ·rw[if_neg e];refine⟨by lia,fun j hj=>?_⟩;by_cases c:j=m + 1
   ·subst c;simpa using e
   ·exact h2 j (by lia)
theorem afx{aH:List (List Int)}(h:0 < aH.length):aH.getD (dk (fun i j=>jE (aH.getD i []) (aH.getD j [])) (aH.length - 1)) []=mQ aH:=by
 obtain⟨b1,b2⟩:=aaz aH (aH.length - 1);obtain⟨k1,k2⟩:=aay h;have hlt:dk (fun i j=>jE (aH.getD i []) (aH.getD j [])) (aH.length - 1) < aH.length:=by lia
 have m1:aH.getD (dk (fun i j=>jE (aH.getD i []) (aH.getD j [])) (aH.length - 1)) []∈aH:=by rw[fE,eI hlt];exact dm hlt
 refine Xb _ _ (k2 _ m1) ?_;obtain⟨j,hj,e⟩:=f_.mp k1;have:=b2 j (by lia);have ej:aH.getD j []=mQ aH:=by rw[fE,eI hj];exact e
 rw[ej]at this;exact this
section
variable{X:Cx}{B:Bs}{W:Wi}{K:aw}
def alx(K:aw):List V->Hp->VK->Prop:=fun xs H Q=>∃(p:ab) (ys:List V) (aH:List (List Int)),xs=[.ref p]/\pO K H p ys/\aH.length=ys.length/\0 < aH.length/\(∀(i:Nat) v,ys[i]?=some v->∃b,v=.ref b/\ni K H b ((aH.getD i []).map V.int)) /\
 ∀(i:Nat) v,ys[i]?=some v->aH.getD i []=mQ aH->Q v H
theorem abM(hc:X.calm=true)(hu:X.A.units + 1 < be):gw X (.builtin "min") (alx X.K):=by
 intro pins s σ H xs us Q I r h;obtain⟨p,ys,aH,rfl,hs,hlen,hne,hk,q⟩:=h;obtain⟨u,rfl,rx⟩:=r.one;cases rx;obtain⟨its,rv,pl,_⟩:=I.list hs;have hl:=rv.length;refine afw (aH:=aH) (I.ok.hd hc) pl.isList ⟨by lia,fun i v hv=>?_⟩ (by lia) hu fun v h' tk hv hk'=>?_
 ·obtain⟨x,h1,h2⟩:=Vals.get' rv hv;obtain⟨b,rfl,h3⟩:=hk i x h1;exact⟨b,h2,vQ I h3⟩
 ·obtain⟨x,h1,h2⟩:=Vals.get' rv hv;have hz:its.length=aH.length:=by lia
  rw[hz]at h1;exact⟨x,H,I.kept (t':=tk) hk',h2,q _ x h1 (afx hne)⟩
def Jh:List D->Rs D
 | [.lst ds]=>(match jW ds with|some aH=>if 0 < aH.length then .ok (yT (mQ aH)) else .no|none=>.no)
 |_=>.no
theorem ajr:pQ K (alx K) Jh:=by
 intro B W σ ρ G H ds vs Q s r p;unfold Jh at p;split at p
 ·rename_i ds;obtain⟨v,vs',rfl,r1,r2⟩:=aQ.mp r;obtain⟨a,us,rfl,q,rr⟩:=aY.mp r1;rw[bx.mp r2];split at p
  ·rename_i aH ei;split at p
   ·rename_i hc;rw[sS ei]at rr;obtain⟨h1,h2⟩:=zc rr;refine⟨a,us,aH,rfl,s.en.gh.seq q,h1,hc,fun i v hv=>?_,fun i v hv e=>?_⟩
    ·obtain⟨b,e,z⟩:=h2 i v hv;exact⟨b,e,Same.fW s.en.gh z⟩
    ·refine p _ H G s.vD (Eb.mpr ?_);obtain⟨b,e',z⟩:=h2 i v hv;rw[e]at z;exact⟨b,e',z⟩
   ·exact p.elim
  ·exact p.elim
 ·exact p.elim
theorem ajs{e:ai}{p pos:Pos}{fa:aK->Rs D}(hc:X.calm=true) (hu:X.A.units + 8 < be) (hm:X.mg "min"=none) (ha:SE X B W e fa) (hg:Gl X "min":=by rfl) (he:bo [e] X.env=[(false,ba e X.env)]:=by rfl):SE X B W (.Call (.Name "min" p) [e] [] pos) (fA (ao fa aU) Jh) :=
 lM (abM hc (Ja hu)) ajr hg hm rfl (ak ha aJ he) (by decide) (by decide) he rfl
end
end Vl
namespace Vl
open PySem PySem.Spec L2
theorem uJ{α β:Type}(f:α->β):∀(l:List α) (j:Nat),(l.map f).eraseIdx j=(l.eraseIdx j).map f
 | [],_=>rfl
 |_::_,0=>rfl
 |_::l,j + 1=>by simp[sF,uJ f l j]
section
variable{prog:aE}{w:az}{K:Type}[DecidableEq K]{knd:HeapKind prog w K}{A:a_}{E:aa->af->Prop}{s:af}
end
section
variable{X:Cx}{B:Bs}{W:Wi}{K:aw}
end
end Vl
namespace Zp
open PySem PySem.Spec
section
variable{prog:aE}{w:az}{A:a_}{E:aa->af->Prop}{s:af}
end
end Zp
namespace L2
open PySem PySem.Spec PyProof.Rows
section
variable{X:Cx}
end
end L2
namespace Vl
open PySem PySem.Spec L2
section
variable{X:Cx}{B:Bs}{W:Wi}{K:aw}{G:Hp}
def aaA(h:Tg)(gb:aK->Ou)(f:aK->Rs (List D)):aK->Ou:=fun ρ=>match f ρ with
 | .ok ds=>fJ h gb ds ρ
 | .ex c n=>.ex c n ρ
 | .no=>.no
theorem ajt{tg iter:ai}{body:List bj}{pos:Pos}{f:aK->Rs (List D)}{h:Tg}{gb:aK->Ou}(hp:md (ah X.prog X.w) X.A X.env X.xe)(hc:X.calm=true)(hi:SI X B W tg iter f)(hg:SG X B tg h)(hb:yS X B W body gb)
  (hs:∀x,hV iter X.env x=pure x:=by intro _;rfl):SS X B W (.For tg iter body [] pos) (aaA h gb f):=by
 refine PS.imp (CN hp hc hi hg hb hs) fun De σ H ⟨ρ,G,s,p⟩=>⟨ρ,G,s,?_⟩
 unfold aaA at p;cases e:f ρ with
 |no=>rw[e]at p;exact p.elim
 |ex c n=>rw[e]at p;exact fun H' G' x=>p σ H' G' (s.ext x) x.gg
 |ok ds =>
  rw[e]at p;intro J H' G' x yl;refine⟨fun i m σ H=>m=ds.length - i/\i<=ds.length/\∃ρ G,SR X.K B σ H ρ G/\Same G' G/\eN X.K B W G (fJ h gb (ds.drop i) ρ) De,⟨ds.length,by simp,eC _,ρ,G',s.ext x,.refl _,by simpa using eN.same p x.gg⟩,?_⟩;rintro i m σ2 H2 ⟨rfl,hi',ρ2,G2,s2,gg,p2⟩;obtain⟨y1,y2⟩:=yl i G2 H2 gg s2.vD;by_cases hlt:i < ds.length
  ·obtain⟨go,y3⟩:=y1 ds[i] (eI hlt);refine .inr ⟨go,fun σ' H'=>∃ρ' G3,SR X.K B σ' H' ρ' G3/\Same G' G3/\eN X.K B W G3 (fJ h gb (ds.drop (i + 1)) ρ') De,fun σ' H3 p'=>⟨ds.length - (i + 1),by lia,rfl,hlt,p'⟩,fun v H3 yd=>?_⟩;obtain⟨G3,x3,r3⟩:=y3 v H3 yd;rw[jv hlt]at p2;exact wV (s2.ext x3) r3 (eN.same p2 x3.gg) fun σ' H4 ρ' G4 s' q' p'=>⟨ρ',G4,s',gg.trans (x3.gg.trans q'),p'⟩
  ·have ei:i=ds.length:=by lia
   subst ei;rw[qS]at p2;exact .inl ⟨y2 (br _),p2 σ2 H2 G2 s2 (.refl _)⟩
end
end Vl
namespace Vl
open PySem PySem.Spec PySem.Calls PySem.W L2
end Vl
namespace HT2
open PySem PySem.Spec PyProof.Rows HT
variable{prog:aE}{w:az}{A:a_}{E:aa->af->Prop}{s:af}
end HT2
namespace Vl
open PySem PySem.Spec PySem.Calls PySem.W L2
section
variable{X:Cx}{B:Bs}{W:Wi}
section
variable{K:aw}{σ:St}{G H:Hp}{ρ:aK}
end
end
end Vl
namespace Vl
open PySem PySem.Spec PySem.Calls PySem.W L2 PyProof.Rows
section
variable{X:Cx}{B:Bs}{W:Wi}
section
variable{K:aw}
end
section
variable{K:aw}
end
variable{a b:ai}{pos:Pos}{fa fb:aK->Rs D}
end
end Vl
namespace Vl
open PySem PySem.Spec L2 AutoSeq1
abbrev anC(xs:Array aa)(m:Nat)(sl:Array (Option aa)):Obj:={ cls:=.type "list",dict:=none,data:=.seq xs m,slots:=sl }
theorem Xz{l b:ab}{xs ys:Array aa}{m k:Nat}{sl:Array (Option aa)}(c0:¬(!xs.isEmpty && qv (xs.size + ys.size))=true)(c1:xs.size<=sizeLine)(c2:xs.size + ys.size<=sizeLine + 1) :
  Meets (Builtin.«list.extend» ⟨[.ref l,.ref b],[]⟩) (fun _ R s=>s.heap.get? l=some (anC xs m #[])/\s.heap.get? b=some (anC ys k sl)/\R (.ok (.ret .none)) { s with heap:=s.heap.update l (di fun x=>x++ys),toks:=s.toks }):=by
 refine .of_wp fun prog w A R s h=>?_;obtain⟨hp,g,d,tk,os⟩:=s;obtain⟨h1,h2,h3⟩:=h;have f1:=idx_int;have f2:=sub_tuple_tuple;have f3:=sub_list_list;have f4:=sub_tuple_list;have f5:=sub_list_tuple;have z:(xs++ys).size<=sizeLine + 1:=by rw[lj];exact c2
 wp_walk using(gx h1 rfl (hz:=c1) (_hz':=z)),wpAny_loadPart' h1,wpAny_loadPart' h2
 exact⟨_,rfl,h3⟩
section
variable{X:Cx}{B:Bs}{W:Wi}{K:aw}
def aly(K:aw):V->List V->Hp->VK->Prop:=fun x vs H Q=>∃l b xs zs,x=.ref l/\vs=[.ref b]/\H l=some (.lst xs)/\pO K H b zs/\xs.length + zs.length<=sizeLine/\Q .non (upd H l (.lst (xs++zs)))
theorem aju:MtM X "list.extend" (aly X.K):=by
 intro pins s σ H x vs v us Q I rx rv ⟨l,b,xs,zs,e1,e2,hH,hB,hz,q⟩;subst e1;subst e2;cases rx;obtain⟨u,rfl,ru⟩:=rv.one;cases ru;obtain⟨z,its,n,r,hl,e⟩:=I.amt hH;have hb:∃(its2:List aa) (n2:Nat) (sl:Array (Option aa)),Vals zs its2/\s.heap.get? b=some (anC its2.toArray n2 sl):=by
  rcases hB with h|⟨o,its2,n2,hk,hc,hd,hs,hz2,r2⟩
  ·obtain⟨z2,its2,n2,r2,e2⟩:=h.ok I.hok;exact⟨its2,n2,#[],r2,e2⟩
  ·refine⟨its2.toList,n2,o.slots,r2,?_⟩;rw[I.kIn b o hk];cases o;simp only at hc hd hs;subst hc;subst hd;subst hs;rfl
 obtain⟨its2,n2,sl,r2,w2⟩:=hb;have l2:=r2.length;have le:its.length + its2.length<=sizeLine:=by lia
 have c:¬(!its.toArray.isEmpty && qv (its.length + its2.length))=true:=fun y=>by have:=(k4 _ _▸y).2;rw[adu le]at this;cases this
 have m:=Xz (l:=l) (b:=b) (xs:=its.toArray) (ys:=its2.toArray) (m:=n) (k:=n2) (sl:=sl) c (cz (xm _ _) le) (Nat.le_succ_of_le le);refine call_meets F.slot_list_extend ⟨_,e,rfl⟩ F.entry_list_extend (F.args_list_extend_2 _ _) m ⟨e,w2,.non,_,?_,rfl,q⟩;exact I.ams (its':=its++its2) hH e (by simp) (r.append r2) (by rw[eR];exact hz)
def Ji(i:Nat)(f:aK->Rs D):aK->Ou:=fun ρ=>match ρ[i]? with
 |some (.ow ds)=>oR (f ρ) ρ fun d=>(match d with
  | .lst es=>if ds.length + es.length<=1000000 then .nx (ρ.set i (.ow (ds++es))) else .no
  |_=>.no)
 |_=>.no
theorem ajv{i:Nat}{x:Str}{e:ai}{pos p1 p2 cp:Pos}{f:aK->Rs D}(he:SE X B W e f)
  {pe:PE X (.Call (.Attribute (.Name x p1) "extend" p2) [e] [] cp) (tBM X.K "list" (aly X.K) (JF i) (adk (tF X.K B W f) amk))}
  (hs:fm (.Call (.Attribute (.Name x p1) "extend" p2) [e] [] cp) none pos.line X.env=pure false:=by rfl) :
  SS X B W (.Expr (.Call (.Attribute (.Name x p1) "extend" p2) [e] [] cp) pos) (Ji i f):=by
 refine PS.imp (JG pe hs) fun De σ H fH=>?_;obtain⟨ρ,G,s,p⟩:=fH;unfold Ji at p;cases q:ρ[i]? with
 |none=>rw[q]at p;exact p.elim
 |some z =>
  rw[q]at p;cases z with
  |no=>exact p.elim
  |fz d=>exact p.elim
  |od _=>exact p.elim
  |op _=>exact p.elim
  |ow ds =>
   obtain⟨a,vs,e1,h2,h3,h4,h5⟩:=s.ow i ds q;refine⟨_,e1,.inl ⟨rfl,vs,.of h2⟩,ρ,G,s,gQ s p fun d v H' G' _ x r p'=>?_⟩;cases d with
   |lst es =>
    dsimp only at p';by_cases hl:ds.length + es.length<=1000000
    ·rw[if_pos hl]at p';have s':=s.ext x;obtain⟨b,us,rfl,q2,rr⟩:=aY.mp r;refine⟨a,b,vs,us,rfl,rfl,x.hh _ _ h2,x.gh.seq q2,by rw[<- h5.length,<- rr.length];exact sz6 hl,?_⟩;exact p' σ _ G' (s'.write q e1 ((h5.mono x.gg).append rr)) (.refl _)
    ·rw[if_neg hl]at p';exact p'.elim
   |_=>exact p'.elim
theorem ajw(i:Nat) {x:Str}{e:ai}{pos p1 p2 cp:Pos}{f:aK->Rs D}(he:SE X B W e f) (hN:X.N[i]?=some x:=by rfl) (hv:Vis X.env.scope x:=by first|exact Or.inl rfl|exact Or.inr (Or.inl rfl)|exact Or.inr (Or.inr rfl)) (hd:(x == ("__debug__":Str))=false:=by decide)
  (hcd:(x == ("__classdict__":Str))=false:=by decide) (hst:bo [e] X.env=[(false,ba e X.env)]:=by rfl)
  (hbase:k0 (.Name x p1) "extend" X.env (ba (.Name x p1) X.env)=ba (.Name x p1) X.env:=by rfl)
  (hfew:((d6 cp (bo [e] X.env)).all (fun x=>!x.1) && (ja cp (jb [] X.env)).all (fun x=>x.1.isSome)
   && decide (([e]:List ai).length + ([]:List kd).length + (if ([]:List kd).isEmpty then 0 else 1) < 30))=true:=by rfl)
  (hline:(p2.endLine == cp.line)=true:=by rfl) (hplain:(d6 cp (bo [] X.env)).any (·.1)=false:=by rfl)
  (hs:fm (.Call (.Attribute (.Name x p1) "extend" p2) [e] [] cp) none pos.line X.env=pure false:=by rfl) :
  SS X B W (.Expr (.Call (.Attribute (.Name x p1) "extend" p2) [e] [] cp) pos) (Ji i f) :=
 ajv (pe:=adt x5 PySem.F.slot_list_extend PySem.F.type_list_extend aju (nH hN hv hd hcd) (iC he jX hst) hbase hfew hline hst hplain) he hs
end
end Vl
namespace Vl
open PySem PySem.Spec PySem.Calls PySem.W L2
def ava:Sl->Option (List D)
 | .ow ds=>some ds
 | .op ds=>some ds
 |_=>none
section
variable{X:Cx}{K:aw}{B:Bs}{W:Wi}{σ:St}{G H G' H':Hp}{ρ:aK}
end
section
variable{X:Cx}{K:aw}{B:Bs}{W:Wi}{σ:St}{G H G' H':Hp}{ρ:aK}
end
def lf{α:Type}(r:Rs α)(ρ:aK):Rs (α×aK):=match r with
 | .ok a=>.ok (a,ρ)
 |_=>.no
section
variable{X:Cx}{K:aw}{B:Bs}{W:Wi}{σ:St}{G H G' H':Hp}{ρ:aK}
section
variable{x:Str}{p pos:Pos}{e:ai}{es:List ai}{id T:String}{r:List V->Hp->VK->Prop}{g:List D->Rs D}{fs:aK->Rs (List D×aK)}
end
variable{a b:ai}{pos:Pos}{fa fb:aK->Rs (D×aK)}
end
end Vl
namespace Vl
open PySem PySem.Spec PySem.Calls PySem.W L2 So
section
variable{X:Cx}{K:aw}{B:Bs}{W:Wi}{σ:St}{G H G' H':Hp}{ρ:aK}{De:Ends}
end
section
variable{X:Cx}{K:aw}{B:Bs}{W:Wi}{σ:St}{G H G' H':Hp}{ρ:aK}{a b:ai}{pos:Pos}{fa fb:aK->Rs (D×aK)}
section
variable{x:Str}{p1:Pos}{fb:aK->Rs D}(j:Nat) (hu:X.A.units + 8 < be) (hb:SE X B W b fb) (hN:X.N[j]?=some x) (hv:Vis X.env.scope x) (hd:(x == ("__debug__":Str))=false) (hcd:(x == ("__classdict__":Str))=false)
end
end
end Vl
namespace Vl
open PySem PySem.Spec PySem.Calls PySem.W L2
section
variable{ρ ρ1:aK}{d x y z:D}{f fa fb:aK->Rs D}{g k a b:aK->Ou}{r:Ou}{ds:List D}{fs:aK->Rs (List D)}{c c1 c2:aK->Rs Bool}{t u:Bool}{i j:Nat}{α β:Type}{e:Str}{n:Int}
theorem afy:adK (.nx ρ) k=k ρ:=rfl
theorem afz:adK (.rt d) k=.rt d:=rfl
theorem afA:adK (.ex e n ρ) k=.ex e n ρ:=rfl
theorem ajx{a:α}{k:α->Ou}:oR (.ok a) ρ k=k a:=rfl
theorem anD{k:α->Ou}:oR (.ex e n) ρ k=.ex e n ρ:=rfl
theorem rN{a:α}{k:α->Rs β}:Rs.bind (.ok a) k=k a:=rfl
theorem afB{k:α->Rs β}:Rs.bind (.ex e n) k=.ex e n:=rfl
theorem anE:oO (some ρ)=.nx ρ:=rfl
theorem afC:dZ (.nx ρ)=.ok .non:=rfl
theorem afD:dZ (.rt d)=.ok d:=rfl
theorem afE:dZ (.ex e n ρ)=.ex e n:=rfl
theorem afF:adP (.nx ρ)=.nx ρ:=rfl
theorem afG:adP (.rt d)=.rt d:=rfl
theorem XC{n:Nat}{v:List D->Rs D}:bA n v ds=if ds.length=n then v ds else .no:=rfl
theorem XD{a:α}:Di (.ok a)=.ok a:=rfl
theorem nY{m n:Int}(h:-(2 ^ 64) < n/\n < 2 ^ 64):iD (.int m) (.int n)=.ok (.int (m * n)):=apG (.inr h)
theorem RG{m:Int}:fO (.tup ds) (.int m)=match CV ds m with|some d=>.ok d|none=>.no:=rfl
theorem afH{m:Int}:fO (.lst ds) (.int m)=match CV ds m with|some d=>.ok d|none=>.no:=rfl
theorem zp:Bk [.lst ds]=.ok (.int ds.length):=rfl
theorem vZ:Bk [.tup ds]=.ok (.int ds.length):=rfl
theorem tu:jY [.lst ds]=.ok (.tup ds):=rfl
theorem XF:jY [.tup ds]=.ok (.tup ds):=rfl
theorem XH:zf [.lst ds]=.ok (.lst ds):=rfl
theorem Ln:zf [.tup ds]=.ok (.lst ds):=rfl
theorem XJ:aqf [.int n]=.ok (.int n):=rfl
theorem XM:aqf [.bl t]=.ok (.int (if t then 1 else 0)):=rfl
theorem RJ:aeS x .non=.ok (.bl (vh x)):=rfl
theorem wg:Ef x .non=.ok (.bl (!vh x)):=rfl
theorem anF:vh .non=true:=rfl
theorem anG:vh (.bl t)=false:=rfl
theorem anH:vh (.int n)=false:=rfl
theorem anI:vh (.tup ds)=false:=rfl
theorem anJ:vh (.lst ds)=false:=rfl
theorem afI:ail (.int n)=.ok (.int (-n)):=rfl
theorem rO{d:D}:CV (d::ds) 0=some d:=by
 unfold CV;have:JK (d::ds).length 0=some 0:=by unfold JK;simp
 rw[this];rfl
theorem Jj{d d':D}:CV (d::d'::ds) 1=some d':=by
 unfold CV;have:JK (d::d'::ds).length 1=some 1:=by unfold JK;simp;lia
 rw[this];rfl
end
section
open So Tb
theorem Jk{α:Type}{h:Tg}{fe:aK->Rs D}(P:aK->Prop)(Ij:α->D)(F:α->D):∀{xs:List α}{ρ:aK},P ρ->(∀x∈xs,∀ρ,P ρ->∃ρ1,h (Ij x) ρ=some ρ1/\fe ρ1=.ok (F x)/\P ρ1)->jr h (fun _=>.ok true) fe (xs.map Ij) ρ=.ok (xs.map F)
 | [],ρ,p,_=>rfl
 |x::xs,ρ,p,st=>by obtain⟨ρ1,e1,e2,p2⟩:=st x (by simp) ρ p;have e:=Jk (xs:=xs) P Ij F p2 fun d' hd=>st d' (by simp[hd]);simp only[ck,jr,e1,Rs.bind,e2,e,if_true]
theorem ajy{acc:List (List Int)}{k x:List Int}:x∈ins acc k↔x=k∨x∈acc:=by
 unfold ins;split
 ·rename_i h;constructor
  ·exact .inr
  ·rintro(rfl|h')
   ·exact h
   ·exact h'
 ·exact bz
theorem kj{l:List (List Int)}{x:List Int}:x∈bT l↔x∈l:=by
 unfold bT;have:∀(l acc:List (List Int)),x∈l.foldl ins acc↔x∈l∨x∈acc:=by
  intro l
  induction l with
  |nil=>intro acc;simp
  |cons a l ih =>
   intro acc;rw[jI,ih,ajy,bz];constructor
   ·rintro(h|h|h)
    ·exact .inl (.inr h)
    ·exact .inl (.inl h)
    ·exact .inr h
   ·rintro((h|h)|h)
    ·exact .inr (.inl h)
    ·exact .inl h
    ·exact .inr (.inr h)
 simpa using this l []
theorem abN(l:List (List Int)):(bT l).Nodup:=by
 unfold bT;have:∀(l acc:List (List Int)),acc.Nodup->(l.foldl ins acc).Nodup:=by
  intro l
  induction l with
  |nil=>intro acc h;exact h
  |cons a l ih =>
   intro acc h;refine ih _ ?_;unfold ins;split
   ·exact h
   ·rename_i hn;exact eQ.mpr ⟨hn,h⟩
 exact this l [] o5
theorem zq{l:List (List Int)}{x:List Int}:x∈cF l↔x∈l:=(fD l).mem_iff
theorem nA(l:List (List Int)):(cF l).length=l.length:=(fD l).length_eq
abbrev rise(l:List (List Int)):List (List Int):=cF (bT l)
theorem xX{l:List (List Int)}{x:List Int}:x∈rise l↔x∈l:=zq.trans kj
theorem RK(l:List (List Int)):(rise l).length<=l.length:=by unfold rise;rw[nA];exact jZ l
theorem ajz{f:aK->Rs D}{ρ:aK}{aH:List (List Int)}(h:f ρ=.ok (.lst (aH.map yT)))(hl:aH.length < 1000)(hne:∀ks∈aH,ks≠[]):pH (fK f) ρ=.ok (.lst ((rise aH).map yT)):=by unfold pH fK;rw[h];simp only[rN,Ec,uG];rw[if_pos (jn (Tb.jZ _) hl)];simp only[rN,vR];rw[if_pos ⟨fun ks hk=>hne ks (kj.mp hk),jn (jZ aH) hl⟩]
def Pair(ks:List Int):Prop:=∃a b,ks=[a,b]
theorem Pair.ne{ks:List Int}(h:Pair ks):ks≠[]:=by obtain⟨a,b,rfl⟩:=h;simp
def shD(aH:List (List Int))(b:Bool):D:=.tup [.tup (aH.map yT),.bl b]
theorem El(ks:List Int):cR (yT ks)<=2:=by
 unfold yT;have:gB (ks.map D.int)<=1:=by
  induction ks with
  |nil=>simp[gB]
  |cons k ks ih=>simp only[ck,gB,cR];exact u5.mpr ⟨by lia,ih⟩
 simp only[cR];lia
theorem nC(aH:List (List Int)):gB (aH.map yT)<=2:=by
 induction aH with
 |nil=>simp[gB]
 |cons k aH ih=>simp only[ck,gB];exact u5.mpr ⟨El k,ih⟩
theorem aaB(aH:List (List Int))(b:Bool):cR (shD aH b)<=8:=by have:=nC aH;unfold shD;simp only[cR,gB];refine cz (vS (u5.mpr ⟨vS this,?_⟩)) (show 3 + 1<=8 by decide);exact u5.mpr ⟨by decide,by decide⟩
end
end Vl
namespace Vl
open PySem PySem.Spec PySem.Calls PySem.W L2 So
section
variable{ρ ρ1 ρ2:aK}{d x y z:D}{f fa fb:aK->Rs D}{xa xb:aK->Rs (D×aK)}{g k a b:aK->Ou}{r:Ou}{ds:List D}{fs:aK->Rs (List D)}{xs:aK->Rs (List D×aK)}{c c1 c2:aK->Rs (Bool×aK)}{t u:Bool}{i j:Nat}
end
end Vl
namespace Vl
open PySem PySem.Spec PySem.Calls PySem.W L2
abbrev KL:=List (List Int)
theorem t2(a b:D):dF [a,b]=.ok (.tup [a,b]):=alk (by simp)
theorem pY(ks:List Int):qT (yT ks)=some ks:=by
 show vW (ks.map D.int)=some ks
 induction ks with
 |nil=>rfl
 |cons k ks ih=>rw[ck];show(vW (ks.map D.int)).map _=_;rw[ih];rfl
theorem wj(kvs:List (List Int×D))(x:List Int):(cC kvs x).isSome=decide (x∈kvs.map (·.1)):=by
 induction kvs with
 |nil=>rfl
 |cons p kvs ih =>
  unfold cC at ih ⊢;rw[gf,ck];by_cases h:p.1=x
  ·simp[h]
  ·have h':¬x=p.1:=fun z=>h z.symm;simp only[h,decide_false];rw[ih];simp[h']
theorem Em(kvs:List (List Int×D))(ks x:List Int)(d:D):x∈(mz kvs ks d).map (·.1)↔x=ks∨x∈kvs.map (·.1):=by
 unfold mz;split
 ·rename_i c;rw[wj]at c;have hk:=of_decide_eq_true c;have e:(kvs.map fun p=>if p.1=ks then (p.1,d) else p).map (·.1)=kvs.map (·.1):=by rw[d5];refine o4 fun p _=>?_;show(if p.1=ks then (p.1,d) else p).1=p.1;split <;> rfl
  rw[e];exact⟨.inr,fun h=>h.elim (fun z=>z▸hk) id⟩
 ·rw[k7,d9];simp[or_comm]
theorem xY(kvs:List (List Int×D))(ks:List Int)(d:D):(mz kvs ks d).length<=kvs.length + 1:=by
 unfold mz;split
 ·rw[cb];lia
 ·simp
theorem Jl{ρ:aK}{j:Nat}{kvs:List (List Int×D)}{ks:List Int}{v:D}{fe fk:aK->Rs D}(he:fe ρ=.ok v)(hj:ρ[j]?=some (.od kvs))(hk:fk ρ=.ok (yT ks))(hl:kvs.length<=1000000):vm j fe fk ρ=.nx (ρ.set j (.od (mz kvs ks v))):=by unfold vm;rw[he,hj];show oR (fk ρ) ρ _=_;rw[hk];show(match qT (yT ks) with|some ks=>if kvs.length<=1000000 then Ou.nx _ else .no|none=>.no)=_;rw[pY];show(if kvs.length<=1000000 then Ou.nx _ else .no)=_;rw[if_pos hl]
def GK(kvs:List (List Int×D)):Prop:=∀x∈kvs.map (·.1),Pair x
abbrev sh(k:KL)(b:Bool):D:=.tup [.tup (k.map yT),.bl b]
structure GN (kvs:List (List Int×D)):Prop where
 pr:GK kvs
 nd:(kvs.map (·.1)).Nodup
theorem GN.put{kvs:List (List Int×D)}(h:GN kvs)(x y:Int)(d:D):GN (mz kvs [x,y] d):=by
 refine⟨fun z hz=>?_,?_⟩
 ·rcases(Em kvs [x,y] z d).mp hz with rfl|h'
  ·exact⟨x,y,rfl⟩
  ·exact h.pr z h'
 ·unfold mz;split
  ·have e:(kvs.map fun p=>if p.1=[x,y] then (p.1,d) else p).map (·.1)=kvs.map (·.1):=by rw[d5];refine o4 fun p _=>?_;show(if p.1=[x,y] then (p.1,d) else p).1=p.1;split <;> rfl
   rw[e];exact h.nd
  ·rename_i c;rw[k7,List.nodup_append];refine⟨h.nd,by simp,fun a ha b hb=>?_⟩;simp only[ck,ki,g_]at hb;subst hb;rintro rfl;rw[wj]at c;exact c (decide_eq_true ha)
theorem GN.nil:GN []:=⟨fun _ h=>(by cases h),o5⟩
theorem adp(p:List Int)(i:Int)(j:Nat)(hi:i=j)(hj:j < p.length):fO (yT p) (.int i)=.ok (.int (p.getD j 0)):=by subst hi;show fO (.tup (p.map D.int)) (.int j)=_;rw[RG];unfold CV JK;rw[if_pos (by lia),if_pos (by rw[cb];lia)];simp only[mM,u6,cE,eI hj,oP,fE,oQ]
theorem Jm:∀a b:List Int,uV (a.map D.int) (b.map D.int)=decide (a=b)
 | [],[]=>rfl
 | [],_::_=>rfl
 |_::_,[]=>rfl
 |x::a,y::b=>by simp only[ck,uV,qC,Jm a b];by_cases h:x=y <;> by_cases h2:a=b <;> simp[h,h2]
theorem RL(a b:List Int):qC (yT a) (yT b)=decide (a=b):=by unfold Vl.yT;simp only[qC];exact Jm a b
theorem asy(x:List Int)(k:KL):gIn (yT x) (.tup (k.map yT))=.ok (.bl (decide (x∈k))):=by
 have e:inD (yT x) (k.map yT)=decide (x∈k):=by
  unfold inD
  induction k with
  |nil=>simp
  |cons y k ih =>
   rw[ck,x8,ih,RL];by_cases h:y=x
   ·subst h;simp
   ·by_cases h2:x∈k <;> simp[h,h2,de h]
 show Lg false _ _=_;simp only[Lg];rw[if_pos ⟨cz (El x) (by decide),cz (nC k) (by decide)⟩];simp only[aS,if_false,e]
theorem aql{f:aK->Rs D}{ρ:aK}{k:KL}(h:f ρ=.ok (.tup (k.map yT)))(hl:k.length < 1000):fK f ρ=.ok (Tb.bT k):=by unfold fK;rw[h];simp only[rN,Ec,uG];rw[if_pos (jn (Tb.jZ _) hl)];rfl
theorem afJ{f:aK->Rs KL}{ρ:aK}{k:KL}(h:f ρ=.ok k)(hp:∀x∈k,Pair x)(hl:k.length < 1000):pH f ρ=.ok (.lst ((So.cF k).map yT)):=by unfold pH;rw[h];simp only[rN,vR];rw[if_pos ⟨fun x hx=>(hp x hx).ne,hl⟩]
theorem aqm{C:KL->KL->Prop}[∀a b,Decidable (C a b)]{g:KL->KL->KL}{fa fb:aK->Rs KL}{ρ:aK}{a b:KL}(ha:fa ρ=.ok a)(hb:fb ρ=.ok b)(hc:C a b):fKK (gK C g) fa fb ρ=.ok (g a b):=by unfold fKK gK;rw[ha];simp only[rN];rw[hb];simp only[rN];rw[if_pos hc]
theorem iB{L:KL}{E:aK->Rs D}{F:List Int->D}{ρ:aK}{fi:aK->Rs (List D)}{caps:List Nat}{cs:List Sl}(hs:fY 1 caps ρ=.no::cs)(hi:fi ρ=.ok (L.map yT))(hp:∀ks∈L,E (.fz (yT ks)::cs)=.ok (F ks))(hl:L.length<=1000) :
  cM (aP 0) (fun _=>.ok true) E 1 caps fi ρ=.ok (.lst (L.map F)):=by
 refine aed hi ?_ (by rw[cb];lia);rw[hs];exact Jk (fun ρ=>∃a,ρ=a::cs) yT F ⟨_,rfl⟩ (by
  rintro ks hk ρ ⟨a,rfl⟩;exact⟨_,rfl,hp ks hk,_,rfl⟩)
theorem aaC{X:aK->Rs Bool}{E:aK->Rs D}{t:List Int->Bool}{F:List Int->List Int}{cs:List Sl}:∀{L:KL},(∀ks∈L,X (.fz (yT ks)::cs)=.ok (t ks))->(∀ks∈L,E (.fz (yT ks)::cs)=.ok (yT (F ks)))->∀a,jr (aP 0) X E (L.map yT) (a::cs)=.ok (((L.filter t).map F).map yT)
 | [],_,_,a=>rfl
 |k::L,hx,he,a=>by
  have ih:=aaC (L:=L) (fun ks h=>hx ks (.tail _ h)) (fun ks h=>he ks (.tail _ h)) (.fz (yT k));have h1:=hx k (.head _);have h2:=he k (.head _);cases c:t k with
  |true =>
   rw[c]at h1;simp only[ck,jr,aP,gz,h1,h2,ih,Rs.bind,if_true,n8,c]
  |false =>
   rw[c]at h1;simp only[ck,jr,aP,gz,h1,h2,ih,Rs.bind,aS,if_false,n8,c]
theorem XQ{L:KL}{X:aK->Rs Bool}{E:aK->Rs D}{t:List Int->Bool}{F:List Int->List Int}{ρ:aK}{fi:aK->Rs (List D)}{caps:List Nat}{cs:List Sl}(hs:fY 1 caps ρ=.no::cs)(hi:fi ρ=.ok (L.map yT))(hx:∀ks∈L,X (.fz (yT ks)::cs)=.ok (t ks))(he:∀ks∈L,E (.fz (yT ks)::cs)=.ok (yT (F ks)))(hl:L.length<=1000) :
  cM (aP 0) X E 1 caps fi ρ=.ok (.lst (((L.filter t).map F).map yT)):=by
 refine aed hi ?_ (by rw[cb,cb];have:=qf t L;lia);rw[hs];exact aaC hx he _
theorem zu{L:KL}{X:aK->Rs Bool}{E:aK->Rs D}{t:List Int->Bool}{ρ:aK}{fi:aK->Rs (List D)}{caps:List Nat}{cs:List Sl}(hs:fY 1 caps ρ=.no::cs)(hi:fi ρ=.ok (L.map yT))(hx:∀ks∈L,X (.fz (yT ks)::cs)=.ok (t ks))(he:∀ks∈L,E (.fz (yT ks)::cs)=.ok (yT ks))(hl:L.length<=1000) :
  cM (aP 0) X E 1 caps fi ρ=.ok (.lst ((L.filter t).map yT)):=by
 have:=XQ (F:=id) hs hi hx he hl;rwa [List.map_id]at this
def ad(p t:List Int):List Int:=[p.getD 0 0 + t.getD 0 0,p.getD 1 0 + t.getD 1 0]
def mi(s b:List Int):List Int:=[s.getD 0 0 - b.getD 0 0,s.getD 1 0 - b.getD 1 0]
theorem uK(p t:List Int):Pair (ad p t):=⟨_,_,rfl⟩
theorem uL(p t:List Int):Pair (mi p t):=⟨_,_,rfl⟩
theorem abO(L:KL):wY (sh L false) (.tup [.tup [],.bl false])=.ok (.bl (decide (L=[]))):=by
 have hd:cR (sh L false)<=8:=by have:=nC L;simp only[cR,gB];have e:(gB (List.map yT L) + 1).max (Nat.max 0 0)=gB (List.map yT L) + 1:=Nat.max_eq_left (eC _);lia
 rw[apH hd (by decide)];cases L <;> rfl
section
variable{X:Cx}{K:aw}{B:Bs}{W:Wi}{σ:St}{G H:Hp}{ρ:aK}
theorem RM:∀{cj:List (List Int×V)}{ds:List D},bN K G ds (cj.map (·.2))->fM K G ((cj.map (·.1)).zip ds) cj
 | [],ds,h=>by rw[ki,List.zip_nil_left];exact .nil
 | (k,v)::cj,[],h=>by have:=bx.mp h;cases this
 | (k,v)::cj,d::ds,h=>by obtain⟨u,us,e,r1,r2⟩:=aQ.mp h;cases e;exact .cons r1 (RM r2)
theorem XR{kvs:List (List Int×D)}{cj:List (List Int×V)}(h:fM K G kvs cj):cj.map (·.1)=kvs.map (·.1)/\bN K G (kvs.map (·.2)) (cj.map (·.2)):=by
 induction h with
 |nil=>exact⟨rfl,bx.mpr rfl⟩
 |cons r _ ih=>exact⟨by rw[ck,ck,ih.1],aQ.mpr ⟨_,_,rfl,r,ih.2⟩⟩
theorem Jo{α β:Type}:∀l:List (α×β),(l.map (·.1)).zip (l.map (·.2))=l
 | []=>rfl
 |_::l=>by simp only[ck,List.zip_cons_cons,Jo l]
abbrev lR(kvs:List (List Int×D)):D:=.lE (kvs.map (·.1)) (kvs.map (·.2))
def zx(ks:List (List Int))(ds:List D)(k:List Int):Option D:=cC (ks.zip ds) k
theorem En(kvs:List (List Int×D))(k:List Int):zx (kvs.map (·.1)) (kvs.map (·.2)) k=cC kvs k:=by unfold zx;rw[Jo]
theorem Lp{ks:List (List Int)}{ds:List D}{v:V}(r:Rep K G (.lE ks ds) v):∃a U cj,v=.ref a/\G a=some (.ext (nJ U a cj))/\(∀b js,U b js->UG K G b js)/\fM K G (ks.zip ds) cj:=by obtain⟨a,U,cj,e,h1,h2,h3,h4⟩:=uw.mp r;exact⟨a,U,cj,e,h1,h2,h3▸RM h4⟩
def XS(i:Nat)(ρ:aK):aK:=match ρ[i]? with|some (.od kvs)=>ρ.set i (.fz (lR kvs))|_=>ρ
theorem SR.XS(h:SR K B σ H ρ G)(i:Nat):∃G',Same G G'/\SR K B σ H (XS i ρ) G':=by
 unfold Vl.XS;split
 ·rename_i kvs q;obtain⟨a,U,cj,e1,h2,h3,h4,h5,h6⟩:=h.od q;have hl:i < ρ.length:=(eB.mp q).1;have gg:Same G (upd G a (.ext (nJ U a cj))):=fun b o z=>by rw[bC (bH z h3)];exact z
  obtain⟨u1,u2⟩:=XR h6;refine⟨upd G a (.ext (nJ U a cj)),gg,⟨h.en.gg.trans gg,h.en.hh,fun b o z=>?_,fun b xs z=>?_,fun b o z w=>?_⟩,by simp[h.len],fun j d z=>?_,fun j fs z wz=>?_,fun j k fs gs c z1 w1 z2 w2 z3 z4=>?_,fun j es c z1 z2=>?_,h.co⟩
  ·by_cases w:b=a
   ·subst w;rw[bF]at z;cases z;exact h2
   ·rw[bC w]at z;exact h.en.gh b o z
  ·by_cases w:b=a
   ·subst w;rw[h2]at z;cases z
   ·rw[bC w];exact h.en.tp b xs z
  ·rw[bC (bH z h4)];exact h.en.nw b o z w
  ·by_cases e:i=j
   ·subst e;rw[d_ hl]at z;cases z;exact⟨_,e1,uw.mpr ⟨a,U,cj,rfl,bF,fun b js w=>Same.fW gg (h5 b js w),u1,u2.mono gg⟩⟩
   ·rw[dE e]at z;obtain⟨v,w1,w2⟩:=h.fz j d z;exact⟨v,w1,w2.mono gg⟩
  ·by_cases e:i=j
   ·subst e;rw[d_ hl]at z;cases z;cases wz
   ·rw[dE e]at z;obtain⟨b,us,w1,w2,w3,w4,w5⟩:=h.own j fs z wz;have hne:b≠a:=fun w=>by subst w;exact e (h.ap i j _ fs b q rfl z wz e1 w1)
    exact⟨b,us,w1,w2,by rw[bC hne];exact w3,w4,w5.mono gg⟩
  ·have nj:i≠j:=fun e=>by subst e;rw[d_ hl]at z1;cases z1;cases w1
   have nk:i≠k:=fun e=>by subst e;rw[d_ hl]at z2;cases z2;cases w2
   rw[dE nj]at z1;rw[dE nk]at z2;exact h.ap j k fs gs c z1 w1 z2 w2 z3 z4
  ·have nj:i≠j:=fun e=>by subst e;rw[d_ hl]at z1;cases z1
   rw[dE nj]at z1;exact h.tie j es c z1 z2
 ·exact⟨G,.refl _,h⟩
def afK(i:Nat)(g:aK->Ou):aK->Ou:=fun ρ=>g (XS i ρ)
theorem aaD{st:List bj}{g:aK->Ou}(i:Nat)(h:yS X B W st g):yS X B W st (afK i g) :=
 Wn.imp h fun De σ H ⟨ρ,G,s,p⟩=>let ⟨G',gg,s'⟩:=s.XS i;⟨_,G',s',eN.same p gg⟩
def Gp:D->D->Rs D:=fun x y=>match x with
 | .lE ks ds=>(match qT y with
  |some k=>(match zx ks ds k with|some d=>.ok d|none=>.no)
  |none=>.no)
 |_=>.no
theorem ajA:Wy K (afd K) Gp:=by
 intro B W σ ρ G H x y v u Q s rx ry p;cases x with
 |lE ks ds =>
  unfold Gp at p;dsimp only at p;cases e1:qT y with
  |none=>rw[e1]at p;exact p.elim
  |some k =>
   rw[e1]at p;dsimp only at p;obtain⟨a,U,cj,rfl,h1,h2,h3⟩:=Lp rx;obtain⟨b,rfl,hb⟩:=Cp ry e1;unfold zx at p;rcases h3.get (ks:=k) with ⟨w1,w2⟩|⟨dd,vv,w1,w2,w3⟩
   ·rw[w1]at p;exact p.elim
   ·rw[w1]at p;exact⟨b,a,k,U,cj,vv,rfl,rfl,Same.fW s.en.gh hb,s.en.gh _ _ h1,fun c js z=>Same.fW s.en.gh (h2 c js z),w2,Post.ok s p w3⟩
 |_=>exact p.elim
theorem afL{a b:ai}{pos:Pos}{fa fb:aK->Rs D}(hu:X.A.units + 8 < be)(ha:SE X B W a fa)(hb:SE X B W b fb)(hs:JN b:=by intro _ _;rfl):SE X B W (.Subscript a b pos) (bJ Gp fa fb) :=
 PE.imp (alb (anr (Ja hu)) ha hb hs) fun _ _ _ h=>CW ajA h
def abP(neg:Bool):D->D->Rs D:=fun x y=>match y with
 | .lE ks ds=>(match qT x with
  |some k=>.ok (.bl (if neg then !(zx ks ds k).isSome else (zx ks ds k).isSome))
  |none=>.no)
 |_=>.no
theorem ajB{σ:St}{x y:D}{v u:V}{G H:Hp}{Q:V->Hp->Prop}(gh:Same G H)(rx:Rep K G x v)(ry:Rep K G y u){ks:List (List Int)}{ds:List D}{k:List Int}(ey:y=.lE ks ds)(e1:qT x=some k)(q:Q (.bl (zx ks ds k).isSome) H):afc K v u H Q:=by
 subst ey;obtain⟨a,U,cj,rfl,h1,h2,h3⟩:=Lp ry;obtain⟨b,rfl,hb⟩:=Cp rx e1;refine⟨b,a,k,U,cj,rfl,rfl,Same.fW gh hb,gh _ _ h1,fun c js z=>Same.fW gh (h2 c js z),?_⟩;have:(sU cj k).isSome=(zx ks ds k).isSome:=by unfold zx;rcases h3.get (ks:=k) with ⟨q1,q2⟩|⟨_,_,q1,q2,_⟩ <;> rw[q1,q2] <;> rfl
 rw[this];exact q
theorem afM:Wy K (afi K) (abP true):=by
 intro B W σ ρ G H x y v u Q s rx ry p;cases y with
 |lE ks ds =>
  unfold abP at p;dsimp only at p;cases e1:qT x with
  |none=>rw[e1]at p;exact p.elim
  |some k =>
   rw[e1]at p;simp only[if_true]at p;exact ajB (σ:=σ) s.en.gh rx ry rfl e1 ⟨_,rfl,Post.ok s p (bQ.mpr rfl)⟩
 |_=>exact p.elim
section
variable{a b:ai}{pos:Pos}{fa fb:aK->Rs D}
theorem ajC(hu:X.A.units + 8 < be)(ha:SE X B W a fa)(hb:SE X B W b fb)(hm:iA .NotIn b=false:=by rfl):ST X B W (.Compare a [.NotIn] [b] pos) (fT (bJ (abP true) fa fb)):=qD (afj (Ja hu)) afM ha hb hm
end
def RN(j:Nat)(fs:aK->Rs (List D)):aK->Rs D:=fun ρ=>match ρ[j]? with
 |some (.fz (.lE ks ds))=>(fs ρ).bind fun es=>match es with
  | [k,w]=>(match qT k with|some k=>.ok ((zx ks ds k).getD w)|none=>.no)
  |_=>.no
 |_=>.no
theorem ajD(j:Nat) {k d:ai}{x:Str}{p1 p2 cp:Pos}{fs:aK->Rs (List D)}(hu:X.A.units + 8 < be) (ha:SA X B W [k,d] fs) (hN:X.N[j]?=some x:=by rfl) (hv:Vis X.env.scope x:=by first|exact Or.inl rfl|exact Or.inr (Or.inl rfl)|exact Or.inr (Or.inr rfl)) (hd:(x == ("__debug__":Str))=false:=by decide)
  (hcd:(x == ("__classdict__":Str))=false:=by decide)
  (h1:k0 (.Name x p1) "get" X.env (ba (.Name x p1) X.env)=ba (.Name x p1) X.env:=by rfl) (h2:bo [k,d] X.env=[(false,ba k X.env),(false,ba d X.env)]:=by rfl)
  (h3:((d6 cp (bo [k,d] X.env)).all (fun q=>!q.1) && (ja cp (jb [] X.env)).all (fun q=>q.1.isSome) && decide (([k,d]:List ai).length + 0 + 0 < 30))=true:=by rfl)
  (h4:(p2.endLine == cp.line)=true:=by rfl) (h5:((d6 cp (bo [k,d] X.env)).any fun q=>q.1)=false:=by rfl) :
  SE X B W (.Call (.Attribute (.Name x p1) "get" p2) [k,d] [] cp) (RN j fs):=by
 intro pins s σ H Q I ⟨ρ,G,sr,p⟩;have hvv:PE X (.Name x p1) (JF j):=nH hN hv hd hcd;unfold RN at p;cases e2:ρ[j]? with
 |none=>rw[e2]at p;exact p.elim
 |some z =>
  rw[e2]at p
  match z,p,e2 with
  | .fz (.lE ks ds),p,e2 =>
   obtain⟨vj,g1,rj⟩:=sr.fz j _ e2;obtain⟨d0,U0,afg,rfl,g2,hU0,hk0⟩:=Lp rj;have g2H:=sr.en.gh _ _ g2;refine vz h1 h3 h4 rfl (je (hvv pins s σ H (fun y H1=>y=.ref d0/\H1=H) I ⟨_,g1,rfl,rfl⟩) fun v s1 fH=>?_);obtain⟨y,H1,I1,r1,hy,hH⟩:=fH;subst hy;subst hH;cases r1;obtain⟨⟨o',es',ep',xs',w1,w2,_⟩,_,_⟩:=(show dY X.prog X.w H1 s1.heap d0 (.ext (nJ U0 d0 afg)) from I1.hok d0 _ g2H)
   refine⟨"dict","dict.get",F.plainAttrs_dict,x9,F.type_dict_get,⟨o',w1,w2.1⟩,fun a ea=>?_,?_⟩
   ·cases ea;exact⟨o',w1,w2.2.1⟩
   have p':Post X.K W σ G H1 ((fs ρ).bind fun es=>match es with
     | [k,w]=>(match qT k with|some k=>.ok ((zx ks ds k).getD w)|none=>.no)
     |_=>.no) Q:=p
   have hA:=ha cp pins s1 σ H1 (fun vs H2=>afh X.K (.ref d0) vs H2 Q) I1 ⟨ρ,G,sr,?_⟩
   ·rw[h2]at hA h5 ⊢;refine vE h5 (vF ?_);exact je hA fun us s2 ⟨vs,H2,I2,r2,q2⟩=>aaq (Ja hu) pins s2 σ H2 (.ref d0) vs (.ref d0) us Q I2 rfl r2 q2
   ·cases e:fs ρ with
    |no=>rw[e]at p';exact p'.elim
    |ex c n=>rw[e]at p';exact p'
    |ok es =>
     rw[e]at p';intro vs H' G' y r
     match es,p',r with
     | [],p',r=>exact p'.elim
     | [_],p',r=>exact p'.elim
     |_::_::_::_,p',r=>exact p'.elim
     | [k,w],p',r =>
      obtain⟨v1,vs1,rfl,r1,r2⟩:=aQ.mp r;obtain⟨v2,vs2,rfl,r3,r4⟩:=aQ.mp r2;cases bx.mp r4;have p3:Post X.K W σ G H1 (match qT k with|some k=>.ok ((zx ks ds k).getD w)|none=>.no) Q:=p';cases e1:qT k with
      |none=>rw[e1]at p3;exact p3.elim
      |some kk =>
       rw[e1]at p3;dsimp only at p3;obtain⟨b',rfl,hb⟩:=Cp r1 e1;refine⟨b',d0,v2,kk,U0,afg,rfl,rfl,Same.fW y.gh hb,y.hh _ _ g2H,fun c js z=>Same.fW (y.gg.trans y.gh) (hU0 c js z),?_⟩;unfold zx at p3;rcases hk0.get (ks:=kk) with ⟨w1,w2⟩|⟨dd,vv,w1,w2,w3⟩
       ·rw[w2];rw[w1]at p3;exact p3 v2 H' G' y r3
       ·rw[w2];rw[w1]at p3;exact p3 vv H' G' y (w3.mono y.gg)
  | .no,p,e2=>exact p.elim
  | .ow _,p,e2=>exact p.elim
  | .od _,p,e2=>exact p.elim
  | .op _,p,e2=>exact p.elim
  | .fz .non,p,e2=>exact p.elim
  | .fz (.bl _),p,e2=>exact p.elim
  | .fz (.int _),p,e2=>exact p.elim
  | .fz (.str _),p,e2=>exact p.elim
  | .fz (.tup _),p,e2=>exact p.elim
  | .fz (.lst _),p,e2=>exact p.elim
  | .fz (.oG _ _),p,e2=>exact p.elim
end
end Vl
namespace L2
open PySem PySem.Spec PyProof.Rows
def Itv(K:aw)(a:ab)(n:Nat):It :=
 ⟨fun i H=>∃xs x,ni K H a xs/\xs.length=n/\xs.reverse[i]?=some x,fun i H x H'=>H'=H/\∀xs,ni K H a xs->xs.reverse[i]?=some x,fun i H=>n<=i⟩
theorem afN{P:aE}{w:az}{K:aw}{tg:ai}(a it:ab)(n:Nat)(hn:n<=1000):Turn P w K tg (Itv K a n) [it] it (fun i h=>i<=n/\h.vo it a ((n:Int) - 1 - (i:Int))) where
  mem:=by simp
  obj:=fun i h st b hb=>by
    have e:b=it:=by simpa using hb
    subst e;exact⟨_,st.2,fun v z=>by
      have z':Data.fields _=Data.cell v:=z;cases z'⟩
  keep:=fun i h h' st k=>⟨st.1,k it (by simp) _ st.2⟩
  item:=by
    intro X hP hw hK hc i pins s σ H E I hf st hg;subst hP hw hK;obtain⟨xs,x,hq,hl,hx⟩:=hg;obtain⟨its,rv,p,hz⟩:=I.tuple hq;have hi:i < n:=by have:=(eB.mp hx).1;rw[List.length_reverse,hl]at this;exact this
    have hlen:its.length=n:=by rw[<- rv.length];exact hl
    rw[List.getElem?_reverse (by lia)]at hx;obtain⟨u,hu,ru⟩:=rv.get hx;obtain⟨f0,f1,f2,f3,f4,f5⟩:=hf it (by simp);have e:(n:Int) - 1 - (i:Int)=((n - 1 - i:Nat):Int):=by lia
    have hit:s.heap.vo it a ((n - 1 - i:Nat):Int):=e▸st.2;refine rR hit p (by simp only[cK];lia) (x:=u) (by rw[hl]at hu;simpa using hu) fun h' tk st' sb=>?_;have I1:Inv X pins σ H { s with heap:=h',toks:=tk }:=I.turned (t':=tk) (fun b o hb e=>(sb.2 b hb).trans e) f0 f1 f3 f4 f5;have e2:((n - 1 - i:Nat):Int) - 1=(n:Int) - 1 - ((i + 1:Nat):Int):=by lia
    rw[e2]at st';refine⟨u,rfl,Zw (s:={ s with heap:=h',toks:=tk }) (n:="reversed") st' rfl rfl (by decide) ⟨x,H,I1,ru,⟨rfl,fun ys hy=>?_⟩,⟨hi,st'⟩,fun b hb=>(hf b hb).1⟩⟩;rw[I.yN hy hq,List.getElem?_reverse (by lia)];exact hx
  done := by
    intro X hP hw hK hc i pins s σ H E I hf st hg;subst hP hw hK;have hg':i=n:=Nat.le_antisymm st.1 hg;subst hg';obtain⟨f0,f1,f2,f3,f4,f5⟩:=hf it (by simp);have e:(i:Int) - 1 - (i:Int)=-1:=by lia
    have hit:s.heap.vo it a (-1):=e▸st.2;exact sW (I.ok.hd hc) hit fun h' eb=>⟨rfl,I.turned (t':=s.toks) (fun b o hb e=>eb b o hb e) f0 f1 f3 f4 f5⟩
  self:=fun _ _ _ _ _ st h=>pW st.2 h
section
variable{X:Cx}{tg:ai}
def asA(K:aw)(ta:TA):TI:=fun σ H R=>ta σ H fun vs H1=>∃a xs,vs=[.ref a]/\ni K H1 a xs/\xs.length<=1000/\R (Itv K a xs.length) H1
theorem anK{l:ai}{ta:TA}{p pos:Pos}(hg:Gl X "reversed") (hm:X.mg "reversed"=none) (ha:PA X [l] ta) (hs:bo [l] X.env=[(false,ba l X.env)]:=by rfl):PI X tg (.Call (.Name "reversed" p) [l] [] pos) (asA X.K ta):=by
 intro pins s σ H R I h;refine Call_ (yM I hg hm PyProof.Rows.Boot.«reversed» (qq (je (ha pos pins s σ H _ I h) fun us s1 ⟨vs,H1,I1,r1,q1⟩=>?_) hs rfl));obtain⟨a,xs,e,hq,hl,q⟩:=q1;subst e;obtain⟨u,rfl,rx⟩:=r1.one;cases rx;obtain⟨its,rv,pt,hz⟩:=I1.tuple hq;have hlen:its.length=xs.length:=rv.length.symm;refine uX pt (by simp only[cK];lia) fun tk=>?_;have st:(s1.heap.push (aau a ((its.toArray.size:Int) - 1))).vo s1.heap.objs.size a ((its.toArray.size:Int) - 1):=dc _ rfl;refine pW (s:={ s1 with heap:=s1.heap.push (aau a ((its.toArray.size:Int) - 1)),toks:=tk }) st ?_;refine⟨s1.heap.objs.size,[s1.heap.objs.size],_,Itv X.K a xs.length,H1,rfl,I1.kept (t':=tk) fun b o e=>bX _ e,afN a _ _ hl,?_,fun b hb=>?_,q⟩
 ·have e:((xs.length:Nat):Int) - 1 - ((0:Nat):Int)=(its.toArray.size:Int) - 1:=by simp only[cK];lia
  refine⟨eC _,?_⟩;show Heap.vo _ _ a (((xs.length:Nat):Int) - 1 - ((0:Nat):Int));rw[e];exact st
 ·have e:b=s1.heap.objs.size:=by simpa using hb
  subst e;exact I1.Wr (br _) (I1.hok.fresh (br _))
end
end L2
namespace Vl
open PySem PySem.Spec L2
def asV:D->Rs (List D)
 | .tup ds=>if ds.length<=1000 then .ok ds.reverse else .no
 |_=>.no
section
variable{X:Cx}{B:Bs}{W:Wi}{tg:ai}
theorem anL{e:ai}{p1 p2:Pos}{f:aK->Rs D}(hm:X.mg "reversed"=none) (hi:SE X B W e f) (hgl:Gl X "reversed":=by rfl) (hst:bo [e] X.env=[(false,ba e X.env)]:=by rfl):SI X B W tg (.Call (.Name "reversed" p1) [e] [] p2) (fL f asV):=by
 refine PI.imp (anK hgl hm (iC hi jX (by rw[hst];rfl)) hst) fun σ H R ⟨ρ,G,s,p⟩=>⟨ρ,G,s,Kl p (fun d v H' G' ds e1 e rv k=>?_) (fun d c n z=>by cases d <;> first|cases z|(simp only[asV]at z;split at z <;> cases z))⟩
 cases d with
 |tup es =>
  simp only[asV]at e1;by_cases c:es.length<=1000
  ·rw[if_pos c]at e1;cases e1;obtain⟨a,vs,rfl,q,rr⟩:=bD.mp rv;refine⟨a,vs,rfl,Same.fW e.gh q,by rw[<- rr.length];exact c,k _ H' G' (.refl e.gh e.tp) ?_⟩;have rr':=Ru rr;intro i G1 H1 gg e';have q1:=Same.fW e'.gh (Same.fW gg q);refine⟨fun d hd=>?_,fun hl=>?_⟩
   ·obtain⟨v,hv,rv⟩:=rr'.get hd;refine⟨⟨vs,v,q1,rfl,hv⟩,fun x H2 y=>?_⟩;obtain⟨e2,y⟩:=y;subst e2;have:=y vs q1;rw[hv]at this;cases this;exact⟨G1,e',rv.mono gg⟩
   ·show vs.length<=i;rw[<- rr.length];simpa using hl
  ·rw[if_neg c]at e1;cases e1
 |_=>cases e1
end
end Vl
namespace Vl
open PySem PySem.Spec PySem.Calls PySem.W L2
abbrev anM(X:Cx)(A:a_)(N:List Str)(s:af)(H:Hp)(qual:Str)(sc:Scope)(f:ab)(cd:aa):Cx where
 prog:=X.prog
 w:=X.w
 K:=X.K
 mg:=X.mg
 base:=X.base
 A:=A.deeper (envX qual sc s.heap.objs.size f cd (fX sc X.env))
 N:=N
 s₀:=s
 H₀:=H
 env:=envX qual sc s.heap.objs.size f cd (fX sc X.env)
 outer:=X.stack
 stack:=envX qual sc s.heap.objs.size f cd (fX sc X.env)::X.stack
 ex:=[]
 fn:=fun _=>false
 calm:=true
 pn:=[]
 xe:=fun _ _=>False
section
variable{X:Cx}{pins:List (ab×Obj)}{σ:St}{H:Hp}{s:af}
def zy(v:V)(caps:List Nat)(σ:St):St:=some v::caps.map fun i=>(σ[i]?).getD none
theorem abQ{A:a_}{qual:Str}{sc:Scope}{f:ab}{cd:aa}{p:Str}{Nc:List Str}{caps:List Nat}{v:V}{u:aa}{h':Heap}{tk:Nat}(c:vM X sc (p::Nc) 1 caps)(hp:sc.names.lookup p=some .local)(I:Inv X pins σ H s)(rv:RelV v u)(hA:A.handled=none)(hfr:A.frames=some X.stack)
  (hn:h'.Ns s.heap.objs.size fun x=>wb x [(p,u)]) (hk:∀b o,s.heap.get? b=some o->h'.get? b=some o) :
  Inv (anM X A (p::Nc) s H qual sc f cd) [] (zy v caps σ) H { s with heap:=h',toks:=tk }:=by
 have clX:∀{x:Str}{a:ab},(fX sc X.env).lookup x=some a->X.env.cells.lookup x=some a:=fun h=>c.cl I h;refine⟨⟨I.ok.mod,c.kind,rfl,rfl,br _,fun x y a h1 h2=>I.ok.inj x y a (clX h1) (clX h2),fun x hx=>?_,fun x a hf=>absurd (show false=true from hf) we,fun _=>hA,a_.frames_deeper hfr,.inr ⟨rfl,rfl⟩,fun b hb=>absurd (show b∈([]:List ab) from hb) (by simp),
  fun b o e=>I.bs b o e,cz I.ok.bsz I.sz,fun b o e hb=>absurd (show b∈([]:List ab) from hb) (by simp),fun b hb=>absurd (show b∈([]:List ab) from hb) (by simp),I.stack,I.Ca⟩,
  rfl,I.bare,Un.kept hk,⟨_,hn,fun i x v' h1 h2 h3=>?_⟩,fun x a ha=>?_,I.hok.fresh (br _),fun x a ha=>I.rH x a (clX ha),fun q hq=>absurd (show q∈([]:List (ab×Obj)) from hq) (by simp),I.hok.kept hk,?_⟩
 ·have hx':sc.names.lookup x=some .cell∨sc.names.lookup x=some .free:=hx;rcases hx' with hx'|hx'
  ·exact(c.Kh _ (hZ hx') rfl).elim
  ·exact wX (hZ hx')
 ·cases i with
  |zero =>
   have e1:p=x:=dq h1;subst e1;have e2:v=v':=dq (dq h2);subst e2;exact⟨u,rv,.inl ⟨hp,(show wb p [(p,u)]=some u from mE)⟩⟩
  |succ i =>
   have h2':(caps.map fun i=>(σ[i]?).getD none)[i]?=some (some v'):=h2;have h1':Nc[i]?=some x:=h1;rw[cE]at h2';cases e:caps[i]? with
   |none=>rw[e]at h2';cases h2'
   |some k =>
    rw[e]at h2';have ajE:(σ[k]?).getD none=some v':=dq h2';have hs:σ[k]?=some (some v'):=by
     cases e3:σ[k]? with
     |none=>rw[e3]at ajE;cases ajE
     |some z=>rw[e3]at ajE;exact congrArg some ajE
    obtain⟨hX,hl0⟩:=c.cap i k x e (by rw[w_];exact h1');have hf:(x,eK.free)∈sc.names:=hZ hl0;obtain⟨m,_,hl⟩:=I.loc;have hkind:=c.fr _ hf rfl;obtain⟨u',r,l⟩:=hl k x v' hX hs (by rcases hkind with q|q;exact .inr (.inl q);exact .inr (.inr q));refine⟨u',r,.inr ⟨.inr hl0,?_⟩⟩;obtain⟨cc,hcc⟩:=wX (env:=X.env) hf;refine⟨cc,hcc,?_⟩;rcases l with ⟨q,_⟩|⟨_,c2,hc2,z⟩
    ·rcases hkind with q'|q' <;> (rw[q]at q';cases q')
    ·rw[clX hcc]at hc2;cases hc2;obtain⟨o,ho,hd⟩:=z;exact⟨o,hk _ _ ho,hd⟩
 ·obtain⟨v',o,ho,hd⟩:=I.cell x a (clX ha);exact⟨v',o,hk _ _ ho,hd⟩
 ·show(some v::caps.map _).length=(p::Nc).length;have:=c.len;simp only[cx,cb]at this ⊢;lia
theorem afO{A:a_}{E:aa->af->Prop}{name qual:Str}{params:mn}{body:ai}{sc:Scope}{f c':ab}{pm ctv:aa}{p:Str}{Nc:List Str}{caps:List Nat}{v:V}{u:aa}{t:TE}{Q:VK}{R:aa->af->Prop}
  (c:vM X sc (p::Nc) 1 caps) (hp:sc.names.lookup p=some .local) (I:Inv X pins σ H s) (rv:RelV v u) (hA:A.handled=none) (hfr:A.frames=some X.stack) (hroom:A.depth < vw) (hco:sc.isCoroutine=false) (hgen:sc.isGenerator=false)
  (ho:s.heap.get? f=some (kla_obj name qual params body sc (fX sc X.env) pm c' ctv)) (hcd:s.heap.CodeRec (.ref c') qual) (hbind:bindArgs (kla_fn name qual params body sc (fX sc X.env) pm (.ref c') ctv) ⟨[u],[]⟩=pure [(p,u)])
  (hb:PE (anM X A (p::Nc) s H qual sc f (.ref c')) body t) (ht:t (zy v caps σ) H Q)
  (hQ:∀r s',(∃w H',s'.os=s.os/\q9 s'.gens/\Un (pP X.stack) [] H H' s.heap s'.heap/\yL X.prog X.w H' s'.heap/\RelV w r/\Q w H')->R r s') :
  ag (ah X.prog X.w) A (call (.ref f) [u]) R E s:=by
 refine wpAny_call (kla_callFunE hroom ho rfl hco hgen rfl hcd ?_);rw[hbind];refine ar (wpAny_newFunctionEnv (fun y hy=>c.Kh y hy) (fun y hy=>by rw[g_.mp hy];exact hp) (fun h₁ hns hsb=>?_) c.kind);have hk:∀b o,s.heap.get? b=some o->h₁.get? b=some o:=fun b o e=>hsb.extBut b o (bP (bu e)) (bX _ e);refine⟨(I.ok.mod.nolimit.keeps I.bk).keeps hk,?_⟩;show f7 _ _ (.expr body (envX qual sc s.heap.objs.size f (.ref c') (fX sc X.env))) _ _;refine kla_codeExpr ?_;have J:=abQ (tk:=s.toks + [(p,u)].length) (qual:=qual) (f:=f) (cd:=.ref c') c hp I rv hA hfr hns hk;refine eD (hb [] _ (zy v caps σ) H Q J ht) (fun r s' ⟨w,H',J',rw',q⟩=>?_) fun _ _ z=>z.elim;exact hQ r s' ⟨w,H',J'.os,J'.bare,J'.base,J'.hok,rw',q⟩
end
section
variable{X:Cx}{pins:List (ab×Obj)}{σ:St}
def aqn(vs:Array aa)(c:Nat):Obj:={ cls:=.type "list",dict:=none,data:=.seq vs c,slots:=#[] }
def afP(X:Cx)(Pv:Hp->Prop)(k:Int)(H:Hp)(s:af)(r:aa)(s':af):Prop :=
 ∃t H',r=.int k t/\s'.os=s.os/\q9 s'.gens/\Un (pP X.stack) [] H H' s.heap s'.heap/\yL X.prog X.w H' s'.heap/\Pv H'
abbrev btG(kf:Nat->Int):Nat->Nat->Bool:=fun i j=>decide (kf i > kf j)
theorem Cq{H H':Hp}{s s':af}{b:ab}{o:Obj}(I:Inv X pins σ H s)(f:qx X pins H b)(e:s.heap.get? b=some o)(u:Un (pP X.stack) [] H H' s.heap s'.heap):s'.heap.get? b=some o/\qx X pins H' b:=by have nf:b∉pP X.stack:=fun z=>(bz.mp (I.vB b z)).elim f.2.1 f.2.2.1;exact⟨u.keep b o e f.1 nf (by simp),u.free b o e f.1 (by simp),f.2⟩
theorem ajF{l f it S:ab}{fo:Obj}{xs:List V}{kf:Nat->Int}{Pv:Hp->Prop}{dv:aa}{R:Result->af->Prop}(hc:X.calm=true)(hSI:S≠it)(hl:∀H,Pv H->pO X.K H l xs)
  (turn:∀(j:Nat) (v:V) (u:aa) (s:af) (H:Hp),xs[j]?=some v->RelV v u->Inv X pins σ H s->Pv H->s.heap.get? f=some fo->ag (ah X.prog X.w) X.A.in1 (call (.ref f) [u]) (afP X Pv (kf j) H s) (fun _ _=>False) s)
  (hf:∀(H H':Hp) (s s':af),Inv X pins σ H s->s.heap.get? f=some fo->Un (pP X.stack) [] H H' s.heap s'.heap->H f=none->s'.heap.get? f=some fo/\H' f=none) (hfi:f≠it) (hfS:f≠S)
  (hR:∀(H:Hp) (s:af) (v:V) (u:aa),Inv X pins σ H s->Pv H->xs[dk (btG kf) (xs.length - 1)]?=some v->RelV v u->R (.ok (.ret u)) s) :
  ∀(r j:Nat) (H:Hp) (s:af) (vb:V) (ub:aa) (tb:Tok) (c:Nat),xs.length - (j + 1)=r->j + 1<=xs.length->Inv X pins σ H s->Pv H->H f=none->qx X pins H it->qx X pins H S->s.heap.get? f=some fo->s.heap.IsListIter it l (j + 1) ->
   xs[dk (btG kf) j]?=some vb->RelV vb ub->s.heap.get? S=some (aqn #[ub,.int (kf (dk (btG kf) j)) tb] c) ->
   f7 (ah X.prog X.w) X.A (.builtin "max.loop" ⟨[.ref it,.ref f,.ref S],[("default",dv)]⟩) R s:=by
 have hname:(toString "max"++toString ".loop":String)="max.loop":=by decide
 intro r
 induction r with
 |zero =>
  intro j H s vb ub tb c hr hj I pv hfn fi fS hfo hit hvb rb hS;have hin:j + 1=xs.length:=by lia
  obtain⟨its,rv,p,hz⟩:=I.list (hl H pv);have hlen:its.length=xs.length:=rv.length.symm;have hli:l≠it:=fun z=>by subst z;obtain⟨o,ho,hc',_⟩:=p.isList;obtain⟨o',ho',hc'',_⟩:=hit;rw[ho]at ho';cases ho';rw[hc']at hc'';injection hc'' with z;exact absurd z (by decide)
  have W:=o7 (prog:=X.prog) (w:=X.w) (A:=X.A.in1) (I.ok.hd hc) it l hli its.toArray;have hsz:its.toArray.size=xs.length:=by simp[hlen]
  refine gr yk ?_;rw[gS ly _];show ag _ X.A.in1 (n9 (.ref S) >>= _) _ _ _;refine ae (ku hS rfl ?_);show ag _ X.A.in1 (tryCatch (eA (.ref it)) _ >>= _) _ _ _;refine ae (i3 (W.done _ _ _ ⟨by rw[hsz,<- hin];exact hit,p.isList⟩ fun h' tk' hk'=>?_));have hS':=hk' S _ (by simpa using hSI) hS;show ag _ X.A.in1 (j9 S (fun _=>#[]) >>= _) _ _ _;refine ae ?_;refine gx hS' rfl (ae (kz (ar ?_)));have I2:Inv X pins σ H { s with heap:=h'.update S (di fun _=>#[]),toks:=tk' }:=I.uH (ch:=[it,S]) (fun b o hb e=>by
   have h1:b≠it:=fun z=>hb (by simp[z]);have h2:S≠b:=fun z=>hb (by simp[z]);exact(eS _ _ h2).trans (hk' b o (by simpa using h1) e)) (fun b hb=>by
   rcases bz.mp hb with z|hb
   ·rw[z];exact fi
   ·rw[g_.mp hb];exact fS)
  exact hR H _ vb ub I2 pv (by rw[<- hin];exact hvb) rb
 |succ r ih =>
  intro j H s vb ub tb c hr hj I pv hfn fi fS hfo hit hvb rb hS;have hlt:j + 1 < xs.length:=by lia
  obtain⟨its,rv,p,hz⟩:=I.list (hl H pv);have hlen:its.length=xs.length:=rv.length.symm;have hli:l≠it:=fun z=>by subst z;obtain⟨o,ho,hc',_⟩:=p.isList;obtain⟨o',ho',hc'',_⟩:=hit;rw[ho]at ho';cases ho';rw[hc']at hc'';injection hc'' with z;exact absurd z (by decide)
  have W:=o7 (prog:=X.prog) (w:=X.w) (A:=X.A.in1) (I.ok.hd hc) it l hli its.toArray;have hsz:its.toArray.size=xs.length:=by simp[hlen]
  refine gr yk ?_;rw[gS ly _];show ag _ X.A.in1 (n9 (.ref S) >>= _) _ _ _;refine ae (ku hS rfl ?_);show ag _ X.A.in1 (tryCatch (eA (.ref it)) _ >>= _) _ _ _;refine ae (i3 (W.item (j + 1) _ _ _ (by rw[hsz];exact hlt) ⟨hit,p.isList⟩ fun u h' tk' hP hst' hk'=>?_));have hu:its[j + 1]?=some u:=by simpa using hP
  obtain⟨v,hv,ru⟩:=Vals.get' rv hu;have I1:Inv X pins σ H { s with heap:=h',toks:=tk' }:=I.uH (ch:=[it]) (fun b o hb e=>hk' b o hb e) (fun b hb=>by rw[g_.mp hb];exact fi);have hS1:=hk' S _ (by simpa using hSI) hS;have hf1:=hk' f _ (by simpa using hfi) hfo;obtain⟨oI',hoI',hoc,hod⟩:=id hst'.1;show ag _ X.A.in1 (tryCatch (ef [u] (call (.ref f) [u])) _ >>= _) _ _ _;refine ae (i3 (dP (eD (turn (j + 1) v u _ H hv ru I1 pv hf1) (fun x s'' he=>?_) fun _ _ hF=>hF.elim)));obtain⟨t2,H2,rfl,os2,ba2,un2,ok2,pv2⟩:=he;have I2:Inv X pins σ H2 s'':=I1.call' (ch:=[]) os2 un2 ok2 ba2 (fun b z=>absurd z (by simp));obtain⟨hS2,fS2⟩:=Cq I1 fS hS1 un2;obtain⟨hI2,fi2⟩:=Cq I1 fi hoI' un2;obtain⟨hf2,ajH⟩:=hf H H2 _ s'' I1 hf1 un2 hfn;have hit2:s''.heap.IsListIter it l (j + 1 + 1):=⟨oI',hI2,hoc,hod⟩
  show ag _ X.A.in1 (tryCatch (ef [u,.int (kf (j + 1)) t2] (qc .Gt (.int (kf (j + 1)) t2) (.int (kf (dk (btG kf) j)) tb) >>= _)) _ >>= _) _ _ _;refine ae (i3 (dP (ae (CmpOf.ints_gt (prog:=X.prog) (w:=X.w) (A:=X.A.in1) (P:=fun i v=>∃t,v=.int (kf i) t) kf (fun i v h=>h) (j + 1) (dk (btG kf) j) _ _ _ _ _ ⟨t2,rfl⟩ ⟨tb,rfl⟩ ?_))));refine ae (dP (l8 ?_));refine ae (kz (ar ?_));cases hb:btG kf (j + 1) (dk (btG kf) j) with
  |true =>
   have hb':decide (kf (j + 1) > kf (dk (btG kf) j))=true:=hb;simp only[hb',if_true];refine ae ?_;refine gx hS2 rfl (ae (kz ?_));rw[hname];have kp:∀b o,b∉[S]->s''.heap.get? b=some o->(s''.heap.update S (di fun _=>#[u,.int (kf (j + 1)) t2])).get? b=some o:=fun b o hb e=>(eS _ _ (fun z:S=b=>hb (by simp[z]))).trans e;have I3:Inv X pins σ H2 { s'' with heap:=s''.heap.update S (di fun _=>#[u,.int (kf (j + 1)) t2]),toks:=s''.toks }:=I2.uH (ch:=[S]) kp (fun b hb=>by rw[g_.mp hb];exact fS2);have e1:dk (btG kf) (j + 1)=j + 1:=by simp only[dk,hb,if_true]
   refine ar ⟨fF ly _,ih (j + 1) H2 _ v u t2 _ (by lia) hlt I3 pv2 ajH fi2 fS2 (kp f _ (by simpa using hfS) hf2) ⟨oI',kp it _ (by simpa using hSI.symm) hI2,hoc,hod⟩ (by rw[e1];exact hv) ru (by rw[e1];exact fy _ hS2 rfl)⟩
  |false =>
   have hb':decide (kf (j + 1) > kf (dk (btG kf) j))=false:=hb;simp only[hb',aS,if_false];refine ae (kz ?_);rw[hname];have e1:dk (btG kf) (j + 1)=dk (btG kf) j:=by simp only[dk,hb,aS,if_false]
   refine ar ⟨fF ly _,ih (j + 1) H2 _ vb ub tb c (by lia) hlt I2 pv2 ajH fi2 fS2 hf2 hit2 (by rw[e1];exact hvb) rb (by rw[e1];exact hS2)⟩
end
section
variable{X:Cx}{pins:List (ab×Obj)}{σ:St}
theorem Yb(a v d:aa):j8 "max" ⟨[a],[("key",v),("default",d)]⟩:=by unfold j8;kernel_rfl
theorem abR{l f:ab}{fo:Obj}{xs:List V}{kf:Nat->Int}{Pv:Hp->Prop}{dv:aa}{Q:aa->af->Prop}{H:Hp}{s:af}(hc:X.calm=true)(I:Inv X pins σ H s)(pv:Pv H)(hl:∀H,Pv H->pO X.K H l xs)
  (turn:∀(j:Nat) (v:V) (u:aa) (s:af) (H:Hp),xs[j]?=some v->RelV v u->Inv X pins σ H s->Pv H->s.heap.get? f=some fo->ag (ah X.prog X.w) X.A.in1 (call (.ref f) [u]) (afP X Pv (kf j) H s) (fun _ _=>False) s)
  (hfo:s.heap.get? f=some fo) (hfn:H f=none) (hff:f∉pP X.stack)
  (hQ0:xs=[]->∀(H:Hp) (s:af),Inv X pins σ H s->Pv H->Q dv s)
  (hQ:∀(H:Hp) (s:af) (v:V) (u:aa),Inv X pins σ H s->Pv H->xs[dk (btG kf) (xs.length - 1)]?=some v->RelV v u->Q u s) :
  ag (ah X.prog X.w) X.A (call (.builtin "max") [.ref l] [("key",.ref f),("default",dv)]) Q X.xe s:=by
 have hname:(toString "max"++toString ".loop":String)="max.loop":=by decide
 have hf:∀(H H':Hp) (s s':af),Inv X pins σ H s->s.heap.get? f=some fo->Un (pP X.stack) [] H H' s.heap s'.heap->H f=none->s'.heap.get? f=some fo/\H' f=none:=fun H H' s s' _ e u n=>⟨u.keep f fo e n hff (by simp),u.free f fo e n (by simp)⟩
 refine PyProof.Rows.kmk_tree PySem.F.kind_max PySem.F.plain_max PySem.F.entry_max (Yb _ _ _) ?_;show ag _ X.A.in1 (u4 "max" ["key","default"] 0 ⟨[],[("key",.ref f),("default",dv)]⟩ >>= _) _ _ s;refine ae (iO (show u4 "max" ["key","default"] 0 ⟨[],[("key",.ref f),("default",dv)]⟩=pure [some (.ref f),some dv] from by first|rfl|kernel_rfl) ?_);refine ae (ar ?_);obtain⟨its,rv,p,hz⟩:=I.list (hl H pv);have hlen:its.length=xs.length:=rv.length.symm;refine ae (qo p.isList ?_);refine ae (gp ?_);rw[hname];have sz:∀(h:Heap) (o:Obj),(h.push o).objs.size=h.objs.size + 1:=fun h o=>mI ..;generalize hO:({ cls:=.type "list_iterator",data:=.fields #[.ref l,.int 0 0] }:Obj)=O at *;have anN:f < s.heap.objs.size:=bu hfo;have asC:l < s.heap.objs.size:=by obtain⟨_,e,_⟩:=p.isList;exact bu e
 have kp:∀b o,s.heap.get? b=some o->((s.heap.push O).push { cls:=.type "list",data:=.seq ([]:List aa).toArray }).get? b=some o:=fun b o e=>bX _ (bX _ e);have I1:Inv X pins σ H { s with heap:=(s.heap.push O).push { cls:=.type "list",data:=.seq ([]:List aa).toArray } }:=I.kept (t':=s.toks) kp;have fi:qx X pins H s.heap.objs.size:=I.Wr (br _) (I.hok.fresh (br _));have fS:qx X pins H (s.heap.push O).objs.size:=I.Wr (by rw[sz];lia) (I.hok.fresh (by rw[sz];lia));have hSI:(s.heap.push O).objs.size≠s.heap.objs.size:=by rw[sz];lia
 have hit:((s.heap.push O).push { cls:=.type "list",data:=.seq ([]:List aa).toArray }).IsListIter s.heap.objs.size l 0:=by subst hO;exact⟨_,bX _ (dc _ rfl),rfl,rfl⟩
 have hS:((s.heap.push O).push { cls:=.type "list",data:=.seq ([]:List aa).toArray }).get? (s.heap.push O).objs.size=some (aqn #[] 0):=dc _ rfl;refine ar ⟨fF ly _,?_⟩;show f7 (ah X.prog X.w) X.A (.builtin "max.loop" ⟨[.ref s.heap.objs.size,.ref f,.ref (s.heap.push O).objs.size],[("default",dv)]⟩) _ _;have W:=o7 (prog:=X.prog) (w:=X.w) (A:=X.A.in1) (I.ok.hd hc) s.heap.objs.size l (bP asC) its.toArray;have hsz:its.toArray.size=xs.length:=by simp[hlen]
 refine gr yk ?_;rw[gS ly _];show ag _ X.A.in1 (n9 (.ref (s.heap.push O).objs.size) >>= _) _ _ _;refine ae (ku hS rfl ?_);show ag _ X.A.in1 (tryCatch (eA (.ref s.heap.objs.size)) _ >>= _) _ _ _;have hpl:(((s.heap.push O).push { cls:=.type "list",data:=.seq ([]:List aa).toArray })).IsList l its.toArray:=(p.isList.push _).push _;by_cases hn:xs=[]
 ·have h0:its.toArray.size=0:=by rw[hsz,hn];rfl
  refine ae (i3 (W.done _ _ _ ⟨by rw[h0];exact hit,hpl⟩ fun h' tk' hk'=>?_));have I2:Inv X pins σ H { s with heap:=h',toks:=tk' }:=Inv.uH (s:={ s with heap:=(s.heap.push O).push { cls:=.type "list",data:=.seq ([]:List aa).toArray } }) (t':=tk') I1 (ch:=[s.heap.objs.size]) (fun b o hb e=>hk' b o hb e) (fun b hb=>by rw[g_.mp hb];exact fi);refine ae (gu (ar ?_));exact hQ0 hn H _ I2 pv
 ·have h0:0 < xs.length:=n_.mpr hn;refine ae (i3 (W.item 0 _ _ _ (by rw[hsz];exact h0) ⟨hit,hpl⟩ fun u h' tk' hP hst' hk'=>?_));have hu:its[0]?=some u:=by simpa using hP
  obtain⟨v,hv,ru⟩:=Vals.get' rv hu;have I2:Inv X pins σ H { s with heap:=h',toks:=tk' }:=Inv.uH (s:={ s with heap:=(s.heap.push O).push { cls:=.type "list",data:=.seq ([]:List aa).toArray } }) (t':=tk') I1 (ch:=[s.heap.objs.size]) (fun b o hb e=>hk' b o hb e) (fun b hb=>by rw[g_.mp hb];exact fi);have hS1:=hk' _ _ (by simpa using hSI) hS;have hf1:=hk' f _ (by simpa using bP anN) (kp f _ hfo);obtain⟨oI',hoI',hoc,hod⟩:=id hst'.1;show ag _ X.A.in1 (tryCatch (ef [u] (call (.ref f) [u])) _ >>= _) _ _ _;refine ae (i3 (dP (eD (turn 0 v u _ H hv ru I2 pv hf1) (fun x s'' he=>?_) fun _ _ hF=>hF.elim)));obtain⟨t2,H2,rfl,os2,ba2,un2,ok2,pv2⟩:=he;have I3:Inv X pins σ H2 s'':=I2.call' (ch:=[]) os2 un2 ok2 ba2 (fun b z=>absurd z (by simp));obtain⟨hS2,fS2⟩:=Cq I2 fS hS1 un2;obtain⟨hI2,fi2⟩:=Cq I2 fi hoI' un2;obtain⟨hf2,ajH⟩:=hf H H2 _ s'' I2 hf1 un2 hfn;refine ae ?_;refine gx hS2 rfl ?_;rw[hname];have kp3:∀b o,b∉[(s.heap.push O).objs.size]->s''.heap.get? b=some o->(s''.heap.update (s.heap.push O).objs.size (di fun _=>#[u,.int (kf 0) t2])).get? b=some o:=fun b o hb e=>(eS _ _ (fun z:(s.heap.push O).objs.size=b=>hb (by simp[z]))).trans e;have I4:Inv X pins σ H2 { s'' with heap:=s''.heap.update (s.heap.push O).objs.size (di fun _=>#[u,.int (kf 0) t2]),toks:=s''.toks }:=I3.uH (ch:=[(s.heap.push O).objs.size]) kp3 (fun b hb=>by rw[g_.mp hb];exact fS2);have hfS:f≠(s.heap.push O).objs.size:=fun z=>absurd anN (by rw[z,sz];exact Nat.not_lt.mpr (ox _));refine ar ⟨fF ly _,ajF (kf:=kf) (Pv:=Pv) (fo:=fo) hc hSI hl turn hf (bP anN) hfS (fun H s v u I pv e r=>hQ H s v u I pv e r) (xs.length - (0 + 1)) 0 H2 _ v u t2 _ rfl h0 I4 pv2 ajH fi2 fS2 (kp3 f _ (by simpa using hfS) hf2) ⟨oI',kp3 _ _ (by simpa using hSI.symm) hI2,hoc,hod⟩ hv ru (fy _ hS2 rfl)⟩
end
section
variable{X:Cx}{pins:List (ab×Obj)}{σ:St}{H:Hp}{s:af}
theorem Bo{pos:Pos}{l:List aa}{a b:Int}{ta tb:Tok}{c:aa}(h:TriplesOk l){v:aa}(e:lS pos (l++[.int a ta,.int b tb,c])=some v):lS pos l=some v∨v=c:=by
 fun_induction TriplesOk l with
 |case1 =>
  simp only[qh,lS]at e;split at e
  ·exact .inr (dq e).symm
  ·cases e
 |case2 i t j u d rest ih =>
  simp only[p8,lS]at e ⊢;split at e
  ·rename_i hc;rw[if_pos hc];exact .inl e
  ·rename_i hc;rw[if_neg hc];exact ih h e
 |case3=>exact h.elim
theorem Lq{l:List aa}{a b:Int}{ta tb:Tok}{c:aa}(h:TriplesOk l):TriplesOk (l++[.int a ta,.int b tb,c]):=by
 fun_induction TriplesOk l with
 |case1=>trivial
 |case2 i t j u d rest ih=>exact ih h
 |case3=>exact h.elim
structure Made (X:Cx)(pins:List (ab×Obj))(σ:St)(H:Hp)(P:ab)(q:Str)(params:mn)(body:ai)(sc:Scope)(f c':ab)(pm ctv:aa)(H':Hp)(s':af):Prop where
 inv:Inv X pins σ H' s'
 hs:H'=H∨∃a,H a=none/\H'=upd H a (.Qd q)
 Qd:H' c'=some (.Qd q)
 obj:s'.heap.get? f=some (kla_obj "<lambda>" q params body sc (fX sc X.env) pm c' ctv)
 fn:H' f=none
 ff:f∉pP X.stack
theorem afQ{P c:ab}{q:Str}{params:mn}{body:ai}{sc:Scope}{pos:Pos}(I:Inv X pins σ H s) (hP:H P=some (.tab q)) (hcode:X.env.code=.ref c) (hhd:i4 X.K c P=true) (hq:X.env.qual++("<lambda>":Str)=q) (hex:X.ex=[])
  (hcl:closureFor sc X.env=pure (fX sc X.env)) (hdef:defaultsOf params X.env=([],[]))
  {R:aa->af->Prop}(hR:∀f c' pm ctv H' s',Made X pins σ H P q params body sc f c' pm ctv H' s'->R (.ref f) s') :
  ag (ah X.prog X.w) X.A (ba (.Lambda params body sc pos) X.env) R X.xe s:=by
 refine kla_eval hdef ?_;rw[hq];have hgs:s.heap.Ns bS X.mg:=I.ok.mod.glob.keeps I.bk;have C:CodeHd s.heap c P:=codeHd_of_K I.kIn hhd;obtain⟨ps,e1,e2,e3⟩:=(show dY X.prog X.w H s.heap P (.tab q) from I.hok P _ hP)
 obtain⟨bm,ob,b1,b2,b3,b4,b5,b6⟩:=I.ok.mod.bm;have b3s:=I.bk _ _ b3;have hgP:bS≠P:=fun z=>by obtain⟨o,es,ep,e,hd,_⟩:=hgs;rw[z,e1]at e;cases e;cases hd
 have hbP:bm≠P:=fun z=>by rw[z,e1]at b3s;cases b3s;cases b4
 have hbG:bm≠bS:=fun z=>by obtain⟨o,es,ep,e,hd,_⟩:=hgs;rw[z,e]at b3s;cases b3s;rw[hd]at b6;cases b6
 have hB:s.heap.BuiltinsAt X.mg P:=⟨bm,ob,b1,b2,hbG,hbP,b3s,b4,b5,b6⟩
 have acV:∀{b:ab},s.heap.objs.size<=b->b∉pP X.stack:=fun {b} hb z=>by
  rcases bz.mp (I.vB b z) with z|z
  ·exact absurd I.lt (by rw[<- z];exact Nat.not_lt.mpr hb)
  ·exact I.acV hb z
 cases ca:lS pos ps.toList with
 |some v =>
  obtain⟨c',rfl,hc'⟩:=e3 pos v ca;refine kla_makeFunctionHit (mg:=X.mg) hcl I.ok.glob hgs hcode C e1 e2 ca hB fun ctv h' tk hk hsz=>?_;have hk2:∀b o,s.heap.get? b=some o->(h'.push { cls:=.type "function",data:=.func (kla_fn "<lambda>" q params body sc (fX sc X.env) ((X.mg "__name__").getD .none) (.ref c') ctv) }).get? b=some o:=fun b o e=>bX _ (hk b o e);exact hR _ c' _ ctv H _ ⟨I.kept (t':=tk) hk2,.inl rfl,hc',dc _ rfl,I.hok.fresh hsz,acV hsz⟩
 |none =>
  refine kla_makeFunction (mg:=X.mg) hcl I.ok.glob hgs hcode C e1 e2 ca hgP hB fun c' ctv h' tk hx hge hlt hrec htb=>?_;have hsz:s.heap.objs.size<=h'.objs.size:=cz hge (gL hlt);have hcn:H c'=none:=I.hok.fresh hge;have hcP:c'≠P:=fun z=>by rw[z,hP]at hcn;cases hcn
  obtain⟨c2,oc,vs,t,ec,hoc,hod,hv⟩:=hrec;cases ec
  let O:Obj:=kla_obj "<lambda>" q params body sc (fX sc X.env) ((X.mg "__name__").getD .none) c' ctv
  have up:∀b u,H b=some u->upd H c' (.Qd q) b=some u:=fun b u e=>by rw[bC (bH e hcn)];exact e
  have hk2:∀b o,b≠P->s.heap.get? b=some o->(h'.push O).get? b=some o:=fun b o hb e=>bX _ (hx b o hb e);have aqp:(h'.push O).get? P=some (tabObj (ps++#[c_ pos.line,c_ pos.col,.ref c'])):=bX _ htb;have un:Un (pP X.stack) [] H (upd H c' (.Qd q)) s.heap (h'.push O):=by
   have old:∀b o,s.heap.get? b=some o->b≠c':=fun b o e=>bP (eJ (bu e) hge);refine⟨fun b o e n _ _=>hk2 b o (fun z=>by rw[z,hP]at n;cases n) e,fun b o e n _ _=>⟨o.slots,hk2 b o (fun z=>by rw[z,hP]at n;cases n) e⟩,fun b o e n _=>by rw[bC (old b o e)];exact n,fun b o e _=>?_,fun b xs e=>up b _ e,fun b o u e=>up b _ e,fun b ps' e=>⟨#[],by rw[up b _ e];simp⟩⟩;by_cases hb:b=P
   ·subst hb;exact⟨_,aqp⟩
   ·exact⟨o,hk2 b o hb e⟩
  have ok:yL X.prog X.w (upd H c' (.Qd q)) (h'.push O):=fun b u e=>by
   by_cases hbc:b=c'
   ·subst hbc;rw[bF]at e;cases e;exact⟨oc,vs,t,bX _ hoc,hod,hv⟩
   ·rw[bC hbc]at e;by_cases aqq:b=P
    ·subst aqq;rw[hP]at e;cases e;refine⟨_,aqp,?_,fun pos' v' e'=>?_⟩
     ·rw[iN];exact Lq e2
     ·rw[iN]at e';rcases Bo e2 e' with e'|e'
      ·obtain⟨c3,h1,h2⟩:=e3 pos' v' e';exact⟨c3,h1,up _ _ h2⟩
      ·exact⟨c',e',bF⟩
    ·refine(I.hok b u e).stay (fun c3 v3 h3 e3'=>hk2 c3 v3 (fun z=>?_) e3') (fun c3 e3'=>up _ _ e3') (fun c3 xs e3'=>up _ _ e3') fun c3 q3 e3'=>up _ _ e3';subst z;rcases h3 with h3|h3
     ·exact aqq h3.symm
     ·rw[hP]at h3;cases h3
  have I2:Inv X pins σ (upd H c' (.Qd q)) { s with heap:=h'.push O,toks:=tk }:=I.call' (ch:=[]) rfl un ok I.bare (fun b z=>absurd z (by simp));refine hR _ c' _ ctv _ _ ⟨I2,.inr ⟨c',hcn,rfl⟩,bF,dc _ rfl,?_,acV hsz⟩;rw[bC (hG hlt)];exact I.hok.fresh hsz
end
def H0(ts:List (ab×Str))(K:aw)(a:ab)(o:HO):Hp:=fun b=>match ts.lookup b with
 |some q=>some (.tab q)
 |none=>if b=a/\K.lookup a=none then some o else none
theorem afR:∀{l:List (ab×Str)}{b:ab}{q:Str},l.lookup b=some q->(b,q)∈l
 | [],_,_,h=>by cases h
 | (c,r)::l,b,q,h=>by
  by_cases e:b=c
  ·subst e;rw[mE]at h;cases h;exact dA
  ·rw[km,show(b == c)=false by simpa using e]at h;exact dQ _ (afR h)
theorem abS{P:aE}{w:az}{K:aw}{mg mb:Str->Option aa}{k:Nat}{fa a:ab}{fd:cq}{x:Str}{v:List D->Rs D}{s₁:af}{vs:List aa}{ns:List Int}{ts:List (ab×Str)}
  (KX:K.In s₁.heap) (hns:s₁.heap.Ns bS mg) (hb:s₁.heap.Ns builtinsNs mb) (hbb:∀x:Str,x≠"__name__"->mb x=kR x) (hlim:s₁.heap.NoLimit) (hbm:∃bm ob,mg "__builtins__"=some (.ref bm)/\bm≠builtinsNs/\s₁.heap.get? bm=some ob/\ob.cls=.type "module"/\ob.dict=some builtinsNs/\ob.data=.plain) (hg:s₁.gens=#[])
  (ha:s₁.heap.get? a=some { cls:=.type "list",data:=.seq vs.toArray }) (hi:PyProof.Rows.IntsAre vs ns) (hl:ns.length<=sizeLine) (hr:pB k my)
  (F:∀base:Heap,K.In base->base.Ns bS mg->Wv P w K mg base (WM P w K) k fa fd [x] (spV K 1 v)) (hbind:∀(s:af) (u:aa),me s fd ⟨[u],[]⟩ [(x,u)])
  (hts:adx K=ts) (nd:(ts.map (·.1)).Nodup) (hK0:∀y∈ts,K.lookup y.1=none) (htab:∀y∈ts,s₁.heap.get? y.1=some (tabObj #[])) (hct:∀y∈ts,isCodeTable s₁.heap y.1) (hv:v [.lst (ns.map D.int)]=.ok (.bl true)) :
  f7 (ah P w) my (.call (.ref fa) ⟨[.ref a],[]⟩) (fun r s'=>r=.ok (.ret (.bool true))/\OldK s₁.heap s'.heap/\s'.os=s₁.os/\q9 s'.gens) s₁:=by
 have rv:=uq hi;have lenV:=hi.length
 let o0:HO:=.Ak { cls:=.type "list",data:=.seq vs.toArray } (.lst (ns.map V.int))
 let H:Hp:=H0 ts K a o0
 have lk:∀{b:ab}{q:Str},ts.lookup b=some q->(b,q)∈ts:=fun h=>afR h;have lkm:∀{y:ab×Str},y∈ts->ts.lookup y.1=some y.2:=fun {y} hy=>by
  clear hts hK0 htab hct lk
  induction ts with
  |nil=>cases hy
  |cons z ts ih =>
   rw[ck,eQ]at nd;rcases bz.mp hy with e|hy2
   ·subst e;obtain⟨y1,y2⟩:=y;exact mE
   ·have ne:y.1≠z.1:=fun e=>nd.1 (e▸gy hy2);obtain⟨z1,z2⟩:=z;rw[km,show(y.1 == z1)=false by simpa using ne];exact ih nd.2 hy2
 have aaF:∀{b:ab}{u:HO},H b=some u->(∃q,(b,q)∈ts/\u=.tab q)∨(b=a/\K.lookup a=none/\u=o0):=fun {b u} e=>by
  have e':(match ts.lookup b with|some q=>some (HO.tab q)|none=>if b=a/\K.lookup a=none then some o0 else none)=some u:=e;cases h:ts.lookup b with
  |some q=>rw[h]at e';exact .inl ⟨q,lk h,(dq e').symm⟩
  |none =>
   rw[h]at e';dsimp only at e';by_cases c:b=a/\K.lookup a=none
   ·rw[if_pos c]at e';exact .inr ⟨c.1,c.2,(dq e').symm⟩
   ·rw[if_neg c]at e';cases e'
 have hok:yL P w H s₁.heap:=fun b u e=>by
  rcases aaF e with ⟨q,hq,rfl⟩|⟨rfl,_,rfl⟩
  ·exact⟨#[],htab _ hq,trivial,fun pos v z=>by cases z⟩
  ·exact⟨ha,by rw[cb];exact hl,vs,_,rv,ha⟩
 have Ls:∀{b:ab}{o:Obj},s₁.heap.get? b=some o->H b=none->(JD s₁.heap H).get? b=some o:=fun e n=>acU e n;have alz:∀{b:ab}{o:Obj},s₁.heap.get? b=some o->(∀vs n,o.data≠.seq vs n)->(∀vs,o.data≠.fields vs)->H b=none:=fun {b o} e d1 d2=>by
  cases q:H b with
  |none=>rfl
  |some u =>
   rcases aaF q with ⟨q',hq,rfl⟩|⟨rfl,_,rfl⟩
   ·have:=htab _ hq;rw[e]at this;cases this;exact(d2 _ rfl).elim
   ·rw[ha]at e;cases e;exact(d1 _ _ rfl).elim
 have nsK:∀{b:ab}{m:Str->Option aa},s₁.heap.Ns b m->(JD s₁.heap H).Ns b m:=fun {b m} ⟨o,es,ep,e,d,r⟩=>⟨o,es,ep,Ls e (alz e (fun _ _ z=>by rw[d]at z;cases z) (fun _ z=>by rw[d]at z;cases z)),d,r⟩
 have hKb:K.In (JD s₁.heap H):=fun b o e=>Ls (KX b o e) (by
  cases q:H b with
  |none=>rfl
  |some u =>
   rcases aaF q with ⟨q',hq,rfl⟩|⟨rfl,hk,rfl⟩
   ·rw[hK0 _ hq]at e;cases e
   ·rw[hk]at e;cases e)
 have hM:Mod K mg (JD s₁.heap H):=⟨hKb,nsK hns,⟨mb,nsK hb,hbb⟩,let ⟨mc,h1,h2⟩:=hlim;⟨mc,nsK h1,h2⟩,let ⟨bm,ob,e1,e2,e3,e4,e5,e6⟩:=hbm;⟨bm,ob,e1,e2,Ls e3 (alz e3 (fun _ _ z=>by rw[e6]at z;cases z) (fun _ z=>by rw[e6]at z;cases z)),e4,e5,e6⟩⟩
 have e0:aib P w K mg (JD s₁.heap H) my [] s₁ H:=⟨rfl,hM,fun b o e=>ahN e,Nat.le_of_eq (aaT _ _),trivial,fun b hb=>absurd (show b∈([]:List ab) from hb) (by simp),hok,.of_eq hg⟩
 have hS:pO K H a (ns.map V.int):=by
  cases hk:K.lookup a with
  |some o =>
   have e:=KX a o hk;rw[ha]at e;cases e;exact .inr ⟨_,vs.toArray,_,hk,rfl,rfl,rfl,by rw[cK,lenV];exact hl,by simpa using rv⟩
  |none =>
   refine .inl (.inr ⟨{ cls:=.type "list",data:=.seq vs.toArray },?_⟩);show(match ts.lookup a with|some q=>some (HO.tab q)|none=>if a=a/\K.lookup a=none then some o0 else none)=_;cases h:ts.lookup a with
   |some q=>have:=htab _ (lk h);rw[ha]at this;cases this
   |none=>dsimp only;rw[if_pos ⟨rfl,hk⟩]
 have hco:Cok K H:=fun y hy=>by rw[hts]at hy;show(match ts.lookup y.1 with|some q=>some (HO.tab q)|none=>_)=_;rw[lkm hy]
 have tp0:∀b xs,H b=some (.tup xs)->(fun b=>match H b with|some (.tab _)=>none|u=>u) b=some (.tup xs):=fun b xs e=>by dsimp only;rw[e]
 have hsp:spV K 1 v [.ref a] H (fun u H'=>u=.bl true/\∀y∈ts,H' y.1=some (.tab y.2)) (fun _ _ _=>False):=by
  let G:Hp:=fun b=>match H b with|some (.tab _)=>none|u=>u
  have gh:Same G H:=fun b u e=>by
   have e':(match H b with|some (.tab _)=>none|u=>u)=some u:=e;cases q:H b with
   |none=>rw[q]at e';cases e'
   |some z =>
    rw[q]at e';cases z with
    |tab _=>cases e'
    |_=>exact e'
  have hSG:pO K G a (ns.map V.int):=by
   rcases hS with (h|⟨o,h⟩)|h
   ·refine .inl (.inl ?_);show(match H a with|some (.tab _)=>none|u=>u)=_;rw[h]
   ·refine .inl (.inr ⟨o,?_⟩);show(match H a with|some (.tab _)=>none|u=>u)=_;rw[h]
   ·exact .inr h
  refine⟨rfl,G,[.lst (ns.map D.int)],⟨.refl gh tp0,hco⟩,bN.one (aY.mpr ⟨a,_,rfl,hSG,yQ ns⟩),?_⟩;rw[hv];exact fun u H' G' e r=>⟨bQ.mp r,fun y hy=>e.hh _ _ (hco y (by rw[hts];exact hy))⟩
 refine oy ((F _ hKb (nsK hns)).run my [] s₁ H ⟨[.ref a],[]⟩ [.ref a] [.ref a] _ _ hr e0 (hbind s₁ (.ref a)) (.cons rfl .nil) hsp) fun r s' h=>?_;cases r with
 |error e =>
  obtain⟨_,_,_,_,_,_,_,_,_,_,z⟩:=h;exact z.elim
 |ok fl =>
  cases fl with
  |next=>exact i_ h
  |brk=>exact i_ h
  |cont=>exact i_ h
  |ret u =>
   obtain⟨v',H',os,bare,un,hok',r',q,qt⟩:=h;subst q;obtain rfl:u=aa.bool true:=r';have keep:∀b o,s₁.heap.get? b=some o->(∀q,(b,q)∉ts)->s'.heap.get? b=some o:=fun b o e nt=>by
    cases q:H b with
    |none=>exact un.keep b o e q (by intro z;exact absurd (show b∈([]:List ab) from z) (by simp)) (by simp)
    |some u =>
     rcases aaF q with ⟨q',hq,rfl⟩|⟨rfl,hk,rfl⟩
     ·exact(nt q' hq).elim
     ·have z2:=un.CG b _ _ q;obtain⟨e2,_⟩:=hok' b _ z2;rw[ha]at e;cases e;exact e2
   refine⟨rfl,⟨fun b o e=>?_,fun b o e=>un.there b o e (by simp)⟩,os,bare⟩;by_cases c:∃q,(b,q)∈ts
   ·obtain⟨q,hq⟩:=c;have e1:=htab _ hq;rw[e]at e1;cases e1;obtain⟨ps,e2,_⟩:=(show dY P w H' s'.heap b (.tab q) from hok' b _ (qt _ hq))
    exact .inr (.inl ⟨hct _ hq,rfl,#[],ps,rfl,by rw[e2];simp⟩)
   ·exact .inl (keep b o e fun q hq=>c ⟨q,hq⟩)
theorem Lw{K:aw}{h:Heap}{c P:ab}(X:K.In h)(e:i4 K c P=true):isCodeTable h P:=by obtain⟨o,vs,_,_,_,_,_,_,_,h1,h2,h3,h4,_⟩:=codeHd_of_K X e;exact⟨c,o,vs,h1,h2,h3,h4⟩
theorem ajI{l:mw}{k:Nat}{q:aE}{loose:List Str}{XP:(Str->Option aa)->Heap->Prop}{YP:az->Heap->Prop}{d:DefRec}{K:Params->Frag}{v:List D->Rs D}{ts:List (ab×Str)}(hn:l.most=some 63)(hdf:d.params.defaults=[])(hr:pB k my)
  (hY:∀(w:az) (h:Heap),YP w h->(K w.params).In h) (hT:∀(w:az) (h:Heap),YP w h->∀y∈ts,h.get? y.1=some (tabObj #[])) (nd:(ts.map (·.1)).Nodup) (asF:∀w:az,adx (K w.params)=ts) (hK0:∀w:az,∀y∈ts,(K w.params).lookup y.1=none) (hcd:∀w:az,∀y∈ts,∃c,i4 (K w.params) c y.1=true)
  (hv:∀ns:List Int,ns.length<=63->v [.lst (ns.map D.int)]=.ok (.bl true))
  (F:∀(w:az) (mg:Str->Option aa) (fa:ab) (h:Heap),(K w.params).In h->h.Ns bS mg->mg d.name=some (.ref fa) ->
   ∃fd:cq,(∀(s:af) (u:aa),me s fd ⟨[u],[]⟩ [("script",u)])/\∀base:Heap,(K w.params).In base->base.Ns bS mg->Wv l.prog w (K w.params) mg base (WM l.prog w (K w.params)) k fa fd ["script"] (spV (K w.params) 1 v)) :
  WalkO q loose XP YP l.row.toRowW d [] (fun f vs=>PySem.call f vs):=by
 refine Att.Qm hn hdf fun w s₀ s₁ mg mb fa o pm cd doc a vs ns G Y ho hd hcd' hmg hobj hints hlen hg=>?_;have KX:=hY w _ Y;obtain⟨fd,hb,hF⟩:=F w mg fa _ KX G.T.g hmg;exact abS KX G.T.g G.T.b G.T.builtins G.T.nolimit G.T.bmain hg hobj hints (cz hlen (by decide)) hr hF hb (asF w) nd (hK0 w) (hT w _ Y) (fun y hy=>let ⟨c,e⟩:=hcd w y hy;Lw KX e) (hv ns hlen)
def lG(d:D)(caps:List Nat)(ρ:aK):aK:=.fz d::caps.map fun i=>match ρ[i]? with|some (Sl.fz e)=>Sl.fz e|_=>Sl.no
def tD(fb:aK->Rs D)(caps:List Nat)(ρ:aK):List D->Rs (List Int)
 | []=>.ok []
 |d::ds=>match fb (lG d caps ρ) with
  | .ok (.int k)=>(tD fb caps ρ ds).bind fun ks=>.ok (k::ks)
  |_=>.no
def RQ(ks:List Int):Nat:=dk (btG fun j=>(ks[j]?).getD 0) (ks.length - 1)
def RT(caps:List Nat)(fa fb fd:aK->Rs D):aK->Rs D:=fun ρ=>match fa ρ with
 | .ok (.lst ds)=>(match fd ρ with
  | .ok dd=>(match tD fb caps ρ ds with
   | .ok ks=>.ok ((ds[RQ ks]?).getD dd)
   |_=>.no)
  |_=>.no)
 |_=>.no
theorem Jp{fb:aK->Rs D}{caps:List Nat}{ρ:aK}:∀{ds:List D}{ks:List Int},tD fb caps ρ ds=.ok ks->ks.length=ds.length
 | [],ks,h=>by cases h;rfl
 |d::ds,ks,h=>by
  simp only[tD]at h;split at h
  ·cases e:tD fb caps ρ ds with
   |ok ks'=>rw[e]at h;cases h;simp[Jp e]
   |ex c n=>rw[e]at h;cases h
   |no=>rw[e]at h;cases h
  ·cases h
theorem Jq{fb:aK->Rs D}{caps:List Nat}{ρ:aK}:∀{ds:List D}{ks:List Int}{j:Nat}{d:D},tD fb caps ρ ds=.ok ks->ds[j]?=some d->fb (lG d caps ρ)=.ok (.int ((ks[j]?).getD 0))
 | [],ks,j,d,h,e=>by simp at e
 |d::ds,ks,j,d',h,e=>by
  simp only[tD]at h;split at h
  ·rename_i k hk;cases e2:tD fb caps ρ ds with
   |ok ks' =>
    rw[e2]at h;cases h;cases j with
    |zero=>simp at e;subst e;simpa using hk
    |succ j=>simpa using Jq e2 (by simpa using e)
   |ex c n=>rw[e2]at h;cases h
   |no=>rw[e2]at h;cases h
  ·cases h
section
variable{X:Cx}{B:Bs}{W:Wi}{K:aw}
theorem Eo{d:D}{caps:List Nat}{ρ:aK}:abm (lG d caps ρ):=fun i z q w=>by
 unfold lG at q;cases i with
 |zero=>cases q;cases w
 |succ i =>
  rw[og,cE]at q;cases e:caps[i]? with
  |none=>rw[e]at q;cases q
  |some k =>
   rw[e]at q;have q':(match ρ[k]? with|some (.fz d)=>Sl.fz d|_=>.no)=z:=dq q;split at q' <;> (subst q';cases w)
theorem anO{σ:St}{H G:Hp}{ρ:aK}{caps:List Nat}{d:D}{v:V}(s:SR K B σ H ρ G)(r:Rep K G d v):SR K ⟨G,H,0⟩ (zy v caps σ) H (lG d caps ρ) G:=by
 refine⟨s.vD,by simp[zy,lG],fun i d q=>?_,fun i z q w=>(Eo i z q w).elim,fun i j z z' a q w=>(Eo i z q w).elim,fun i ds a q=>(Eo i _ q rfl).elim,s.co⟩;unfold lG at q;unfold zy;cases i with
 |zero=>cases q;exact⟨v,rfl,r⟩
 |succ i =>
  rw[og,cE]at q;rw[og,cE];cases e:caps[i]? with
  |none=>rw[e]at q;cases q
  |some k =>
   rw[e]at q;have q':(match ρ[k]? with|some (.fz d)=>Sl.fz d|_=>.no)=.fz d:=dq q;cases e2:ρ[k]? with
   |none=>rw[e2]at q';cases q'
   |some z =>
    rw[e2]at q';cases z with
    |fz d' =>
     cases q';obtain⟨v,h1,h2⟩:=s.fz k _ e2;exact⟨v,by simp[h1],h2⟩
    |no=>cases q'
    |ow _=>cases q'
    |od _=>cases q'
    |op _=>cases q'
theorem Inv.asG{pins:List (ab×Obj)}{σ:St}{H:Hp}{s:af}{f:ab}{o:Obj}(I:Inv X pins σ H s)(h1:s.heap.get? f=some o)(h2:H f=none)(h3:f∉pP X.stack)(h4:f≠X.env.locals)(h5:∀v,o.data≠.cell v)(hfs:f∉X.fs):Inv X ((f,o)::pins) σ H s :=
 I.Cd fun p hp=>by
  rcases bz.mp hp with e|hp
  ·subst e;exact⟨h1,h2,h4,hfs,h5⟩
  ·exact I.pin p (fq _ hp)
theorem ajJ{a body ed:ai}{params:mn}{sc:Scope}{lp p pos k1 k2:Pos}{P c:ab}{q pn:Str}{Nc:List Str}{caps:List Nat}{fa fb fd:aK->Rs D}{k:Nat}
  (hc:X.calm=true) (hex:X.ex=[]) (hr:pB k X.A) (hm:X.mg "max"=none) (hg:Gl X "max") (ha:SE X B W a fa) (hd:SE X B W ed fd)
  (cp:vM X sc (pn::Nc) 1 caps) (hp:sc.names.lookup pn=some .local)
  (hb:∀s H f cd B',SE (anM X X.A.in1 (pn::Nc) s H q sc f cd) B' WF body fb)
  (hP:(P,q)∈adx X.K) (hcode:X.env.code=.ref c) (hhd:i4 X.K c P=true) (hq:X.env.qual++("<lambda>":Str)=q)
  (hdef:defaultsOf params X.env=([],[])) (hco:sc.isCoroutine=false) (hgen:sc.isGenerator=false)
  (hbind:∀(pm ctv u:aa) (c':ab),bindArgs (kla_fn "<lambda>" q params body sc (fX sc X.env) pm (.ref c') ctv) ⟨[u],[]⟩=pure [(pn,u)])
  (hst:bo [a] X.env=[(false,ba a X.env)]:=by rfl)
  (he:d6 pos (bo [a] X.env)=(false,ba a X.env)::d6 pos (bo [] X.env):=by rfl)
  (hplain:(d6 pos (bo [a] X.env)).any (·.1)=false:=by rfl)
  (hall:(ja pos (jb [⟨some "key",.Lambda params body sc lp,k1⟩,⟨some "default",ed,k2⟩] X.env)).all (·.1.isSome)=true:=by rfl)
  (hkw:(ja pos (jb [⟨some "key",.Lambda params body sc lp,k1⟩,⟨some "default",ed,k2⟩] X.env)).any (·.1.isNone)=false:=by rfl)
  (hnm:(ja pos (jb [⟨some "key",.Lambda params body sc lp,k1⟩,⟨some "default",ed,k2⟩] X.env)).filterMap (·.1)=[("key":Str),("default":Str)]:=by rfl) :
  SE X B W (.Call (.Name "max" p) [a] [⟨some "key",.Lambda params body sc lp,k1⟩,⟨some "default",ed,k2⟩] pos) (RT caps fa fb fd):=by
 intro pins s σ H Q I ⟨ρ,G,sr,h⟩;unfold RT at h;cases ea:fa ρ with
 |no=>rw[ea]at h;exact h.elim
 |ex _ _=>rw[ea]at h;exact h.elim
 |ok da =>
  rw[ea]at h;cases da with
  |lst ds =>
   dsimp only at h;cases ed':fd ρ with
   |no=>rw[ed']at h;exact h.elim
   |ex _ _=>rw[ed']at h;exact h.elim
   |ok dd =>
    rw[ed']at h;dsimp only at h;cases ek:tD fb caps ρ ds with
    |no=>rw[ek]at h;exact h.elim
    |ex _ _=>rw[ek]at h;exact h.elim
    |ok ks =>
     rw[ek]at h;dsimp only at h;have pst:∀v H' G',Ext G H G' H'->Rep X.K G' ((ds[RQ ks]?).getD dd) v->Q v H':=h;refine qr (yM I hg hm rfl ?_ (by decide) (by decide));refine PyProof.Rows.callWith_kw ?_ he hplain hall hkw;rw[hnm];refine je (iC ha jX hst pos pins s σ H (fun vs H1=>∃v G1,vs=[v]/\Ext G H G1 H1/\Rep X.K G1 (.lst ds) v) I ⟨ρ,G,sr,?_⟩) fun us s1 ⟨vs,H1,I1,r1,v1,G1,e1,x1,rp1⟩=>?_
     ·rw[ea];exact fun v H1 G1 x r=>⟨v,G1,rfl,x,r⟩
     subst e1;obtain⟨l,xs,rfl,hl,rxs⟩:=aY.mp rp1;cases r1 with|cons rl r1 =>
     cases r1;cases rl;have sr1:=sr.ext x1;refine PyProof.Rows.kws_cons (afQ I1 (sr1.co _ hP) hcode hhd hq hex (rJ (cp.cells I1)) hdef fun f c' pm ctv H2 s2 M=>?_);have x2:Ext G1 H1 G1 H2:=by
      rcases M.hs with e|⟨a',n,e⟩
      ·rw[e];exact sr1.vD
      ·rw[e];exact ZG sr1.en.gh sr1.en.tp (fun _ z=>by cases z) n
     have sr2:=sr1.ext x2;have hfs:f∉X.fs:=fun z=>M.ff (by
      rcases I.ok.stk with e|⟨e,_⟩
      ·rw[e];exact z
      ·rw[e];unfold pP;rw[lT];split
       ·exact z
       ·exact dQ _ z)
     have hfl:f≠X.env.locals:=fun z=>by obtain⟨m,⟨o,es,ep,e,d,_⟩,_⟩:=M.inv.loc;have:=M.obj;rw[z,e]at this;cases this;cases d
     have I2:=Inv.asG M.inv M.obj M.fn M.ff hfl (fun v z=>by cases z) hfs;refine PyProof.Rows.kws_cons (je (hd _ s2 σ H2 (fun v H3=>∃G3,Ext G1 H2 G3 H3/\Rep X.K G3 dd v) I2 ⟨ρ,G1,sr2,?_⟩) fun u3 s3 ⟨v3,H3,I3,r3,G3,x3,rp3⟩=>?_)
     ·rw[ed'];exact fun v H3 G3 x r=>⟨G3,x,r⟩
     refine PyProof.Rows.kws_nil ?_;have sr3:=sr2.ext x3;have x03:Ext G H G3 H3:=(x1.trans x2).trans x3;have hf3:=I3.pin (f,_) (fq _ dA);have I4:Inv X pins σ H3 s3:=I3.Cd fun p hp=>I3.pin p (fq _ (dQ _ hp));have hl3:pO X.K G3 l xs:=Same.seq (x2.gg.trans x3.gg) hl;have aqs:bN X.K G3 ds xs:=rxs.mono (x2.gg.trans x3.gg);have hlen:ks.length=xs.length:=by rw[Jp ek,rxs.length]
     refine abR (kf:=fun j=>(ks[j]?).getD 0) (xs:=xs) (Pv:=fun H'=>∃G',Ext G3 H3 G' H') hc I4 ⟨G3,sr3.vD⟩ (fun H' ⟨G',x⟩=>Same.seq (x.gg.trans x.gh) hl3) (fun j v u s' H' hj rv I' pv ho=>?_) hf3.1 hf3.2.1 M.ff (fun hn H' s' I' ⟨G',x⟩=>?_) fun H' s' v u I' ⟨G',x⟩ hv ru=>?_
     ·obtain⟨G',x'⟩:=pv;obtain⟨d,hdj,rd⟩:=aqs.get' hj;have alM:H' c'=some (.Qd q):=x'.hh _ _ (x3.hh _ _ M.Qd);obtain⟨oc,vs,t,hoc,hod,hov⟩:=(show dY X.prog X.w H' s'.heap c' (.Qd q) from I'.hok c' _ alM)
      refine afO (A:=X.A.in1) (t:=tF X.K ⟨G',H',0⟩ WF fb) (Q:=fun w Qn=>w=.int ((ks[j]?).getD 0)/\∃G'',Ext G3 H3 G'' Qn) cp hp I' rv hr.hd I'.ok.frames hr.depth hco hgen ho ⟨c',oc,vs,t,rfl,hoc,hod,hov⟩ (hbind _ _ _ _) (hb _ _ _ _ _) ⟨lG d caps ρ,G',anO (sr3.ext x') (rd.mono x'.gg),?_⟩ fun r s'' ⟨w,Qn,h1,h2,h3,h4,h5,h6,h7⟩=>?_
      ·rw[Jq ek hdj];exact fun w Qn G'' x r=>⟨aR.mp r,G'',x'.trans x⟩
      ·subst h6;obtain⟨t,rfl⟩:=h5;exact⟨t,Qn,rfl,h1,h2,h3,h4,h7⟩
     ·subst hn;have:ds=[]:=by have:=rxs.length;simpa using this
      subst this;exact⟨v3,H',I',r3,pst v3 H' G' (x03.trans x) (by simpa using rp3.mono x.gg)⟩
     ·obtain⟨d,hd1,hd2⟩:=aqs.get' hv;have:ds[RQ ks]?=some d:=by unfold RQ;rw[hlen];exact hd1
      exact⟨v,H',I',ru,pst v H' G' (x03.trans x) (by rw[this];exact hd2.mono x.gg)⟩
  |_=>exact h.elim
end
end Vl
namespace Dk
open PySem PySem.Spec
section
variable{prog:aE}{w:az}{A:a_}{E:aa->af->Prop}{s:af}{es:Array oz}{ep:Nat}{D:ab}
theorem ajK{R:Result->af->Prop}(hh:A.handled=none) (hd:(D == iq)=false) (ho:pX s.heap D es ep) (hn:es.size<=1000) (S:ab) (res:aa) (c₀:Nat) (hDS:D≠S) (hS:s.heap.get? S=some { cls:=.type "list",data:=.seq #[] c₀ })
  (hR:∀h' tk acc' c',(∀b o,b≠S->s.heap.get? b=some o->h'.get? b=some o)->h'.get? S=some { cls:=.type "list",dict:=none,data:=.seq acc' c',slots:=#[] } ->
   ItemsOf (fun i v=>∃e,es[i]?=some e/\v=e.key) acc' es.size->R (.ok (.ret res)) { s with heap:=h',toks:=tk }) :
  ag (ah prog w) A.in1 (kN (.ref S) (.ref D) res)
   (fun dZ s'=>match dZ with|.done f=>R (.ok f) s'|.again c'=>c'.quiet=true/\f7 (ah prog w) A c' R s') (fun e s'=>R (.error e) s') s:=by
 have hSlt:S < s.heap.objs.size:=bu hS;have sH:D < s.heap.objs.size:=by obtain⟨o,e,_⟩:=id ho;exact bu e
 have W:=(afm (prog:=prog) (w:=w) (A:=A.in1) (d:=D) (it:=s.heap.objs.size) (es:=es) (ep:=ep) (by simpa using hh) (bP sH)).toS;have hSf:S∉[s.heap.objs.size,D]:=by simp only[bz,gd,or_false,not_or];exact⟨bP hSlt,de hDS⟩
 have key:∀(h:Heap) (c₁ tk:Nat),h.get? s.heap.objs.size=some (kit D 0 es.size ep)->(∀b o,b≠S->s.heap.get? b=some o->h.get? b=some o) ->
   h.get? S=some { cls:=.type "list",data:=.seq #[] c₁ }->f7 (ah prog w) A (.builtin "list.extend.loop" ⟨[.ref S,.ref s.heap.objs.size,res],[]⟩) R { s with heap:=h,toks:=tk }:=by
  intro h c₁ tk hit hk hS₁;refine xC W (by rw[d8];lia) S hSf res es.size 0 _ #[] c₁ rfl (eC _) ⟨afl hit,ho.go fun o e=>hk _ _ hDS e⟩ hS₁ (xD _) fun s' acc' c' hm hS' hacc=>?_;rw[Moved.eq_with hm];refine hR s'.heap s'.toks acc' c' (fun b o hb e=>hm.heap b o (fun hmem=>?_) (hk b o hb e)) hS' hacc;rcases bz.mp hmem with e'|hmem
  ·exact hb e'
  ·exact absurd (bu e) (by rw[g_.mp hmem];exact ir _)
 unfold kN;refine ae (mT ho.ty ?_);have h1:nS (.ref S) (.ref D)=false:=by simp[nS,de hDS]
 have h2:(aa.type "dict" == aa.type "list")=false:=by decide
 have h3:(aa.type "dict" == aa.type "tuple")=false:=by decide
 simp only[h1,h2,h3,sm,Bool.or_false,aS,if_false];refine ae (alv hd ho ?_);have hD2:pX (s.heap.push (kit D 0 es.size ep)) D es ep:=ho.go fun o e=>bX _ e;have hS₁:=bX (kit D 0 es.size ep) hS;have hI:(s.heap.push (kit D 0 es.size ep)).get? s.heap.objs.size=some (kit D 0 es.size ep):=dc _ rfl;refine ae (dP (alw hD2 ?_));refine wpAny_ite_split (fun _=>?_) (fun _=>ar ⟨fF tq _,key _ c₀ _ hI (fun b o _ e=>bX _ e) hS₁⟩);refine ae (gu ?_);refine ae ?_;show ag _ _ (j9 S (·.push .none) >>= fun _=>j9 S (·.pop)) _ _ _;refine ae (gx hS₁ rfl ?_);have hS₂:=fy (di (·.push aa.none)) hS₁ rfl;refine gx (hz:=by seq_fits) hS₂ rfl ?_;have hS₃:=fy (di (·.pop)) hS₂ rfl;have hSI:S≠s.heap.objs.size:=bP hSlt;refine ar ⟨fF tq _,key _ _ _ ?_ (fun b o hb e=>?_) hS₃⟩
 ·exact(eS _ _ hSI).trans ((eS _ _ hSI).trans hI)
 ·exact(eS _ _ (de hb)).trans ((eS _ _ (de hb)).trans (bX _ e))
theorem aqt{R:Result->af->Prop}(hh:A.handled=none) (hd:(D == iq)=false) (ho:pX s.heap D es ep) (hn:es.size<=1000) (S:ab) (hDS:D≠S) (hS:s.heap.get? S=some { cls:=.type "list",data:=.seq #[] })
  (hR:∀h' tk acc' c',(∀b o,b≠S->s.heap.get? b=some o->h'.get? b=some o)->h'.get? S=some { cls:=.type "list",dict:=none,data:=.seq acc' c',slots:=#[] } ->
   ItemsOf (fun i v=>∃e,es[i]?=some e/\v=e.key) acc' es.size->R (.ok (.ret .none)) { s with heap:=h',toks:=tk }) :
  ag (ah prog w) A.in1 (Builtin.«list.__init__» ⟨[.ref S,.ref D],[]⟩)
   (fun dZ s'=>match dZ with|.done f=>R (.ok f) s'|.again c'=>c'.quiet=true/\f7 (ah prog w) A c' R s') (fun e s'=>R (.error e) s') s:=by
 show ag _ _ (do let old <- cy.List.listItems (.ref S);cy.List.listUpdate (.ref S) (fun _=>#[]);letGo old.toList.reverse;kN (.ref S) (.ref D) .none) _ _ s;refine ae ?_;unfold cy.List.listItems;refine ae (ku hS rfl (ar ?_));show ag _ _ (j9 S (fun _=>#[]) >>= fun _=>letGo (#[]:Array aa).toList.reverse >>= fun _=>kN (.ref S) (.ref D) .none) _ _ s;refine ae (gx hS rfl ?_);have hS₂:=fy (di (fun _=>(#[]:Array aa))) hS rfl;have oth:∀b o,b≠S->s.heap.get? b=some o->(s.heap.update S (di (fun _=>(#[]:Array aa)))).get? b=some o :=
  fun b o hb e=>(eS _ _ (de hb)).trans e
 refine ae (kz ?_);refine ajK hh hd (ho.go fun o e=>oth _ _ hDS e) hn S .none _ hDS hS₂ fun h' tk acc' c' hk hS' hacc=>?_;exact hR h' tk acc' c' (fun b o hb e=>hk b o hb (oth b o hb e)) hS' hacc
theorem Yc{Q:aa->af->Prop}(hh:A.handled=none)(hd:(D == iq)=false)(ho:pX s.heap D es ep)(hn:es.size<=1000)
  (hQ:∀h' tk acc' c',(∀b o,s.heap.get? b=some o->h'.get? b=some o) ->
   h'.get? s.heap.objs.size=some { cls:=.type "list",dict:=none,data:=.seq acc' c',slots:=#[] }->ItemsOf (fun i v=>∃e,es[i]?=some e/\v=e.key) acc' es.size->Q (.ref s.heap.objs.size) { s with heap:=h',toks:=tk }) :
  ag (ah prog w) A (call (.type "list") [.ref D]) Q E s:=by
 have sH:D < s.heap.objs.size:=by obtain⟨o,e,_⟩:=id ho;exact bu e
 refine callType_codes (Q₁:=fun obj s₁=>obj=.ref s.heap.objs.size/\s₁={ s with heap:=s.heap.push { cls:=.type "list",data:=.seq #[] } }) F.called_list (F.typeCall_list_1 _) F.entry_list_init
  (code_list_new _ ⟨rfl,rfl⟩) fun obj s₁ h₁=>?_
 obtain⟨rfl,rfl⟩:=h₁;have hS:(s.heap.push { cls:=.type "list",data:=.seq #[] }).get? s.heap.objs.size=some { cls:=.type "list",data:=.seq #[] }:=dc _ rfl;refine⟨⟨_,hS,rfl⟩,F.args_list_init_2 _ _,aqt (A:=A.in1) hh hd (ho.go fun o e=>bX _ e) hn _ (bP sH) hS fun h' tk acc' c' hk hS' hacc=>?_⟩;exact⟨rfl,hQ h' tk acc' c' (fun b o e=>hk b o (bP (bu e)) (bX _ e)) hS' hacc⟩
end
end Dk
namespace Vl
open PySem PySem.Spec PySem.Calls PySem.W L2
section
variable{X:Cx}{B:Bs}{W:Wi}{K:aw}
theorem Jr:∀ys:List (List Int×ab×aa),Vals (ys.map fun x=>V.ref x.2.1) (ys.map fun x=>aa.ref x.2.1)
 | []=>.nil
 |_::ys=>.cons rfl (Jr ys)
theorem RV(hc:X.calm=true):gw X (.type "list") (fun xs H Q=>∃(a:ab) (U:ab->List Int->Prop) (cj:List (List Int×V)),xs=[.ref a]/\H a=some (.ext (nJ U a cj))/\(∀b ks,U b ks->UG X.K H b ks)/\cj.length < 1000 /\
  ∀l zs,H l=none->zs.length=cj.length->(∀(i:Nat) v,zs[i]?=some v->∃b,v=.ref b/\U b ((cj.map (·.1)).getD i []))->Q (.ref l) (upd H l (.lst zs))):=by
 intro pins s σ H xs us Q I r h;obtain⟨a,U,cj,rfl,hH,hU,hz,q⟩:=h;obtain⟨u,rfl,rx⟩:=r.one;cases rx;obtain⟨⟨o,es,ep,ys,ho,hx,hdat,hsys,hes,hnd,hp⟩,_⟩:=I.hok _ _ hH;obtain⟨ek,hu⟩:=sZ hp;have hlen:ys.length=cj.length:=by have:=congrArg f9 ek;simpa using this
 have hsz:es.size=ys.length:=by have:=congrArg f9 hes;simpa using this
 have hd0:Dk.pX s.heap a es ep:=⟨o,ho,hx,hdat⟩
 refine Dk.Yc (I.ok.hd hc) hsys hd0 (by lia) fun h' tk acc c' kk hS hacc=>?_;have asI:∀i,es[i]?=(ys[i]?).map fun(x:List Int×ab×aa)=>(⟨ZD x.1,.ref x.2.1,x.2.2⟩:oz):=fun i=>by rw[<- h_,hes,cE]
 have Ro:H s.heap.objs.size=none:=I.hok.fresh (br _);have hal:acc.toList=ys.map fun x=>aa.ref x.2.1:=by
  apply tw;intro i;rw[cE,h_];cases e:acc[i]? with
  |some v =>
   obtain⟨x,hx',rfl⟩:=hacc.2 i v e;rw[asI]at hx';cases e2:ys[i]? with
   |none=>rw[e2]at hx';cases hx'
   |some y=>rw[e2]at hx';cases hx';rfl
  |none =>
   have:acc.size<=i:=by simpa using e
   rw[hacc.1,hsz]at this;rw[List.getElem?_eq_none this];rfl
 have hv:Vals (ys.map fun x=>V.ref x.2.1) acc.toList:=by rw[hal];exact Jr ys
 have kl:(ys.map fun x=>V.ref x.2.1).length=cj.length:=by simp[hlen]
 refine⟨.ref s.heap.objs.size,_,I.laid (t':=tk) kk (br _) (show dY X.prog X.w _ h' _ (.lst (ys.map fun x=>V.ref x.2.1)) from⟨?_,acc.toList,c',hv,by simpa using hS⟩),rfl,q _ _ Ro kl fun i v e=>?_⟩
 ·rw[kl,d8];lia
 ·rw[cE]at e;cases e2:ys[i]? with
  |none=>rw[e2]at e;cases e
  |some y =>
   rw[e2]at e;have hg:(cj.map (·.1)).getD i []=y.1:=by rw[<- ek,fE,cE,e2];rfl
   rw[hg];exact⟨y.2.1,(dq e).symm,hu y (kg e2)⟩
def wk:D->Rs D:=fun d=>match d with
 | .lE ks _=>if ks.length < 1000 then .ok (.lst (ks.map yT)) else .no
 |_=>.no
theorem afS{f:aK->Rs D}{e:ai}{p pos:Pos}(hc:X.calm=true) (hm:X.mg "list"=none) (he:SE X B W e f) (hg:Gl X "list":=by rfl) (hst:bo [e] X.env=[(false,ba e X.env)]:=by rfl) :
  SE X B W (.Call (.Name "list" p) [e] [] pos) (fB f wk):=by
 refine PE.imp (uo (RV hc) hg hm x6 (iC he jX hst) (by decide) (by decide) hst rfl) fun σ H Q fH=>?_;obtain⟨ρ,G,s,pp⟩:=fH;refine⟨ρ,G,s,?_⟩;unfold fB at pp;cases e1:f ρ with
 |no=>rw[e1]at pp;exact pp.elim
 |ex c n=>rw[e1]at pp;exact pp
 |ok d =>
  rw[e1]at pp;intro v H1 G1 x r;have pp':Post X.K W σ G H (wk d) Q:=pp;cases d with
  |lE ks ds =>
   unfold wk at pp';dsimp only at pp';by_cases hl:ks.length < 1000
   ·rw[if_pos hl]at pp';obtain⟨a,U,cj,rfl,h1,h2,h3,h4⟩:=uw.mp r;subst h3;refine⟨a,U,cj,rfl,x.gh _ _ h1,fun b ks z=>Same.fW x.gh (h2 b ks z),by simpa using hl,fun l zs Ro hz hv=>?_⟩;have y:=jF (xs:=zs) x.gh x.tp Ro;refine pp' _ _ _ (x.trans y) (aY.mpr ⟨l,zs,rfl,.of bF,(nu (by simpa using hz) fun i v hv2=>?_).mono y.gg⟩);obtain⟨b,e1,e2⟩:=hv i v hv2;exact⟨b,e1,h2 b _ e2⟩
   ·rw[if_neg hl]at pp';exact pp'.elim
  |_=>exact pp'.elim
end
structure anQ (K:aw)(x:Str)(st:bj)(f:ab)(fd:cq)(c P:ab)(q:Str):Prop where
 ex:∃(oc:aa) (od:Option ab) (kV doc pm:aa) (an:Option ab) (ct:aa) (osl:Array (Option aa)),
  fd=gi x x (bK st) (bG st) (aG st) .none kV doc pm an (.ref c) ct/\K.lookup f=some ⟨oc,od,.func fd,osl⟩/\mo K (.ref c) x=true
 kp:kc K (.ref f)=true
 hd:i4 K c P=true
 mem:(P,q)∈adx K
theorem RW:∀{l:List (ab×Obj)}{b:ab}{q:Obj},l.lookup b=some q->(b,q)∈l
 | [],_,_,h=>by cases h
 | (c,r)::l,b,q,h=>by
  by_cases e:b=c
  ·subst e;rw[mE]at h;cases h;exact dA
  ·rw[km,show(b == c)=false by simpa using e]at h;exact dQ _ (RW h)
theorem abT{K:aw}{c P:ab}(e:i4 K c P=true):∃oc vs,K.lookup c=some oc/\oc.data=.fields vs/\(vs[11]?:Option aa)=some (.ref P):=by
 unfold i4 at e;split at e
 ·rename_i vs _ hk;simp only[k4]at e;obtain⟨⟨⟨⟨⟨e1,_⟩,_⟩,_⟩,_⟩,_⟩:=e;split at e1
  ·rename_i P' h11;have:P'=P:=by simpa using e1
   subst this;exact⟨_,vs,hk,rfl,h11⟩
  ·cases e1
 ·cases e
theorem ajL{K:aw}{x q:Str}{st:bj}{f c P:ab}{oc:aa}{od an:Option ab}{osl:Array (Option aa)}{kV doc pm ct:aa}(l:K.lookup f=some ⟨oc,od,.func (gi x x (bK st) (bG st) (aG st) .none kV doc pm an (.ref c) ct),osl⟩)
  (cc:mo K (.ref c) x=true) (k:kc K (.ref f)=true) (h:i4 K c P=true) (hb:ZF (gi x x (bK st) (bG st) (aG st) .none kV doc pm an (.ref c) ct)=true) (hq:x++(".<locals>.<lambda>":Str)=q) :
  anQ K x st f (gi x x (bK st) (bG st) (aG st) .none kV doc pm an (.ref c) ct) c P q:=by
 refine⟨⟨oc,od,kV,doc,pm,an,ct,osl,rfl,l,cc⟩,k,h,?_⟩;obtain⟨o2,vs,h1,h2,h3⟩:=abT h;refine kb.mpr ⟨_,RW l,?_⟩;dsimp only;rw[if_pos hb];show(match K.lookup c with|some oc=>_|none=>none)=_;rw[h1];dsimp only;rw[h2];dsimp only;rw[h3];dsimp only;rw[<- hq]
section
variable{P:aE}{w:az}{K:aw}{mg:Str->Option aa}{base:Heap}
theorem ajM{x q:Str}{st:bj}{f c T:ab}{fd:cq}{N ps:List Str}{k:Nat}{g:aK->Ou}(F:anQ K x st f fd c T q)(hm:mg x=some (.ref f))(S:bR N ps (aG st))
  (hbi:∀(kV doc pm:aa) (an:Option ab) (cdv ct:aa) (us:List aa),us.length=ps.length->bindArgs (gi x x (bK st) (bG st) (aG st) .none kV doc pm an cdv ct) ⟨us,[]⟩=pure (ps.zip us))
  (hb:∀(A:a_) (outer:List Env) (s:af) (H:Hp) (E:XK) (B:Bs),pB k (A.deeper (q_ x (aG st) s.heap.objs.size f (.ref c))) ->
   Dl (yP (WM P w K) P w K mg base N x (aG st) f (.ref c) A outer s H E) (fun c n _ H'=>E (Ij c n) none H') ->
   yS (yP (WM P w K) P w K mg base N x (aG st) f (.ref c) A outer s H E) B (fun c n _ H'=>E (Ij c n) none H') (bG st) g) :
  fV P w K mg base x (k + 1) ps.length (fun ds=>dZ (g (aZ N ds))):=by
 obtain⟨oc,od,kV,doc,pm,an,ct,osl,rfl,lk,hcd⟩:=F.ex;refine⟨f,_,ps,?_,hm,F.kp,.all (hbi kV doc pm an (.ref c) ct)⟩;refine ala lk hcd S (fun vs H Q E h=>h.1) fun A outer s H vs Q E hr h=>?_;obtain⟨_,G,ds,e,r,h⟩:=h;dsimp only at h;exact⟨_,hb A outer s H E ⟨G,H,0⟩ hr (Dm yU rfl),aZ N ds,G,Qw e r,Qx (B:=⟨G,H,0⟩) h⟩
end
theorem aqu{k:Nat}{A:a_}{env:Env}(hr:pB k A):(A.in1.deeper env).units + 8 < be:=by have:=hr.un;show A.units + 1 + 3 + 8 < be;lia
end Vl
namespace Vl
open PySem PySem.Spec L2 So Tb
def aqv(t:Int)(ks:List Int):List Int :=
 let r:=ks.getD 0 0;let c:=ks.getD 1 0
 if t=0 then [r,c] else if t=1 then [c,-r] else if t=2 then [-r,-c] else if t=3 then [-c,r] else if t=4 then [r,-c] else if t=5 then [-c,-r] else if t=6 then [-r,c] else [c,r]
theorem anR{α β:Type}{f:α->β}{l:List α}(inj:∀x∈l,∀y∈l,f x=f y->x=y)(nd:l.Nodup):(l.map f).Nodup:=by
 induction l with
 |nil=>exact o5
 |cons a l ih =>
  obtain⟨n1,n2⟩:=eQ.mp nd;rw[ck];refine eQ.mpr ⟨fun hm=>?_,ih (fun x hx y hy=>inj x (.tail _ hx) y (.tail _ hy)) n2⟩;obtain⟨b,hb,e⟩:=b0.mp hm;have:=inj b (.tail _ hb) a (.head _) e;subst this;exact n1 hb
def turned(t:Int)(l:List (List Int)):List (List Int):=cF (l.map (aqv t))
end Vl
namespace Vl
open PySem PySem.Spec PySem.Calls PySem.W L2 So Tb
abbrev c0(a:List Int):Int:=a.getD 0 0
abbrev c1(a:List Int):Int:=a.getD 1 0
def yK(a b:List Int):Prop:=c0 a < c0 b∨(c0 a=c0 b/\c1 a < c1 b)
theorem lU{a:List Int}(h:Pair a):a=[c0 a,c1 a]:=by obtain⟨x,y,rfl⟩:=h;rfl
theorem RX{a b:List Int}(ha:Pair a)(hb:Pair b)(h0:c0 a=c0 b)(h1:c1 a=c1 b):a=b:=by rw[lU ha,lU hb,h0,h1]
theorem uM{a:List Int}(h:yK a a):False:=by unfold yK at h;lia
theorem Yd{a b c:List Int}(h:yK a b)(k:yK b c):yK a c:=by unfold yK at *;lia
theorem RZ{a b:List Int}(ha:Pair a)(hb:Pair b):jE a b=true↔yK a b:=by
 obtain⟨x,y,rfl⟩:=ha;obtain⟨z,w,rfl⟩:=hb;unfold yK;show _↔x < z∨(x=z/\y < w)
 simp only[jE];by_cases h:x=z
 ·subst h;by_cases k:y=w
  ·subst k;simp
  ·simp[k]
 ·simp[h]
structure gZ (L:KL):Prop where
 pr:∀x∈L,Pair x
 pw:L.Pairwise yK
theorem gZ.nd{L:KL}(h:gZ L):L.Nodup:=h.pw.imp fun {a b} z e=>by subst e;exact uM z
theorem gZ.le{L:KL}(h:gZ L):L.Pairwise leK:=by
 have:L.Pairwise fun a b=>Pair a/\Pair b/\yK a b:=by refine qA.imp_of_mem (fun {a b} ha hb z=>⟨h.pr a ha,h.pr b hb,z⟩) h.pw
 refine this.imp fun {a b} fH=>?_;obtain⟨pa,pb,z⟩:=fH;unfold leK;cases e:jE b a with
 |false=>rfl
 |true=>exact(uM (Yd z ((RZ pb pa).mp e))).elim
theorem gZ.of{L:KL}(pr:∀x∈L,Pair x)(nd:L.Nodup)(pw:L.Pairwise leK):gZ L:=by
 refine⟨pr,?_⟩;have:L.Pairwise fun a b=>a≠b/\leK a b:=(List.pairwise_and_iff.mpr ⟨nd,pw⟩)
 refine qA.imp_of_mem (fun {a b} ha hb ⟨ne,z⟩=>?_) this;have pa:=pr a ha;have pb:=pr b hb;by_cases c:yK a b
 ·exact c
 ·exfalso;have nlt:¬yK b a:=fun w=>by have:=(RZ pb pa).mpr w;unfold leK at z;rw[z]at this;cases this
  unfold yK at c nlt;exact ne (RX pa pb (by lia) (by lia))
theorem gZ.sort{L:KL}(pr:∀x∈L,Pair x)(nd:L.Nodup):gZ (cF L):=.of (fun x hx=>pr x (zq.mp hx)) ((fD L).nodup_iff.mpr nd) (xK L)
theorem gZ.rise{L:KL}(pr:∀x∈L,Pair x):gZ (rise L):=.sort (fun x hx=>pr x (kj.mp hx)) (abN L)
theorem gZ.ext{L M:KL}(hL:gZ L)(hM:gZ M)(h:∀x,x∈L↔x∈M):L=M:=za ((List.perm_ext_iff_of_nodup hL.nd hM.nd).mpr h) hL.le hM.le
theorem gZ.filter{L:KL}(h:gZ L)(t:List Int->Bool):gZ (L.filter t):=⟨fun x hx=>h.pr x (e_.mp hx).1,h.pw.filter t⟩
theorem gZ.aaG{L:KL}(h:gZ L)(p:List Int):gZ (L.map (ad p)):=by
 refine⟨fun x hx=>by obtain⟨y,_,rfl⟩:=b0.mp hx;exact uK _ _,?_⟩;refine List.pairwise_map.mpr (h.pw.imp fun {a b} z=>?_);unfold yK at *;show c0 p + c0 a < c0 p + c0 b∨(c0 p + c0 a=c0 p + c0 b/\c1 p + c1 a < c1 p + c1 b)
 lia
theorem gZ.aqw{L:KL}(h:gZ L)(p:List Int):gZ (L.map fun x=>mi x p):=by
 refine⟨fun x hx=>by obtain⟨y,_,rfl⟩:=b0.mp hx;exact uL _ _,?_⟩;refine List.pairwise_map.mpr (h.pw.imp fun {a b} z=>?_);unfold yK at *;show c0 a - c0 p < c0 b - c0 p∨(c0 a - c0 p=c0 b - c0 p/\c1 a - c1 p < c1 b - c1 p)
 lia
def go(st c:List Int)(j:Nat):List Int:=[c0 c + j * c0 st,c1 c + j * c1 st]
theorem oK{st c:List Int}(h:Pair c):go st c 0=c:=by rw[lU h];simp[go,c0,c1]
theorem Lx(st c:List Int)(j:Nat):go st (ad c st) j=go st c (j + 1):=by
 show [c0 c + c0 st + j * c0 st,c1 c + c1 st + j * c1 st]=[c0 c + ((j + 1:Nat):Int) * c0 st,c1 c + ((j + 1:Nat):Int) * c1 st]
 have e:∀a:Int,((j + 1:Nat):Int) * a=a + j * a:=fun a=>by rw[Int.natCast_succ,Int.add_mul,Int.one_mul,u7]
 rw[e,e,<- u_,<- u_]
theorem alA(st p h:List Int)(j:Nat):go st (ad p h) j=ad p (go st h j):=by
 show [c0 p + c0 h + j * c0 st,c1 p + c1 h + j * c1 st]=[c0 p + (c0 h + j * c0 st),c1 p + (c1 h + j * c1 st)]
 rw[u_,u_]
def Up(st:List Int):Prop:=yK [0,0] st
theorem afT{st c:List Int}(hs:Up st)(j:Nat):yK c (go st c (j + 1)):=by
 have hs':0 < c0 st∨(0=c0 st/\0 < c1 st):=hs;show c0 c < c0 c + ((j + 1:Nat):Int) * c0 st∨(c0 c=c0 c + ((j + 1:Nat):Int) * c0 st/\c1 c < c1 c + ((j + 1:Nat):Int) * c1 st)
 have hj:(0:Int) < ((j + 1:Nat):Int):=by lia
 generalize ((j + 1:Nat):Int)=J at hj ⊢;rcases hs' with h|⟨h1,h2⟩
 ·have:=Int.mul_pos hj h;left;lia
 ·have:=Int.mul_pos hj h2;exact .inr ⟨by rw[<- h1];simp,by lia⟩
theorem aqx{st c x:List Int}(hs:Up st)(hx:Pair x)(h:yK c x)(j:Nat):yK c (go st x j):=by
 cases j with
 |zero=>rw[oK hx];exact h
 |succ j=>exact Yd h (afT hs j)
def Js(S:KL)(st c:List Int)(n:Nat):Prop:=(∀j,j < n->go st c j∈S)/\go st c n∉S
def wu(S:KL)(st:List Int)(kvs:List (List Int×D)):Prop:=∀x,(x∈S->∃n:Nat,cC kvs x=some (.int n)/\Js S st x n)/\(x∉S->cC kvs x=none)
theorem Ly(kvs:List (List Int×D))(k x:List Int)(d:D):cC (mz kvs k d) x=if x=k then some d else cC kvs x:=by
 unfold mz;by_cases h:(cC kvs k).isSome=true
 ·rw[if_pos h];by_cases e:x=k
  ·subst e;rw[if_pos rfl]
   induction kvs with
   |nil=>cases h
   |cons p kvs ih =>
    by_cases c:p.1=x
    ·simp[cC,gf,c]
    ·have h':(cC kvs x).isSome=true:=by simpa[cC,gf,c] using h
     have:=ih h';simpa[cC,gf,c] using this
  ·rw[if_neg e];clear h
   induction kvs with
   |nil=>rfl
   |cons p kvs ih =>
    by_cases c:p.1=k
    ·have:¬(k=x):=fun z=>e z.symm;have c':¬(p.1=x):=fun z=>this (c▸z);simpa[cC,gf,c,this,c'] using ih
    ·by_cases c':p.1=x
     ·have c2:(if p.1=k then (p.1,d) else p)=p:=if_neg c;show cC ((if p.1=k then (p.1,d) else p)::kvs.map fun p=>if p.1=k then (p.1,d) else p) x=_;rw[c2];simp[cC,gf,c']
     ·simpa[cC,gf,c,c'] using ih
 ·rw[if_neg h];have hn:cC kvs k=none:=by cases z:cC kvs k <;> simp_all
  by_cases e:x=k
  ·subst e;rw[if_pos rfl];unfold cC at hn ⊢;rw[List.find?_append];cases z:kvs.find? fun p=>decide (p.1=x) with
   |some p=>rw[z]at hn;cases hn
   |none=>simp
  ·rw[if_neg e];unfold cC;rw[List.find?_append];cases z:kvs.find? fun p=>decide (p.1=x) with
   |some p=>simp
   |none=>simp[de e,show ¬k=x from fun w=>e w.symm]
theorem afU{S:KL}{st c:List Int}{kvs:List (List Int×D)}(hs:Up st)(hc:Pair c)(pr:∀x∈S,Pair x)(lt:∀x∈S,yK c x)(h:wu S st kvs) :
  ∃n:Nat,(cC kvs (ad c st)).getD (.int 0)=.int n/\wu (c::S) st (mz kvs c (.int (n + 1))):=by
 have hcS:c∉S:=fun z=>uM (lt c z);have key:∃n:Nat,(cC kvs (ad c st)).getD (.int 0)=.int n/\Js (c::S) st c (n + 1):=by
  by_cases hy:ad c st∈S
  ·obtain⟨n,e,r1,r2⟩:=(h (ad c st)).1 hy;refine⟨n,by rw[e];rfl,fun j hj=>?_,?_⟩
   ·cases j with
    |zero=>rw[oK hc];exact dA
    |succ j=>rw[<- Lx];exact dQ _ (r1 j (by lia))
   ·intro z;rcases bz.mp z with z|z
    ·have:=afT (c:=c) hs n;rw[z]at this;exact uM this
    ·rw[<- Lx]at z;exact r2 z
  ·refine⟨0,by rw[(h (ad c st)).2 hy];rfl,fun j hj=>?_,?_⟩
   ·obtain rfl:j=0:=by lia
    rw[oK hc];exact dA
   ·intro z;rcases bz.mp z with z|z
    ·have:=afT (c:=c) hs 0;rw[z]at this;exact uM this
    ·rw[<- Lx,oK (uK _ _)]at z;exact hy z
 obtain⟨n,e,r⟩:=key;refine⟨n,e,fun x=>⟨fun hx=>?_,fun hx=>?_⟩⟩
 ·rw[Ly];by_cases ex:x=c
  ·subst ex;rw[if_pos rfl];exact⟨n + 1,by simp,r⟩
  ·rw[if_neg ex];have hxS:=(bz.mp hx).resolve_left ex;obtain⟨m,e',r1,r2⟩:=(h x).1 hxS;refine⟨m,e',fun j hj=>dQ _ (r1 j hj),fun z=>?_⟩;rcases bz.mp z with z|z
   ·have:=aqx hs (pr x hxS) (lt x hxS) m;rw[z]at this;exact uM this
   ·exact r2 z
 ·rw[Ly,if_neg (fun z:x=c=>hx (by rw[z];exact dA))];exact(h x).2 fun z=>hx (dQ _ z)
theorem anS{O:KL}{st:List Int}(hO:∀x∈O,Pair x)(hs:Up st){len:List Int->Nat}(hl:∀x∈O,Js O st x (len x)):∀(k:Nat) (t:List Int),t∈O->(O.filter fun x=>decide (c0 x < c0 t∨(c0 x=c0 t/\c1 x < c1 t))).length=k->∃h∈O,mi h st∉O/\∃j,j < len h/\go st h j=t:=by
 intro k
 induction k using Nat.strongRecOn with
 |ind k ih =>
  intro t ht hk;have pos:∀x∈O,0 < len x:=fun x hx=>wo fun z=>(hl x hx).2 (by rw[z,oK (hO x hx)];exact hx);by_cases c:mi t st∈O
  ·have hlt:yK (mi t st) t:=by
    have hs':0 < c0 st∨(0=c0 st/\0 < c1 st):=hs;show c0 t - c0 st < c0 t∨(c0 t - c0 st=c0 t/\c1 t - c1 st < c1 t)
    lia
   have less:(O.filter fun x=>decide (c0 x < c0 (mi t st)∨(c0 x=c0 (mi t st)/\c1 x < c1 (mi t st)))).length < k:=by
    rw[<- hk];have sub:(O.filter fun x=>decide (c0 x < c0 (mi t st)∨(c0 x=c0 (mi t st)/\c1 x < c1 (mi t st))))=(O.filter fun x=>decide (c0 x < c0 t∨(c0 x=c0 t/\c1 x < c1 t))).filter fun x=>decide (c0 x < c0 (mi t st)∨(c0 x=c0 (mi t st)/\c1 x < c1 (mi t st))):=by rw[List.filter_filter];refine List.filter_congr fun x _=>?_;rw[ym];simp only[k4,decide_eq_true_eq];refine⟨fun z=>⟨z,?_⟩,fun z=>z.1⟩;have:yK x t:=Yd (show yK x (mi t st) from z) hlt;exact this
    rw[sub];refine List.length_filter_lt_length_iff_exists.mpr ⟨mi t st,e_.mpr ⟨c,?_⟩,?_⟩
    ·exact decide_eq_true (show yK (mi t st) t from hlt)
    ·simp
   obtain⟨h,hh,hm,j,hj,e⟩:=ih _ less (mi t st) c rfl;have e2:go st h (j + 1)=t:=by
    have h0:c0 h + j * c0 st=c0 t - c0 st:=congrArg c0 e;have h1:c1 h + j * c1 st=c1 t - c1 st:=congrArg c1 e;rw[lU (hO t ht)];show [c0 h + ((j + 1:Nat):Int) * c0 st,c1 h + ((j + 1:Nat):Int) * c1 st]=_;have e:∀a:Int,((j + 1:Nat):Int) * a=j * a + a:=fun a=>by rw[Int.natCast_succ,Int.add_mul,Int.one_mul]
    rw[e,e];generalize (j:Int) * c0 st=A at *;generalize (j:Int) * c1 st=B at *;congr 1
    ·lia
    ·congr 1;lia
   refine⟨h,hh,hm,j + 1,?_,e2⟩;rcases nV (j + 1) (len h) with z|z
   ·exact z
   ·have:j + 1=len h:=by lia
    exact((hl h hh).2 (by rw[<- this,e2];exact ht)).elim
  ·exact⟨t,ht,c,0,pos t ht,oK (hO t ht)⟩
theorem afV{A O:KL}{st:List Int}(hO:∀x∈O,Pair x)(hs:Up st){len:List Int->Nat}(hl:∀x∈O,Js O st x (len x))(p:List Int) :
  (∀h∈O,mi h st∉O->∀j,j < len h->go st (ad p h) j∈A)↔∀t∈O,ad p t∈A:=by
 constructor
 ·intro H t ht;obtain⟨h,hh,hm,j,hj,e⟩:=anS hO hs hl _ t ht rfl;rw[<- e,<- alA];exact H h hh hm j hj
 ·intro H h hh hm j hj;rw[alA];exact H _ ((hl h hh).1 j hj)
theorem anT{A:KL}{st x:List Int}{kvs:List (List Int×D)}{n:Nat}(hn:0 < n)(hx:Pair x)(h:wu A st kvs):∃m:Nat,(cC kvs x).getD (.int 0)=.int m/\(n<=m↔∀j,j < n->go st x j∈A):=by
 by_cases hA:x∈A
 ·obtain⟨m,e,r1,r2⟩:=(h x).1 hA;refine⟨m,by rw[e];rfl,fun hle j hj=>r1 j (by lia),fun H=>?_⟩;rcases nV m n with z|z
  ·exact(r2 (H m z)).elim
  ·exact z
 ·refine⟨0,by rw[(h x).2 hA];rfl,fun hle=>by lia,fun H=>?_⟩;have:=H 0 hn;rw[oK hx]at this;exact(hA this).elim
end Vl
namespace Vl
open PySem PySem.Spec PySem.Calls PySem.W L2
theorem aqy{K:aw}{f c P:ab}{oc:aa}{od an:Option ab}{sl:Array (Option aa)}{x:Str}{st:bj}{kV doc pm ct:aa}(a:cw K bS x=some (some (.ref f)))(b:K.lookup f=some ⟨oc,od,.func (gi x x (bK st) (bG st) (aG st) .none kV doc pm an (.ref c) ct),sl⟩)(e:i4 K c P=true):∃c,i4 K c P=true:=⟨c,e⟩
end Vl
namespace Lz
open PySem PySem.Spec PySem.Calls PySem.W L2 Vl
abbrev yY:List Str:=["cell","step"]
abbrev y4:List Str:=["shape","piece"]
abbrev y7:List Str:=["one","other"]
abbrev y8:List Str:=["shape","piece","cell","places","whole"]
abbrev y9:List Str:=["script","one","number","other","words","step","first","second","cell","shape"]
abbrev y_:List Str:=["piece","number","way","at","row","column","steps"]
abbrev zb:List Str:=["shape","step"]
abbrev zd:List Str:=["shape","piece","cell"]
abbrev ze:List Str:=["piece","stride","lengths","heads"]
abbrev zg:List Str:=["cells","piece","stride","lengths","places","head","length"]
abbrev zh:List Str:=["one","other","sums","step"]
abbrev zi:List Str:=["piece","cell"]
abbrev zk:List Str:=["shape","piece","place"]
abbrev zo:List Str:=["place","shape","piece"]
abbrev zr:List Str:=["piece","met","place","stride"]
abbrev zt:List Str:=["row","column"]
abbrev zw:List Str:=["one","other","places","step","paper"]
abbrev zz:List Str:=["one","other","step"]
abbrev zC:List Str:=["cells","stride","lengths","cell"]
abbrev zD:List Str:=["number","way","many","steps","k","at","step","row","column"]
abbrev zI:List Str:=["number","way","row","column","by"]
abbrev zS:List Str:=["number","one","other","way","base","cells","laid_v","k","at","which","step","more"]
def wA(i:Nat):bj:=PySem.Challenge.pw_edgemoss_k33_whole_alike_only_when_moved.main.body.getD i (.Pass ⟨0,0,0,0⟩)
abbrev iG:bj:=wA 1
abbrev ju:bj:=wA 2
abbrev pZ:bj:=wA 3
abbrev jj:bj:=wA 4
abbrev zA:bj:=wA 7
abbrev nD:bj:=wA 8
abbrev qb:bj:=wA 6
abbrev qU:bj:=wA 9
abbrev jk:bj:=wA 11
abbrev zB:bj:=wA 12
abbrev kE:bj:=wA 13
abbrev iH:bj:=wA 15
abbrev gk:bj:=wA 16
abbrev uN:bj:=wA 18
abbrev kI:bj:=wA 19
abbrev dg:bj:=wA 25
abbrev gH:bj:=wA 26
abbrev dh:bj:=wA 27
abbrev dw:bj:=wA 24
abbrev uO:bj:=wA 21
abbrev uP:bj:=wA 22
abbrev qd:bj:=wA 23
abbrev jw:bj:=wA 29
abbrev jx:bj:=wA 30
abbrev iI:bj:=wA 31
abbrev jy:bj:=wA 32
abbrev jz:bj:=wA 33
abbrev jA:bj:=wA 34
abbrev kJ:bj:=wA 35
abbrev dD:bj:=wA 36
abbrev qe:bj:=wA 37
structure Txt (K:Frag)(mg:Str->Option aa) :Prop where
 alB:mg "abs"=none
 cX:mg "divmod"=none
 Sd:mg "len"=none
 Ye:mg "list"=none
 Sg:mg "max"=none
 afW:mg "min"=none
 xZ:mg "range"=none
 Yg:mg "reversed"=none
 afX:mg "set"=none
 tE:mg "sorted"=none
 qW:mg "tuple"=none
section
variable{P:aE}{w:az}{K:Frag}{mg:Str->Option aa}{base:Heap}
theorem Gq:bR yY yY (aG iG):=⟨rfl,rfl,rfl,by decide+kernel,rfl,by decide+kernel,by decide+kernel⟩
def yc:aK->Ou :=
  dz (fA (ao (bJ dU (bJ fO (aD 0) (fC (.int 0))) (bJ fO (aD 1) (fC (.int 0)))) (ao (bJ dU (bJ fO (aD 0) (fC (.int 1))) (bJ fO (aD 1) (fC (.int 1)))) aU)) dF)
def cZ:List D->Rs D:=fun ds=>dZ (yc (aZ yY ds))
theorem Gr(T:Txt K mg ) {f:ab}{fd:cq}(F:ur K "cell_moved" "cell_moved" iG f fd) (hm:mg "cell_moved"=some (.ref f)) :fV P w K mg base "cell_moved" 1 2 cZ :=
 cW (k:=0) (g:=yc) F hm Gq (fun _ _ _ _ _ _ us hl=>match us,hl with|[_,_],_=>rfl) fun cdv A outer s H E B hr hx =>
  bB (bY (cA (ak (eE (cg (sv 0) au) (cg (sv 1) au)) (ak (eE (cg (sv 0) au) (cg (sv 1) au)) aJ))))
theorem LK:bR yY yY (aG ju):=⟨rfl,rfl,rfl,by decide+kernel,rfl,by decide+kernel,by decide+kernel⟩
def Av:aK->Ou :=
  dz (fA (ao (bJ jf (bJ fO (aD 0) (fC (.int 0))) (bJ fO (aD 1) (fC (.int 0)))) (ao (bJ jf (bJ fO (aD 0) (fC (.int 1))) (bJ fO (aD 1) (fC (.int 1)))) aU)) dF)
def cO:List D->Rs D:=fun ds=>dZ (Av (aZ yY ds))
theorem LQ(T:Txt K mg ) {f:ab}{fd:cq}(F:ur K "cell_less" "cell_less" ju f fd) (hm:mg "cell_less"=some (.ref f)) :fV P w K mg base "cell_less" 1 2 cO :=
 cW (k:=0) (g:=Av) F hm LK (fun _ _ _ _ _ _ us hl=>match us,hl with|[_,_],_=>rfl) fun cdv A outer s H E B hr hx =>
  bB (bY (cA (ak (fQ (cg (sv 0) au) (cg (sv 1) au)) (ak (fQ (cg (sv 0) au) (cg (sv 1) au)) aJ))))
theorem abU:bR ["cells"] ["cells"] (aG pZ):=⟨rfl,rfl,rfl,by decide+kernel,rfl,by decide+kernel,by decide+kernel⟩
def Ep:aK->Ou :=
  dz (fA (ao (pH (fK (aD 0))) aU) jY)
def nZ:List D->Rs D:=fun ds=>dZ (Ep (aZ ["cells"] ds))
theorem abV(T:Txt K mg ) {f:ab}{fd:cq}(F:ur K "rising" "rising" pZ f fd) (hm:mg "rising"=some (.ref f)) :fV P w K mg base "rising" 1 1 nZ :=
 cW (k:=0) (g:=Ep) F hm abU (fun _ _ _ _ _ _ us hl=>match us,hl with|[_],_=>rfl) fun cdv A outer s H E B hr hx =>
  bB (bY (nW T.qW (Xk rfl T.tE (Xj rfl (dR hr) T.afX (sv 0)))))
theorem tH:bR zh y7 (aG jj):=⟨rfl,rfl,rfl,by decide+kernel,rfl,by decide+kernel,by decide+kernel⟩
def yg:aK->Rs D :=
  fA (ao (aD 0) (ao (aD 1) aU)) (bA 2 cZ)
def mR:aK->Ou :=
  Ji 2 (cM (aP 0) (fun _=>.ok true) yg 1 [3] (fL (aD 0) Ga))
def qX:aK->Ou :=
  bV (abC 2 aU)
  (bV (su (Ii (aP 3) mR (aD 1)))
  (Gn 2 (dz (fA (ao (aD 2) aU) (bA 1 nZ)))))
def jl:List D->Rs D:=fun ds=>dZ (qX (aZ zh ds))
theorem Sh(T:Txt K mg ) {f:ab}{fd:cq}(F:ur K "all_sums" "all_sums" jj f fd) (hm:mg "all_sums"=some (.ref f)) (cQ:fV P w K mg base "cell_moved" 1 2 cZ) (qg:fV P w K mg base "rising" 1 1 nZ):fV P w K mg base "all_sums" 2 2 jl :=
 cW (k:=1) (g:=qX) F hm tH (fun _ _ _ _ _ _ us hl=>match us,hl with|[_,_],_=>rfl) fun cdv A outer s H E B hr hx =>
  aO (aeQ 2 tH.nd aJ)
  (aO (pC (Kf i5 rfl (sv 1) (rg 3 tH.nd) (bB (ajw 2 (qH (fZ (aG jj) zh (N:=yY) (nt:=1) (caps:=[3]) (by decide+kernel)) rfl (by decide+kernel) (qG (sv 0)) dJ (fun s₀ H₀ C ex pins B1=>rg 0 (show gE (["cell","step"]:List Str) by decide)) (fun s₀ H₀ C ex pins B1=>bw cQ (hr.mono (by decide)) dI (ak (sv 0) (ak (sv 1) aJ))))))))
  (Lf 2 (bB (bY (bw qg (hr.mono (by decide)) hx (ak (sv 2) aJ))))))
theorem ajN:bR y7 y7 (aG zA):=⟨rfl,rfl,rfl,by decide+kernel,rfl,by decide+kernel,by decide+kernel⟩
def LR:aK->Ou :=
  bV (rK (vH (fT (bJ fO (aD 0) (fC (.int 1)))) (fT (bJ fO (aD 1) (fC (.int 1))))) rNo ux)
  (bV (rK (fT (bJ fO (aD 0) (fC (.int 1)))) rNo ux)
  (bV (rK (fT (bJ fO (aD 1) (fC (.int 1)))) (dz (fA (ao (fA (ao (pH (fKK anz (fK (bJ fO (aD 0) (fC (.int 0)))) (fK (bJ fO (aD 1) (fC (.int 0)))))) aU) jY) (ao (fC (.bl false)) aU)) dF)) ux)
  rNo))
def wB:List D->Rs D:=fun ds=>dZ (LR (aZ y7 ds))
theorem ajO(T:Txt K mg ) {f:ab}{fd:cq}(F:ur K "both" "both" zA f fd) (hm:mg "both"=some (.ref f)) :fV P w K mg base "both" 1 2 wB :=
 cW (k:=0) (g:=LR) F hm ajN (fun _ _ _ _ _ _ us hl=>match us,hl with|[_,_],_=>rfl) fun cdv A outer s H E B hr hx =>
  aO (iM (adC (JZ (vI (cg (sv 0) au)) (Ce (vI (cg (sv 1) au))))) (bB aea) eF)
  (aO (iM (vI (cg (sv 0) au)) (bB aea) eF)
  (aO (iM (vI (cg (sv 1) au)) (bB (bY (cA (ak (nW T.qW (Xx rfl T.tE (anA rfl (dR hr) (Xj rfl (dR hr) T.afX (cg (sv 0) au)) (Xj rfl (dR hr) T.afX (cg (sv 1) au))))) (ak lK aJ))))) eF)
  (bB aea)))
theorem Yh:bR ["shape"] ["shape"] (aG nD):=⟨rfl,rfl,rfl,by decide+kernel,rfl,by decide+kernel,by decide+kernel⟩
def Jt:aK->Ou :=
  dz (fA (ao (bJ fO (aD 0) (fC (.int 0))) (ao (Qs (bJ fO (aD 0) (fC (.int 1)))) aU)) dF)
def nF:List D->Rs D:=fun ds=>dZ (Jt (aZ ["shape"] ds))
theorem Yi(T:Txt K mg ) {f:ab}{fd:cq}(F:ur K "outside" "outside" nD f fd) (hm:mg "outside"=some (.ref f)) :fV P w K mg base "outside" 1 1 nF :=
 cW (k:=0) (g:=Jt) F hm Yh (fun _ _ _ _ _ _ us hl=>match us,hl with|[_],_=>rfl) fun cdv A outer s H E B hr hx =>
  bB (bY (cA (ak (cg (sv 0) au) (ak (amB (cg (sv 0) au)) aJ))))
theorem abW:bR y7 y7 (aG qb):=⟨rfl,rfl,rfl,by decide+kernel,rfl,by decide+kernel,by decide+kernel⟩
def yh:aK->Ou :=
  dz (bJ wY (fA (ao (aD 0) (ao (fA (ao (aD 1) aU) (bA 1 nF)) aU)) (bA 2 wB)) (fA (ao (fA aU dF) (ao (fC (.bl false)) aU)) dF))
def tL:List D->Rs D:=fun ds=>dZ (yh (aZ y7 ds))
theorem abX(T:Txt K mg ) {f:ab}{fd:cq}(F:ur K "within" "within" qb f fd) (hm:mg "within"=some (.ref f)) (zE:fV P w K mg base "both" 1 2 wB) (nG:fV P w K mg base "outside" 1 1 nF):fV P w K mg base "within" 2 2 tL :=
 cW (k:=1) (g:=yh) F hm abW (fun _ _ _ _ _ _ us hl=>match us,hl with|[_,_],_=>rfl) fun cdv A outer s H E B hr hx =>
  bB (bY (adX (dR hr) (bw zE (hr.mono (by decide)) hx (ak (sv 0) (ak (bw nG (hr.mono (by decide)) hx (ak (sv 1) aJ)) aJ))) (cA (ak (cA aJ) (ak lK aJ)))))
theorem afY:bR zb zb (aG qU):=⟨rfl,rfl,rfl,by decide+kernel,rfl,by decide+kernel,by decide+kernel⟩
def Ju:aK->Rs D :=
  fA (ao (aD 0) (ao (aD 1) aU)) (bA 2 cZ)
def Cr:aK->Ou :=
  dz (fA (ao (fA (ao (cM (aP 0) (fun _=>.ok true) Ju 1 [1] (fL (bJ fO (aD 0) (fC (.int 0))) Ga)) aU) jY) (ao (bJ fO (aD 0) (fC (.int 1))) aU)) dF)
def yj:List D->Rs D:=fun ds=>dZ (Cr (aZ zb ds))
theorem afZ(T:Txt K mg ) {f:ab}{fd:cq}(F:ur K "moved" "moved" qU f fd) (hm:mg "moved"=some (.ref f)) (cQ:fV P w K mg base "cell_moved" 1 2 cZ):fV P w K mg base "moved" 2 2 yj :=
 cW (k:=1) (g:=Cr) F hm afY (fun _ _ _ _ _ _ us hl=>match us,hl with|[_,_],_=>rfl) fun cdv A outer s H E B hr hx =>
  bB (bY (cA (ak (nW T.qW (qH (fZ (aG qU) zb (N:=yY) (nt:=1) (caps:=[1]) (by decide+kernel)) rfl (by decide+kernel) (qG (cg (sv 0) au)) dJ (fun s₀ H₀ C ex pins B1=>rg 0 (show gE (["cell","step"]:List Str) by decide)) (fun s₀ H₀ C ex pins B1=>bw cQ (hr.mono (by decide)) dI (ak (sv 0) (ak (sv 1) aJ))))) (ak (cg (sv 0) au) aJ))))
theorem Sq:bR ["piece"] ["piece"] (aG jk):=⟨rfl,rfl,rfl,by decide+kernel,rfl,by decide+kernel,by decide+kernel⟩
def yp:aK->Rs D :=
  fA (ao (Gg (bJ fO (aD 0) (fC (.int 0)))) (ao (Gg (bJ fO (aD 0) (fC (.int 1)))) aU)) dF
def qY:aK->Ou :=
  dz (fA (ao (cM (aP 0) (fun _=>.ok true) yp 1 [] (fL (aD 0) Ga)) aU) (bA 1 nZ))
def jm:List D->Rs D:=fun ds=>dZ (qY (aZ ["piece"] ds))
theorem Ss(T:Txt K mg ) {f:ab}{fd:cq}(F:ur K "mirrored" "mirrored" jk f fd) (hm:mg "mirrored"=some (.ref f)) (qg:fV P w K mg base "rising" 1 1 nZ):fV P w K mg base "mirrored" 2 1 jm :=
 cW (k:=1) (g:=qY) F hm Sq (fun _ _ _ _ _ _ us hl=>match us,hl with|[_],_=>rfl) fun cdv A outer s H E B hr hx =>
  bB (bY (bw qg (hr.mono (by decide)) hx (ak (qH (fZ (aG jk) ["piece"] (N:=["step"]) (nt:=1) (caps:=[]) (by decide+kernel)) rfl (by decide+kernel) (qG (sv 0)) dJ (fun s₀ H₀ C ex pins B1=>rg 0 (show gE (["step"]:List Str) by decide)) (fun s₀ H₀ C ex pins B1=>cA (ak (Ko (cg (sv 0) au)) (ak (Ko (cg (sv 0) au)) aJ)))) aJ)))
theorem ajP:bR zi zi (aG zB):=⟨rfl,rfl,rfl,by decide+kernel,rfl,by decide+kernel,by decide+kernel⟩
def Ma:aK->Ou :=
  dz (fA (ao (fA (ao (aD 0) (ao (fC (.bl false)) aU)) dF) (ao (aD 1) aU)) (bA 2 yj))
def pI:List D->Rs D:=fun ds=>dZ (Ma (aZ zi ds))
theorem ajQ(T:Txt K mg ) {f:ab}{fd:cq}(F:ur K "laid" "laid" zB f fd) (hm:mg "laid"=some (.ref f)) (Mf:fV P w K mg base "moved" 2 2 yj):fV P w K mg base "laid" 3 2 pI :=
 cW (k:=2) (g:=Ma) F hm ajP (fun _ _ _ _ _ _ us hl=>match us,hl with|[_,_],_=>rfl) fun cdv A outer s H E B hr hx =>
  bB (bY (bw Mf (hr.mono (by decide)) hx (ak (cA (ak (sv 0) (ak lK aJ))) (ak (sv 1) aJ))))
theorem Sv:bR zd zd (aG kE):=⟨rfl,rfl,rfl,by decide+kernel,rfl,by decide+kernel,by decide+kernel⟩
def qZ:aK->Ou :=
  dz (fA (ao (fA (ao (aD 1) (ao (aD 2) aU)) (bA 2 pI)) (ao (aD 0) aU)) (bA 2 tL))
def oh:List D->Rs D:=fun ds=>dZ (qZ (aZ zd ds))
theorem Sw(T:Txt K mg ) {f:ab}{fd:cq}(F:ur K "whole_at" "whole_at" kE f fd) (hm:mg "whole_at"=some (.ref f)) (Er:fV P w K mg base "within" 2 2 tL) (rm:fV P w K mg base "laid" 3 2 pI):fV P w K mg base "whole_at" 4 3 oh :=
 cW (k:=3) (g:=qZ) F hm Sv (fun _ _ _ _ _ _ us hl=>match us,hl with|[_,_,_],_=>rfl) fun cdv A outer s H E B hr hx =>
  bB (bY (bw Er (hr.mono (by decide)) hx (ak (bw rm (hr.mono (by decide)) hx (ak (sv 1) (ak (sv 2) aJ))) (ak (sv 0) aJ))))
theorem Gs:bR zk zk (aG iH):=⟨rfl,rfl,rfl,by decide+kernel,rfl,by decide+kernel,by decide+kernel⟩
def mU:aK->Ou :=
  dz (bJ fO (fA (ao (fA (ao (aD 1) (ao (aD 2) aU)) (bA 2 pI)) (ao (fA (ao (aD 0) aU) (bA 1 nF)) aU)) (bA 2 wB)) (fC (.int 0)))
def jM:List D->Rs D:=fun ds=>dZ (mU (aZ zk ds))
theorem Gu(T:Txt K mg ) {f:ab}{fd:cq}(F:ur K "lacking_at" "lacking_at" iH f fd) (hm:mg "lacking_at"=some (.ref f)) (zE:fV P w K mg base "both" 1 2 wB) (nG:fV P w K mg base "outside" 1 1 nF) (rm:fV P w K mg base "laid" 3 2 pI):fV P w K mg base "lacking_at" 4 3 jM :=
 cW (k:=3) (g:=mU) F hm Gs (fun _ _ _ _ _ _ us hl=>match us,hl with|[_,_,_],_=>rfl) fun cdv A outer s H E B hr hx =>
  bB (bY (cg (bw zE (hr.mono (by decide)) hx (ak (bw rm (hr.mono (by decide)) hx (ak (sv 1) (ak (sv 2) aJ))) (ak (bw nG (hr.mono (by decide)) hx (ak (sv 0) aJ)) aJ))) au))
theorem tM:bR y8 zd (aG gk):=⟨rfl,rfl,rfl,by decide+kernel,rfl,by decide+kernel,by decide+kernel⟩
def yq:aK->Rs D :=
  fA (ao (aD 1) (ao (aD 0) aU)) (bA 2 cO)
def yr:aK->Rs D :=
  aD 0
def yt:aK->Rs Bool :=
  fT (fA (ao (aD 1) (ao (aD 2) (ao (aD 0) aU))) (bA 3 oh))
def yu:aK->Rs D :=
  fA (ao (aD 0) (ao (bJ fO (fA (ao (aD 1) (ao (aD 2) (ao (aD 0) aU))) (bA 3 jM)) (fC (.int 0))) aU)) dF
def kO:aK->Ou :=
  bV (ig 3 (cM (aP 0) (fun _=>.ok true) yq 1 [2] (fL (aD 1) Ga)))
  (bV (ig 4 (cM (aP 0) yt yr 1 [0,1] (fL (aD 3) asL)))
  (bV (rK (fT (bJ gGt (fA (ao (aD 4) aU) Bk) (fC (.int 0)))) (dz (fA (ao (fC (.str "stays")) (ao (fA (ao (aD 4) aU) Jh) aU)) dF)) ux)
  (dz (fA (ao (fC (.str "goes")) (ao (cM (aP 0) (fun _=>.ok true) yu 1 [0,1] (fL (aD 3) asL)) aU)) dF))))
def jo:List D->Rs D:=fun ds=>dZ (kO (aZ y8 ds))
theorem Sx(T:Txt K mg ) {f:ab}{fd:cq}(F:ur K "why_left" "why_left" gk f fd) (hm:mg "why_left"=some (.ref f)) (cI:fV P w K mg base "cell_less" 1 2 cO) (wC:fV P w K mg base "whole_at" 4 3 oh) (rA:fV P w K mg base "lacking_at" 4 3 jM):fV P w K mg base "why_left" 5 3 jo :=
 cW (k:=4) (g:=kO) F hm tM (fun _ _ _ _ _ _ us hl=>match us,hl with|[_,_,_],_=>rfl) fun cdv A outer s H E B hr hx =>
  aO (Cm 3 tM.nd (fZ (aG gk) y8 (N:=["step","cell"]) (nt:=1) (caps:=[2]) (by decide+kernel)) rfl (by decide+kernel) (qG (sv 1)) dJ (fun s₀ H₀ C ex pins B1=>rg 0 (show gE (["step","cell"]:List Str) by decide)) (fun s₀ H₀ C ex pins B1=>bw cI (hr.mono (by decide)) dI (ak (sv 1) (ak (sv 0) aJ))))
  (aO (zm 4 tM.nd (fZ (aG gk) y8 (N:=zo) (nt:=1) (caps:=[0,1]) (by decide+kernel)) rfl (by decide+kernel) (wZ (sv 3)) dJ (fun s₀ H₀ C ex pins B1=>rg 0 (show gE (["place","shape","piece"]:List Str) by decide)) (fun s₀ H₀ C ex pins B1=>vI (bw wC (hr.mono (by decide)) dI (ak (sv 1) (ak (sv 2) (ak (sv 0) aJ))))) (fun s₀ H₀ C ex pins B1=>sv 0))
  (aO (iM (Qy (Df T.Sd (sv 4)) au) (bB (bY (cA (ak vG (ak (ajs rfl (dR hr) T.afW (sv 4)) aJ))))) eF)
  (bB (bY (cA (ak vG (ak (qH (fZ (aG gk) y8 (N:=zo) (nt:=1) (caps:=[0,1]) (by decide+kernel)) rfl (by decide+kernel) (wZ (sv 3)) dJ (fun s₀ H₀ C ex pins B1=>rg 0 (show gE (["place","shape","piece"]:List Str) by decide)) (fun s₀ H₀ C ex pins B1=>cA (ak (sv 0) (ak (cg (bw rA (hr.mono (by decide)) dI (ak (sv 1) (ak (sv 2) (ak (sv 0) aJ)))) au) aJ)))) aJ)))))))
theorem yw:bR zw y7 (aG uN):=⟨rfl,rfl,rfl,by decide+kernel,rfl,by decide+kernel,by decide+kernel⟩
def kW:aK->Ou :=
  bV (ig 4 (fA (ao (fA (ao (aD 0) (ao (fC (.bl false)) aU)) dF) (ao (aD 1) (ao (aD 3) aU))) (bA 3 jo)))
  (bV (rK (fT (bJ wY (bJ fO (aD 4) (fC (.int 0))) (fC (.str "goes")))) (dz (fA (ao (fC (.str "parted")) (ao (aD 3) aU)) dF)) ux)
  (Xm 2 (bJ fO (aD 4) (fC (.int 1)))))
def Cu:aK->Ou :=
  bV (abC 2 aU)
  (bV (su (Ii (aP 3) kW (aD 0)))
  (Gn 2 (dz (fA (ao (fC (.str "within")) (ao (aD 2) aU)) dF))))
def uQ:List D->Rs D:=fun ds=>dZ (Cu (aZ zw ds))
theorem aga(T:Txt K mg ) {f:ab}{fd:cq}(F:ur K "sifts" "sifts" uN f fd) (hm:mg "sifts"=some (.ref f)) (wD:fV P w K mg base "why_left" 5 3 jo):fV P w K mg base "sifts" 6 2 uQ :=
 cW (k:=5) (g:=Cu) F hm yw (fun _ _ _ _ _ _ us hl=>match us,hl with|[_,_],_=>rfl) fun cdv A outer s H E B hr hx =>
  aO (aeQ 2 yw.nd aJ)
  (aO (pC (Kf i5 rfl (sv 0) (rg 3 yw.nd) (aO (gP 4 yw.nd (bw wD (hr.mono (by decide)) dI (ak (cA (ak (sv 0) (ak lK aJ))) (ak (sv 1) (ak (sv 3) aJ)))))
  (aO (iM (Al (dR hr) (cg (sv 4) au) vG) (bB (bY (cA (ak vG (ak (sv 3) aJ))))) eF)
  (bB (anm 2 (cg (sv 4) au)))))))
  (Lf 2 (bB (bY (cA (ak vG (ak (sv 2) aJ)))))))
theorem Aw:bR zz y7 (aG kI):=⟨rfl,rfl,rfl,by decide+kernel,rfl,by decide+kernel,by decide+kernel⟩
def rB:aK->Ou :=
  bV (ig 2 (fA (ao (bJ fO (aD 1) (fC (.int 0))) (ao (bJ fO (aD 0) (fC (.int 0))) aU)) (bA 2 cO)))
  (bV (rK (fT (bJ wY (bJ fO (fA (ao (aD 0) (ao (aD 2) aU)) (bA 2 pI)) (fC (.int 0))) (aD 1))) (dz (aD 2)) ux)
  (dz (fC .non)))
def ou:List D->Rs D:=fun ds=>dZ (rB (aZ zz ds))
theorem Sy(T:Txt K mg ) {f:ab}{fd:cq}(F:ur K "moved_by" "moved_by" kI f fd) (hm:mg "moved_by"=some (.ref f)) (cI:fV P w K mg base "cell_less" 1 2 cO) (rm:fV P w K mg base "laid" 3 2 pI):fV P w K mg base "moved_by" 4 2 ou :=
 cW (k:=3) (g:=rB) F hm Aw (fun _ _ _ _ _ _ us hl=>match us,hl with|[_,_],_=>rfl) fun cdv A outer s H E B hr hx =>
  aO (gP 2 Aw.nd (bw cI (hr.mono (by decide)) hx (ak (cg (sv 1) au) (ak (cg (sv 0) au) aJ))))
  (aO (iM (Al (dR hr) (cg (bw rm (hr.mono (by decide)) hx (ak (sv 0) (ak (sv 2) aJ))) au) (sv 1)) (bB (bY (sv 2))) eF)
  (bB (bY JW)))
theorem iJ:bR zr ["piece"] (aG dg):=⟨rfl,rfl,rfl,by decide+kernel,rfl,by decide+kernel,by decide+kernel⟩
def gU:aK->Ou :=
  bV (ig 3 (fA (ao (bJ fO (aD 0) (aD 2)) (ao (bJ fO (aD 0) (bJ jf (aD 2) (fC (.int 1)))) aU)) (bA 2 cO)))
  (vm 1 (bJ dU (Ek 1 (ao (aD 3) (ao (fC (.int 0)) aU))) (fC (.int 1))) (aD 3))
def iY:aK->Ou :=
  bV (afk 1)
  (bV (su (Dg (aP 2) gU (ao (fC (.int 1)) (ao (fA (ao (aD 0) aU) Bk) aU))))
  (afK 1 (dz (RT [1] (fB (aD 1) wk) (bJ Gp (aD 1) (aD 0)) (fA (ao (fC (.int 0)) (ao (fC (.int 1)) aU)) dF)))))
def gD:List D->Rs D:=fun ds=>dZ (iY (aZ zr ds))
theorem zF(T:Txt K mg ) {f c0 t0:ab}{fd:cq}(F:anQ K "common_stride" dg f fd c0 t0 "common_stride.<locals>.<lambda>") (hm:mg "common_stride"=some (.ref f)) (cI:fV P w K mg base "cell_less" 1 2 cO):fV P w K mg base "common_stride" 2 1 gD :=
 ajM (k:=1) (g:=iY) F hm iJ (fun _ _ _ _ _ _ us hl=>match us,hl with|[_],_=>rfl) fun A outer s H E B hr hx =>
  aO (Li 1 iJ.nd)
  (aO (pC (adO i5 rfl T.xZ au (Df T.Sd (sv 0)) (rg 2 iJ.nd) (aO (gP 3 iJ.nd (bw cI (hr.mono (by decide)) dI (ak (cg (sv 0) (sv 2)) (ak (cg (sv 0) (fQ (sv 2) au)) aJ))))
  (bB (xT 1 (dR hr) (eE (aar 1 (dR hr) (ak (sv 3) (ak au aJ))) au) (sv 3))))))
  (aaD 1 (bB (bY (ajJ (caps:=[1]) (pn:="difference") (Nc:=["met"]) rfl rfl hr T.Sg rfl (afS rfl T.Ye (sv 1)) (cA (ak au (ak au aJ))) (fZ (aG dg) zr (N:=["difference","met"]) (nt:=1) (caps:=[1]) (by decide+kernel)) rfl (fun s₀ H₀ f₀ cd₀ B1=>afL (aqu hr) (sv 1) (sv 0)) F.mem rfl F.hd rfl rfl rfl rfl (fun _ _ _ _=>rfl))))))
theorem oA:bR zC ["cells","stride"] (aG gH):=⟨rfl,rfl,rfl,by decide+kernel,rfl,by decide+kernel,by decide+kernel⟩
def iZ:aK->Ou :=
  vm 2 (bJ dU (Ek 2 (ao (fA (ao (aD 3) (ao (aD 1) aU)) (bA 2 cZ)) (ao (fC (.int 0)) aU))) (fC (.int 1))) (aD 3)
def lH:aK->Ou :=
  bV (afk 2)
  (bV (su (aaA (aP 3) iZ (fL (aD 0) asV)))
  (afK 2 (dz (aD 2))))
def fG:List D->Rs D:=fun ds=>dZ (lH (aZ zC ds))
theorem Es(T:Txt K mg ) {f:ab}{fd:cq}(F:ur K "run_lengths" "run_lengths" gH f fd) (hm:mg "run_lengths"=some (.ref f)) (cQ:fV P w K mg base "cell_moved" 1 2 cZ):fV P w K mg base "run_lengths" 2 2 fG :=
 cW (k:=1) (g:=lH) F hm oA (fun _ _ _ _ _ _ us hl=>match us,hl with|[_,_],_=>rfl) fun cdv A outer s H E B hr hx =>
  aO (Li 2 oA.nd)
  (aO (pC (ajt i5 rfl (anL T.Yg (sv 0)) (rg 3 oA.nd) (bB (xT 2 (dR hr) (eE (aar 2 (dR hr) (ak (bw cQ (hr.mono (by decide)) dI (ak (sv 3) (ak (sv 1) aJ))) (ak au aJ))) au) (sv 3)))))
  (aaD 2 (bB (bY (sv 2)))))
theorem kY:bR ze ["piece","stride"] (aG dh):=⟨rfl,rfl,rfl,by decide+kernel,rfl,by decide+kernel,by decide+kernel⟩
def oM:aK->Rs D :=
  aD 0
def jN:aK->Rs Bool :=
  fT (bJ (abP true) (fA (ao (aD 0) (ao (aD 2) aU)) (bA 2 cO)) (aD 1))
def oN:aK->Rs D :=
  fA (ao (aD 0) (ao (bJ Gp (aD 1) (aD 0)) aU)) dF
def jc:aK->Ou :=
  bV (ig 2 (fA (ao (aD 0) (ao (aD 1) aU)) (bA 2 fG)))
  (bV (ig 3 (cM (aP 0) jN oM 1 [2,1] (fL (aD 0) Ga)))
  (dz (cM (aP 0) (fun _=>.ok true) oN 1 [2] (fL (aD 3) asL))))
def gF:List D->Rs D:=fun ds=>dZ (jc (aZ ze ds))
theorem zG(T:Txt K mg ) {f:ab}{fd:cq}(F:ur K "heads_of_runs" "heads_of_runs" dh f fd) (hm:mg "heads_of_runs"=some (.ref f)) (gJ:fV P w K mg base "run_lengths" 2 2 fG) (cI:fV P w K mg base "cell_less" 1 2 cO):fV P w K mg base "heads_of_runs" 3 2 gF :=
 cW (k:=2) (g:=jc) F hm kY (fun _ _ _ _ _ _ us hl=>match us,hl with|[_,_],_=>rfl) fun cdv A outer s H E B hr hx =>
  aO (gP 2 kY.nd (bw gJ (hr.mono (by decide)) hx (ak (sv 0) (ak (sv 1) aJ))))
  (aO (zm 3 kY.nd (fZ (aG dh) ze (N:=["step","lengths","stride"]) (nt:=1) (caps:=[2,1]) (by decide+kernel)) rfl (by decide+kernel) (qG (sv 0)) dJ (fun s₀ H₀ C ex pins B1=>rg 0 (show gE (["step","lengths","stride"]:List Str) by decide)) (fun s₀ H₀ C ex pins B1=>ajC (dR hr) (bw cI (hr.mono (by decide)) dI (ak (sv 0) (ak (sv 2) aJ))) (sv 1)) (fun s₀ H₀ C ex pins B1=>sv 0))
  (bB (bY (qH (fZ (aG dh) ze (N:=["head","lengths"]) (nt:=1) (caps:=[2]) (by decide+kernel)) rfl (by decide+kernel) (wZ (sv 3)) dJ (fun s₀ H₀ C ex pins B1=>rg 0 (show gE (["head","lengths"]:List Str) by decide)) (fun s₀ H₀ C ex pins B1=>cA (ak (sv 0) (ak (afL (dR hr) (sv 1) (sv 0)) aJ)))))))
theorem dB:bR zg ["cells","piece"] (aG dw):=⟨rfl,rfl,rfl,by decide+kernel,rfl,by decide+kernel,by decide+kernel⟩
def jO:aK->Rs D :=
  fA (ao (aD 0) (ao (bJ fO (aD 1) (fC (.int 0))) aU)) (bA 2 cO)
def oU:aK->Rs D :=
  aD 0
def jP:aK->Rs Bool :=
  fT (bJ gGe (RN 2 (ao (fA (ao (aD 0) (ao (aD 3) aU)) (bA 2 cZ)) (ao (fC (.int 0)) aU))) (aD 1))
def gW:aK->Ou :=
  ig 4 (cM (aP 0) jP oU 1 [6,3,5] (fL (aD 4) asL))
def jd:aK->Ou :=
  bV (ig 2 (fA (ao (aD 1) aU) (bA 1 gD)))
  (bV (ig 3 (fA (ao (aD 0) (ao (aD 2) aU)) (bA 2 fG)))
  (bV (ig 4 (cM (aP 0) (fun _=>.ok true) jO 1 [1] (fL (aD 0) Ga)))
  (bV (su (Qv (iT 2 (bW (aP 5) (bW (aP 6) jg))) gW (fA (ao (aD 1) (ao (aD 2) aU)) (bA 2 gF))))
  (dz (fA (ao (aD 4) aU) jY)))))
def dN:List D->Rs D:=fun ds=>dZ (jd (aZ zg ds))
theorem zH(T:Txt K mg ) {f:ab}{fd:cq}(F:ur K "places_within" "places_within" dw f fd) (hm:mg "places_within"=some (.ref f)) (mC:fV P w K mg base "common_stride" 2 1 gD) (gJ:fV P w K mg base "run_lengths" 2 2 fG) (cI:fV P w K mg base "cell_less" 1 2 cO) (cQ:fV P w K mg base "cell_moved" 1 2 cZ) (mD:fV P w K mg base "heads_of_runs" 3 2 gF):fV P w K mg base "places_within" 4 2 dN :=
 cW (k:=3) (g:=jd) F hm dB (fun _ _ _ _ _ _ us hl=>match us,hl with|[_,_],_=>rfl) fun cdv A outer s H E B hr hx =>
  aO (gP 2 dB.nd (bw mC (hr.mono (by decide)) hx (ak (sv 1) aJ)))
  (aO (gP 3 dB.nd (bw gJ (hr.mono (by decide)) hx (ak (sv 0) (ak (sv 2) aJ))))
  (aO (Cm 4 dB.nd (fZ (aG dw) zg (N:=["cell","piece"]) (nt:=1) (caps:=[1]) (by decide+kernel)) rfl (by decide+kernel) (qG (sv 0)) dJ (fun s₀ H₀ C ex pins B1=>rg 0 (show gE (["cell","piece"]:List Str) by decide)) (fun s₀ H₀ C ex pins B1=>bw cI (hr.mono (by decide)) dI (ak (sv 0) (ak (cg (sv 1) au) aJ))))
  (aO (pC (ZP i5 rfl (bw mD (hr.mono (by decide)) dI (ak (sv 1) (ak (sv 2) aJ))) (dO rfl (bh (rg 5 dB.nd) (bh (rg 6 dB.nd) cU))) (bB (zm 4 dB.nd (fZ (aG dw) zg (N:=["place","length","lengths","head"]) (nt:=1) (caps:=[6,3,5]) (by decide+kernel)) rfl (by decide+kernel) (wZ (sv 4)) dJ (fun s₀ H₀ C ex pins B1=>rg 0 (show gE (["place","length","lengths","head"]:List Str) by decide)) (fun s₀ H₀ C ex pins B1=>alh (ajD 2 (dR hr) (ak (bw cQ (hr.mono (by decide)) dI (ak (sv 0) (ak (sv 3) aJ))) (ak au aJ))) (sv 1)) (fun s₀ H₀ C ex pins B1=>sv 0)))))
  (bB (bY (nW T.qW (sv 4)))))))
theorem agb:bR y4 y4 (aG uO):=⟨rfl,rfl,rfl,by decide+kernel,rfl,by decide+kernel,by decide+kernel⟩
def uR:aK->Ou :=
  bV (rK (fT (bJ fO (aD 0) (fC (.int 1)))) (dz (fA (ao (fA (ao (bJ fO (aD 0) (fC (.int 0))) (ao (fA (ao (aD 1) aU) (bA 1 jm)) aU)) (bA 2 dN)) (ao (fC (.bl true)) aU)) dF)) ux)
  (dz (fA (ao (fA (ao (bJ fO (aD 0) (fC (.int 0))) (ao (aD 1) aU)) (bA 2 jl)) (ao (fC (.bl false)) aU)) dF))
def rC:List D->Rs D:=fun ds=>dZ (uR (aZ y4 ds))
theorem agc(T:Txt K mg ) {f:ab}{fd:cq}(F:ur K "grown" "grown" uO f fd) (hm:mg "grown"=some (.ref f)) (eG:fV P w K mg base "places_within" 4 2 dN) (kZ:fV P w K mg base "mirrored" 2 1 jm) (lg:fV P w K mg base "all_sums" 2 2 jl):fV P w K mg base "grown" 5 2 rC :=
 cW (k:=4) (g:=uR) F hm agb (fun _ _ _ _ _ _ us hl=>match us,hl with|[_,_],_=>rfl) fun cdv A outer s H E B hr hx =>
  aO (iM (vI (cg (sv 0) au)) (bB (bY (cA (ak (bw eG (hr.mono (by decide)) hx (ak (cg (sv 0) au) (ak (bw kZ (hr.mono (by decide)) hx (ak (sv 1) aJ)) aJ))) (ak lK aJ))))) eF)
  (bB (bY (cA (ak (bw lg (hr.mono (by decide)) hx (ak (cg (sv 0) au) (ak (sv 1) aJ))) (ak lK aJ)))))
theorem agd:bR y4 y4 (aG uP):=⟨rfl,rfl,rfl,by decide+kernel,rfl,by decide+kernel,by decide+kernel⟩
def uT:aK->Ou :=
  bV (rK (fT (bJ fO (aD 0) (fC (.int 1)))) (dz (fA (ao (fA (ao (bJ fO (aD 0) (fC (.int 0))) (ao (fA (ao (aD 1) aU) (bA 1 jm)) aU)) (bA 2 jl)) (ao (fC (.bl true)) aU)) dF)) ux)
  (dz (fA (ao (fA (ao (bJ fO (aD 0) (fC (.int 0))) (ao (aD 1) aU)) (bA 2 dN)) (ao (fC (.bl false)) aU)) dF))
def rD:List D->Rs D:=fun ds=>dZ (uT (aZ y4 ds))
theorem agf(T:Txt K mg ) {f:ab}{fd:cq}(F:ur K "eaten" "eaten" uP f fd) (hm:mg "eaten"=some (.ref f)) (lg:fV P w K mg base "all_sums" 2 2 jl) (kZ:fV P w K mg base "mirrored" 2 1 jm) (eG:fV P w K mg base "places_within" 4 2 dN):fV P w K mg base "eaten" 5 2 rD :=
 cW (k:=4) (g:=uT) F hm agd (fun _ _ _ _ _ _ us hl=>match us,hl with|[_,_],_=>rfl) fun cdv A outer s H E B hr hx =>
  aO (iM (vI (cg (sv 0) au)) (bB (bY (cA (ak (bw lg (hr.mono (by decide)) hx (ak (cg (sv 0) au) (ak (bw kZ (hr.mono (by decide)) hx (ak (sv 1) aJ)) aJ))) (ak lK aJ))))) eF)
  (bB (bY (cA (ak (bw eG (hr.mono (by decide)) hx (ak (cg (sv 0) au) (ak (sv 1) aJ))) (ak lK aJ)))))
theorem abY:bR y4 y4 (aG qd):=⟨rfl,rfl,rfl,by decide+kernel,rfl,by decide+kernel,by decide+kernel⟩
def qj:aK->Ou :=
  dz (fA (ao (fA (ao (aD 0) (ao (aD 1) aU)) (bA 2 rD)) (ao (aD 1) aU)) (bA 2 rC))
def jQ:List D->Rs D:=fun ds=>dZ (qj (aZ y4 ds))
theorem abZ(T:Txt K mg ) {f:ab}{fd:cq}(F:ur K "opened" "opened" qd f fd) (hm:mg "opened"=some (.ref f)) (Mi:fV P w K mg base "grown" 5 2 rC) (Mj:fV P w K mg base "eaten" 5 2 rD):fV P w K mg base "opened" 6 2 jQ :=
 cW (k:=5) (g:=qj) F hm abY (fun _ _ _ _ _ _ us hl=>match us,hl with|[_,_],_=>rfl) fun cdv A outer s H E B hr hx =>
  bB (bY (bw Mi (hr.mono (by decide)) hx (ak (bw Mj (hr.mono (by decide)) hx (ak (sv 0) (ak (sv 1) aJ))) (ak (sv 1) aJ))))
theorem Ml:bR ["script","k"] ["script","k"] (aG jw):=⟨rfl,rfl,rfl,by decide+kernel,rfl,by decide+kernel,by decide+kernel⟩
def oV:aK->Ou :=
  bV (rK (fT (bJ gLt (aD 1) (fA (ao (aD 0) aU) Bk))) (dz (bJ fO (aD 0) (aD 1))) ux)
  (dz (fC (.int 0)))
def lV:List D->Rs D:=fun ds=>dZ (oV (aZ ["script","k"] ds))
theorem Mp(T:Txt K mg ) {f:ab}{fd:cq}(F:ur K "_law_cell" "_law_cell" jw f fd) (hm:mg "_law_cell"=some (.ref f)) :fV P w K mg base "_law_cell" 1 2 lV :=
 cW (k:=0) (g:=oV) F hm Ml (fun _ _ _ _ _ _ us hl=>match us,hl with|[_,_],_=>rfl) fun cdv A outer s H E B hr hx =>
  aO (iM (apB (sv 1) (Df T.Sd (sv 0))) (bB (bY (cg (sv 0) (sv 1)))) eF)
  (bB (bY au))
theorem gn:bR ["cell","salt","one","number","j"] ["cell","salt"] (aG jx):=⟨rfl,rfl,rfl,by decide+kernel,rfl,by decide+kernel,by decide+kernel⟩
def gq:aK->Ou :=
  bV (ig 2 (bJ rP (bJ iD (bJ dU (bJ dU (bJ dU (aD 2) (bJ iD (bJ iD (fC (.int 15)) (aD 4)) (aD 4))) (bJ iD (fC (.int 31)) (aD 1))) (fC (.int 11))) (fC (.int 48271))) (fC (.int 2147483647))))
  (bV (ig 2 (bJ rP (bJ iD (aD 2) (aD 2)) (fC (.int 2147483629))))
  (ig 3 (bJ dU (bJ iD (aD 3) (fC (.int 998244353))) (bJ Dd (bJ rP (bJ iD (aD 2) (fC (.int 69621))) (fC (.int 2147483587))) (fC (.int 7))))))
def oW:aK->Ou :=
  bV (rK (fT (bJ gGe (aD 0) (bJ mj (fC (.int 10)) (fC (.int 18))))) (dz (bJ jf (aD 0) (bJ mj (fC (.int 10)) (fC (.int 18))))) ux)
  (bV (ig 2 (bJ rP (aD 0) (fC (.int 2147483629))))
  (bV (ig 3 (fC (.int 0)))
  (bV (su (wW (aP 4) gq (fC (.int 24))))
  (dz (aD 3)))))
def eU:List D->Rs D:=fun ds=>dZ (oW (aZ ["cell","salt","one","number","j"] ds))
theorem Mq(T:Txt K mg ) {f:ab}{fd:cq}(F:ur K "_law_deal" "_law_deal" jx f fd) (hm:mg "_law_deal"=some (.ref f)) :fV P w K mg base "_law_deal" 1 2 eU :=
 cW (k:=0) (g:=oW) F hm gn (fun _ _ _ _ _ _ us hl=>match us,hl with|[_,_],_=>rfl) fun cdv A outer s H E B hr hx =>
  aO (iM (alh (sv 0) (iQ au au)) (bB (bY (fQ (sv 0) (iQ au au)))) eF)
  (aO (gP 2 gn.nd (vL (sv 0) au))
  (aO (gP 3 gn.nd au)
  (aO (pC (Cg i5 rfl T.xZ au (rg 4 gn.nd) (aO (gP 2 gn.nd (vL (jG (eE (eE (eE (sv 2) (jG (jG au (sv 4)) (sv 4))) (jG au (sv 1))) au) au) au))
  (aO (gP 2 gn.nd (vL (jG (sv 2) (sv 2)) au))
  (bB (gP 3 gn.nd (eE (jG (sv 3) au) (Kc (vL (jG (sv 2) au) au) au))))))))
  (bB (bY (sv 3))))))
theorem bO:bR zD ["number"] (aG iI):=⟨rfl,rfl,rfl,by decide+kernel,rfl,by decide+kernel,by decide+kernel⟩
def iU:aK->Ou :=
  bV (jC (fA (ao (aD 0) (ao (fC (.int 25)) aU)) Bl) (iT 2 (bW (aP 0) (bW (aP 5) jg))))
  (bV (ig 6 (fA (ao (bJ jf (bJ Dd (aD 5) (fC (.int 5))) (fC (.int 2))) (ao (bJ jf (bJ rP (aD 5) (fC (.int 5))) (fC (.int 2))) aU)) dF))
  (bV (rK (fT (bJ wY (aD 1) (fC (.int 1)))) (bV (jC (fA (ao (aD 0) (ao (bJ dU (bJ iD (fC (.int 2)) (bJ mj (fC (.int 10)) (fC (.int 6)))) (fC (.int 1))) aU)) Bl) (iT 2 (bW (aP 0) (bW (aP 7) jg))))
  (bV (jC (fA (ao (aD 0) (ao (bJ dU (bJ iD (fC (.int 2)) (bJ mj (fC (.int 10)) (fC (.int 6)))) (fC (.int 1))) aU)) Bl) (iT 2 (bW (aP 0) (bW (aP 8) jg))))
  (ig 6 (fA (ao (bJ jf (aD 7) (bJ mj (fC (.int 10)) (fC (.int 6)))) (ao (bJ jf (aD 8) (bJ mj (fC (.int 10)) (fC (.int 6)))) aU)) dF)))) ux)
  (vm 3 (fC (.bl true)) (aD 6))))
def mV:aK->Ou :=
  bV (jC (fA (ao (aD 0) (ao (fC (.int 8)) aU)) Bl) (iT 2 (bW (aP 0) (bW (aP 1) jg))))
  (bV (jC (fA (ao (aD 0) (ao (fC (.int 5)) aU)) Bl) (iT 2 (bW (aP 0) (bW (aP 2) jg))))
  (bV (rK (fT (bJ wY (aD 1) (fC (.int 0)))) (jC (fA (ao (aD 0) (ao (fC (.int 12)) aU)) Bl) (iT 2 (bW (aP 0) (bW (aP 2) jg)))) ux)
  (bV (afk 3)
  (bV (su (wW (aP 4) iU (bJ dU (fC (.int 1)) (aD 2))))
  (dz (fA (ao (fA (ao (vX 3) aU) jY) (ao (aD 0) aU)) dF))))))
def eV:List D->Rs D:=fun ds=>dZ (mV (aZ zD ds))
theorem Gv(T:Txt K mg ) {f:ab}{fd:cq}(F:ur K "_law_piece" "_law_piece" iI f fd) (hm:mg "_law_piece"=some (.ref f)) :fV P w K mg base "_law_piece" 1 1 eV :=
 cW (k:=0) (g:=mV) F hm bO (fun _ _ _ _ _ _ us hl=>match us,hl with|[_],_=>rfl) fun cdv A outer s H E B hr hx =>
  aO (dW (cJ T.cX (sv 0) au) (dO rfl (bh (rg 0 bO.nd) (bh (rg 1 bO.nd) cU))))
  (aO (dW (cJ T.cX (sv 0) au) (dO rfl (bh (rg 0 bO.nd) (bh (rg 2 bO.nd) cU))))
  (aO (iM (Al (dR hr) (sv 1) au) (bB (dW (cJ T.cX (sv 0) au) (dO rfl (bh (rg 0 bO.nd) (bh (rg 2 bO.nd) cU))))) eF)
  (aO (Li 3 bO.nd)
  (aO (pC (Cg i5 rfl T.xZ (eE au (sv 2)) (rg 4 bO.nd) (aO (dW (cJ T.cX (sv 0) au) (dO rfl (bh (rg 0 bO.nd) (bh (rg 5 bO.nd) cU))))
  (aO (gP 6 bO.nd (cA (ak (fQ (Kc (sv 5) au) au) (ak (fQ (vL (sv 5) au) au) aJ))))
  (aO (iM (Al (dR hr) (sv 1) au) (aO (dW (cJ T.cX (sv 0) (eE (jG au (iQ au au)) au)) (dO rfl (bh (rg 0 bO.nd) (bh (rg 7 bO.nd) cU))))
  (aO (dW (cJ T.cX (sv 0) (eE (jG au (iQ au au)) au)) (dO rfl (bh (rg 0 bO.nd) (bh (rg 8 bO.nd) cU))))
  (bB (gP 6 bO.nd (cA (ak (fQ (sv 7) (iQ au au)) (ak (fQ (sv 8) (iQ au au)) aJ))))))) eF)
  (bB (xT 3 (dR hr) lK (sv 6))))))))
  (bB (bY (cA (ak (nW T.qW (Rw 3 rfl T.tE)) (ak (sv 0) aJ)))))))))
theorem Mr:bR zt zt (aG jy):=⟨rfl,rfl,rfl,by decide+kernel,rfl,by decide+kernel,by decide+kernel⟩
def oX:aK->Ou :=
  dz (fA (ao (fA (ao (Gg (bJ mj (fC (.int 10)) (fC (.int 12)))) (ao (fA (ao (bJ mj (fC (.int 10)) (fC (.int 12))) (ao (aD 0) aU)) aas) aU)) Rv) (ao (fA (ao (Gg (bJ mj (fC (.int 10)) (fC (.int 12)))) (ao (fA (ao (bJ mj (fC (.int 10)) (fC (.int 12))) (ao (aD 1) aU)) aas) aU)) Rv) aU)) dF)
def jB:List D->Rs D:=fun ds=>dZ (oX (aZ zt ds))
theorem Ms(T:Txt K mg ) {f:ab}{fd:cq}(F:ur K "_law_kept" "_law_kept" jy f fd) (hm:mg "_law_kept"=some (.ref f)) :fV P w K mg base "_law_kept" 1 2 jB :=
 cW (k:=0) (g:=oX) F hm Mr (fun _ _ _ _ _ _ us hl=>match us,hl with|[_,_],_=>rfl) fun cdv A outer s H E B hr hx =>
  bB (bY (cA (ak (Lj rfl T.Sg (Ko (iQ au au)) (aat rfl T.afW (iQ au au) (sv 0))) (ak (Lj rfl T.Sg (Ko (iQ au au)) (aat rfl T.afW (iQ au au) (sv 1))) aJ))))
theorem eZ:bR zI ["number"] (aG jz):=⟨rfl,rfl,rfl,by decide+kernel,rfl,by decide+kernel,by decide+kernel⟩
def oY:aK->Ou :=
  bV (jC (fA (ao (aD 0) (ao (fC (.int 5)) aU)) Bl) (iT 2 (bW (aP 0) (bW (aP 1) jg))))
  (bV (rK (fT (bJ gGt (aD 1) (fC (.int 1)))) (dz (fA (ao (fA (ao (fC (.int 0)) (ao (fC (.int 0)) aU)) dF) (ao (aD 0) aU)) dF)) ux)
  (bV (jC (fA (ao (aD 0) (ao (bJ fO (fA (ao (bJ dU (bJ iD (fC (.int 2)) (bJ mj (fC (.int 10)) (fC (.int 12)))) (fC (.int 1))) (ao (fC (.int 2)) aU)) vJ) (aD 1)) aU)) Bl) (iT 2 (bW (aP 0) (bW (aP 2) jg))))
  (bV (jC (fA (ao (aD 0) (ao (bJ fO (fA (ao (bJ dU (bJ iD (fC (.int 2)) (bJ mj (fC (.int 10)) (fC (.int 12)))) (fC (.int 1))) (ao (fC (.int 2)) aU)) vJ) (aD 1)) aU)) Bl) (iT 2 (bW (aP 0) (bW (aP 3) jg))))
  (bV (ig 4 (bJ fO (fA (ao (fC (.int 1)) (ao (bJ iD (fC (.int 2)) (bJ mj (fC (.int 10)) (fC (.int 12)))) aU)) vJ) (aD 1)))
  (dz (fA (ao (fA (ao (bJ jf (bJ iD (aD 2) (aD 4)) (bJ mj (fC (.int 10)) (fC (.int 12)))) (ao (bJ jf (bJ iD (aD 3) (aD 4)) (bJ mj (fC (.int 10)) (fC (.int 12)))) aU)) dF) (ao (aD 0) aU)) dF))))))
def lW:List D->Rs D:=fun ds=>dZ (oY (aZ zI ds))
theorem Mt(T:Txt K mg ) {f:ab}{fd:cq}(F:ur K "_law_base" "_law_base" jz f fd) (hm:mg "_law_base"=some (.ref f)) :fV P w K mg base "_law_base" 1 1 lW :=
 cW (k:=0) (g:=oY) F hm eZ (fun _ _ _ _ _ _ us hl=>match us,hl with|[_],_=>rfl) fun cdv A outer s H E B hr hx =>
  aO (dW (cJ T.cX (sv 0) au) (dO rfl (bh (rg 0 eZ.nd) (bh (rg 1 eZ.nd) cU))))
  (aO (iM (Qy (sv 1) au) (bB (bY (cA (ak (cA (ak au (ak au aJ))) (ak (sv 0) aJ))))) eF)
  (aO (dW (cJ T.cX (sv 0) (cg (vK (ak (eE (jG au (iQ au au)) au) (ak au aJ))) (sv 1))) (dO rfl (bh (rg 0 eZ.nd) (bh (rg 2 eZ.nd) cU))))
  (aO (dW (cJ T.cX (sv 0) (cg (vK (ak (eE (jG au (iQ au au)) au) (ak au aJ))) (sv 1))) (dO rfl (bh (rg 0 eZ.nd) (bh (rg 3 eZ.nd) cU))))
  (aO (gP 4 eZ.nd (cg (vK (ak au (ak (jG au (iQ au au)) aJ))) (sv 1)))
  (bB (bY (cA (ak (cA (ak (fQ (jG (sv 2) (sv 4)) (iQ au au)) (ak (fQ (jG (sv 3) (sv 4)) (iQ au au)) aJ))) (ak (sv 0) aJ)))))))))
theorem bM:bR zS ["number","one","other"] (aG jA):=⟨rfl,rfl,rfl,by decide+kernel,rfl,by decide+kernel,by decide+kernel⟩
def mW:aK->Ou :=
  vm 5 (fC (.bl true)) (fA (ao (bJ dU (bJ dU (bJ fO (aD 4) (fC (.int 0))) (bJ Dd (aD 8) (fC (.int 7)))) (bJ fO (aD 10) (fC (.int 0)))) (ao (bJ dU (bJ dU (bJ fO (aD 4) (fC (.int 1))) (bJ rP (aD 8) (fC (.int 7)))) (bJ fO (aD 10) (fC (.int 1)))) aU)) (bA 2 jB))
def mX:aK->Ou :=
  bV (jC (fA (ao (aD 0) (ao (fC (.int 49)) aU)) Bl) (iT 2 (bW (aP 0) (bW (aP 8) jg))))
  (bV (jC (fA (ao (aD 0) (ao (fC (.int 2)) aU)) Bl) (iT 2 (bW (aP 0) (bW (aP 9) jg))))
  (Ii (aP 10) mW (bJ fO (fA (ao (aD 1) (ao (aD 2) aU)) vJ) (aD 9))))
def mY:aK->Ou :=
  bV (jC (fA (ao (aD 0) (ao (fC (.int 81)) aU)) Bl) (iT 2 (bW (aP 0) (bW (aP 8) jg))))
  (vm 5 (fC (.bl true)) (fA (ao (bJ jf (bJ dU (bJ fO (aD 4) (fC (.int 0))) (bJ Dd (aD 8) (fC (.int 9)))) (fC (.int 1))) (ao (bJ jf (bJ dU (bJ fO (aD 4) (fC (.int 1))) (bJ rP (aD 8) (fC (.int 9)))) (fC (.int 1))) aU)) (bA 2 jB)))
def oZ:aK->Ou :=
  bV (jC (fA (ao (aD 0) (ao (fC (.int 4)) aU)) Bl) (iT 2 (bW (aP 0) (bW (aP 3) jg))))
  (bV (jC (fA (ao (aD 0) aU) (bA 1 lW)) (iT 2 (bW (aP 4) (bW (aP 0) jg))))
  (bV (afk 5)
  (bV (jC (fA (ao (aD 0) (ao (fC (.int 4)) aU)) Bl) (iT 2 (bW (aP 0) (bW (aP 6) jg))))
  (bV (su (wW (aP 7) mX (aD 6)))
  (bV (jC (fA (ao (aD 0) (ao (fC (.int 5)) aU)) Bl) (iT 2 (bW (aP 0) (bW (aP 11) jg))))
  (bV (su (wW (aP 7) mY (aD 11)))
  (dz (fA (ao (fA (ao (fA (ao (vX 5) aU) jY) (ao (bJ wY (aD 3) (fC (.int 0))) aU)) dF) (ao (aD 0) aU)) dF))))))))
def lZ:List D->Rs D:=fun ds=>dZ (oZ (aZ zS ds))
theorem Mu(T:Txt K mg ) {f:ab}{fd:cq}(F:ur K "_law_heap" "_law_heap" jA f fd) (hm:mg "_law_heap"=some (.ref f)) (tQ:fV P w K mg base "_law_base" 1 1 lW) (pq:fV P w K mg base "_law_kept" 1 2 jB):fV P w K mg base "_law_heap" 2 3 lZ :=
 cW (k:=1) (g:=oZ) F hm bM (fun _ _ _ _ _ _ us hl=>match us,hl with|[_,_,_],_=>rfl) fun cdv A outer s H E B hr hx =>
  aO (dW (cJ T.cX (sv 0) au) (dO rfl (bh (rg 0 bM.nd) (bh (rg 3 bM.nd) cU))))
  (aO (dW (bw tQ (hr.mono (by decide)) hx (ak (sv 0) aJ)) (dO rfl (bh (rg 4 bM.nd) (bh (rg 0 bM.nd) cU))))
  (aO (Li 5 bM.nd)
  (aO (dW (cJ T.cX (sv 0) au) (dO rfl (bh (rg 0 bM.nd) (bh (rg 6 bM.nd) cU))))
  (aO (pC (Cg i5 rfl T.xZ (sv 6) (rg 7 bM.nd) (aO (dW (cJ T.cX (sv 0) au) (dO rfl (bh (rg 0 bM.nd) (bh (rg 8 bM.nd) cU))))
  (aO (dW (cJ T.cX (sv 0) au) (dO rfl (bh (rg 0 bM.nd) (bh (rg 9 bM.nd) cU))))
  (bB (Kf i5 rfl (cg (vK (ak (sv 1) (ak (sv 2) aJ))) (sv 9)) (rg 10 bM.nd) (bB (xT 5 (dR hr) lK (bw pq (hr.mono (by decide)) dI (ak (eE (eE (cg (sv 4) au) (Kc (sv 8) au)) (cg (sv 10) au)) (ak (eE (eE (cg (sv 4) au) (vL (sv 8) au)) (cg (sv 10) au)) aJ)))))))))))
  (aO (dW (cJ T.cX (sv 0) au) (dO rfl (bh (rg 0 bM.nd) (bh (rg 11 bM.nd) cU))))
  (aO (pC (Cg i5 rfl T.xZ (sv 11) (rg 7 bM.nd) (aO (dW (cJ T.cX (sv 0) au) (dO rfl (bh (rg 0 bM.nd) (bh (rg 8 bM.nd) cU))))
  (bB (xT 5 (dR hr) lK (bw pq (hr.mono (by decide)) dI (ak (fQ (eE (cg (sv 4) au) (Kc (sv 8) au)) au) (ak (fQ (eE (cg (sv 4) au) (vL (sv 8) au)) au) aJ))))))))
  (bB (bY (cA (ak (cA (ak (nW T.qW (Rw 5 rfl T.tE)) (ak (adX (dR hr) (sv 3) au) aJ))) (ak (sv 0) aJ)))))))))))
theorem SJ:bR yY yY (aG kJ):=⟨rfl,rfl,rfl,by decide+kernel,rfl,by decide+kernel,by decide+kernel⟩
def Et:aK->Ou :=
  dz (fA (ao (bJ dU (bJ fO (aD 0) (fC (.int 0))) (bJ fO (aD 1) (fC (.int 0)))) (ao (bJ dU (bJ fO (aD 0) (fC (.int 1))) (bJ fO (aD 1) (fC (.int 1)))) aU)) dF)
def lu:List D->Rs D:=fun ds=>dZ (Et (aZ yY ds))
theorem SN(T:Txt K mg ) {f:ab}{fd:cq}(F:ur K "_law_led" "_law_led" kJ f fd) (hm:mg "_law_led"=some (.ref f)) :fV P w K mg base "_law_led" 1 2 lu :=
 cW (k:=0) (g:=Et) F hm SJ (fun _ _ _ _ _ _ us hl=>match us,hl with|[_,_],_=>rfl) fun cdv A outer s H E B hr hx =>
  bB (bY (cA (ak (eE (cg (sv 0) au) (cg (sv 1) au)) (ak (eE (cg (sv 0) au) (cg (sv 1) au)) aJ))))
theorem cB:bR y_ ["piece","number"] (aG dD):=⟨rfl,rfl,rfl,by decide+kernel,rfl,by decide+kernel,by decide+kernel⟩
def tR:aK->Rs D :=
  fA (ao (aD 0) (ao (fA (ao (bJ jf (aD 1) (fC (.int 4))) (ao (bJ jf (aD 2) (fC (.int 4))) aU)) dF) aU)) (bA 2 lu)
def oE:aK->Rs D :=
  fA (ao (fA (ao (bJ fO (aD 0) (fC (.int 0))) aU) afo) (ao (fA (ao (bJ fO (aD 0) (fC (.int 1))) aU) afo) aU)) Rv
def jR:aK->Rs D :=
  fA (ao (bJ jf (fC (.int 0)) (bJ fO (aD 0) (fC (.int 0)))) (ao (bJ jf (fC (.int 0)) (bJ fO (aD 0) (fC (.int 1)))) aU)) dF
def lJ:aK->Ou :=
  bV (jC (fA (ao (aD 1) (ao (fC (.int 6)) aU)) Bl) (iT 2 (bW (aP 1) (bW (aP 2) jg))))
  (bV (jC (fA (ao (aD 1) (ao (fA (ao (aD 0) aU) Bk) aU)) Bl) (iT 2 (bW (aP 1) (bW (aP 3) jg))))
  (bV (jC (fA (ao (aD 1) (ao (fC (.int 9)) aU)) Bl) (iT 2 (bW (aP 1) (bW (aP 4) jg))))
  (bV (jC (fA (ao (aD 1) (ao (fC (.int 9)) aU)) Bl) (iT 2 (bW (aP 1) (bW (aP 5) jg))))
  (bV (ig 6 (cM (aP 0) (fun _=>.ok true) tR 1 [4,5] (fL (aD 0) Ga)))
  (Gn 6 (bV (rK (fOr (fT (bJ gGt (aD 2) (fC (.int 1)))) (fT (bJ gGt (fA (ao (cM (aP 0) (fun _=>.ok true) oE 1 [] (fL (aD 6) asL)) aU) (Je rT)) (bJ mj (fC (.int 10)) (fC (.int 6)))))) (Rx 6 (aD 0)) ux)
  (bV (rK (vH (fT (bJ wY (aD 2) (fC (.int 2)))) (fT (bJ Lh (fA (ao (bJ jf (aD 4) (fC (.int 4))) (ao (bJ jf (aD 5) (fC (.int 4))) aU)) dF) (aD 0)))) (Jc 6 (fA (ao (bJ jf (aD 4) (fC (.int 4))) (ao (bJ jf (aD 5) (fC (.int 4))) aU)) dF) (aD 3)) ux)
  (bV (rK (vH (fT (bJ wY (aD 2) (fC (.int 3)))) (fT (bJ gGt (fA (ao (aD 0) aU) Bk) (fC (.int 1))))) (Jd 6 (aD 3)) ux)
  (bV (rK (fT (bJ wY (aD 2) (fC (.int 4)))) (ig 6 (cM (aP 0) (fun _=>.ok true) jR 1 [] (fL (aD 0) Ga))) ux)
  (bV (rK (fT (bJ wY (aD 2) (fC (.int 5)))) (dz (fA (ao (aD 1) aU) (bA 1 eV))) ux)
  (Gn 6 (dz (fA (ao (fA (ao (fA (ao (aD 6) aU) vV) aU) jY) (ao (aD 1) aU)) dF)))))))))))))
def iV:List D->Rs D:=fun ds=>dZ (lJ (aZ y_ ds))
theorem Eu(T:Txt K mg ) {f:ab}{fd:cq}(F:ur K "_law_second" "_law_second" dD f fd) (hm:mg "_law_second"=some (.ref f)) (lC:fV P w K mg base "_law_led" 1 2 lu) (iK:fV P w K mg base "_law_piece" 1 1 eV):fV P w K mg base "_law_second" 2 2 iV :=
 cW (k:=1) (g:=lJ) F hm cB (fun _ _ _ _ _ _ us hl=>match us,hl with|[_,_],_=>rfl) fun cdv A outer s H E B hr hx =>
  aO (dW (cJ T.cX (sv 1) au) (dO rfl (bh (rg 1 cB.nd) (bh (rg 2 cB.nd) cU))))
  (aO (dW (cJ T.cX (sv 1) (Df T.Sd (sv 0))) (dO rfl (bh (rg 1 cB.nd) (bh (rg 3 cB.nd) cU))))
  (aO (dW (cJ T.cX (sv 1) au) (dO rfl (bh (rg 1 cB.nd) (bh (rg 4 cB.nd) cU))))
  (aO (dW (cJ T.cX (sv 1) au) (dO rfl (bh (rg 1 cB.nd) (bh (rg 5 cB.nd) cU))))
  (aO (Cm 6 cB.nd (fZ (aG dD) y_ (N:=["step","row","column"]) (nt:=1) (caps:=[4,5]) (by decide+kernel)) rfl (by decide+kernel) (qG (sv 0)) dJ (fun s₀ H₀ C ex pins B1=>rg 0 (show gE (["step","row","column"]:List Str) by decide)) (fun s₀ H₀ C ex pins B1=>bw lC (hr.mono (by decide)) dI (ak (sv 0) (ak (cA (ak (fQ (sv 1) au) (ak (fQ (sv 2) au) aJ))) aJ))))
  (Lf 6 (aO (iM (adC (apq (Qy (sv 2) au) (amy (Qy (ajl rfl T.Sg (qH (fZ (aG dD) y_ (N:=["step"]) (nt:=1) (caps:=[]) (by decide+kernel)) rfl (by decide+kernel) (wZ (sv 6)) dJ (fun s₀ H₀ C ex pins B1=>rg 0 (show gE (["step"]:List Str) by decide)) (fun s₀ H₀ C ex pins B1=>Lj rfl T.Sg (afp T.alB (cg (sv 0) au)) (afp T.alB (cg (sv 0) au))))) (iQ au au))))) (bB (ajh 6 cB.nd T.Ye (sv 0))) eF)
  (aO (iM (adC (JZ (Al (dR hr) (sv 2) au) (Ce (aeU (dR hr) (cA (ak (fQ (sv 4) au) (ak (fQ (sv 5) au) aJ))) (sv 0))))) (bB (aji 6 (cA (ak (fQ (sv 4) au) (ak (fQ (sv 5) au) aJ))) (sv 3))) eF)
  (aO (iM (adC (JZ (Al (dR hr) (sv 2) au) (Ce (Qy (Df T.Sd (sv 0)) au)))) (bB (ajj 6 (sv 3))) eF)
  (aO (iM (Al (dR hr) (sv 2) au) (bB (Cm 6 cB.nd (fZ (aG dD) y_ (N:=["step"]) (nt:=1) (caps:=[]) (by decide+kernel)) rfl (by decide+kernel) (qG (sv 0)) dJ (fun s₀ H₀ C ex pins B1=>rg 0 (show gE (["step"]:List Str) by decide)) (fun s₀ H₀ C ex pins B1=>cA (ak (fQ au (cg (sv 0) au)) (ak (fQ au (cg (sv 0) au)) aJ))))) eF)
  (aO (iM (Al (dR hr) (sv 2) au) (bB (bY (bw iK (hr.mono (by decide)) hx (ak (sv 1) aJ)))) eF)
  (Lf 6 (bB (bY (cA (ak (nW T.qW (afa T.tE (sv 6))) (ak (sv 1) aJ))))))))))))))))
theorem mF:bR y9 ["script"] (aG qe):=⟨rfl,rfl,rfl,by decide+kernel,rfl,by decide+kernel,by decide+kernel⟩
def aaH:aK->Rs D :=
  fA (ao (aD 0) (ao (aD 1) aU)) (bA 2 lu)
def Cv:aK->Ou :=
  bV (jC (fA (ao (fA (ao (aD 8) (ao (fC (.int 2)) aU)) (bA 2 eU)) (ao (aD 1) (ao (aD 3) aU))) (bA 3 lZ)) (iT 2 (bW (aP 9) (bW (aP 2) jg))))
  (rK (fT (bJ WL (fA (ao (aD 9) (ao (aD 1) aU)) (bA 2 jQ)) (fA (ao (aD 9) (ao (aD 3) aU)) (bA 2 jQ)))) (dz (fC (.bl false))) ux)
def aaI:aK->Ou :=
  bV (jC (fA (ao (fA (ao (fA (ao (aD 0) (ao (fC (.int 0)) aU)) (bA 2 lV)) (ao (fC (.int 1)) aU)) (bA 2 eU)) aU) (bA 1 eV)) (iT 2 (bW (aP 1) (bW (aP 2) jg))))
  (bV (jC (fA (ao (aD 1) (ao (aD 2) aU)) (bA 2 iV)) (iT 2 (bW (aP 3) (bW (aP 2) jg))))
  (bV (ig 4 (fA (ao (bJ fO (fA (ao (aD 1) (ao (aD 3) aU)) (bA 2 uQ)) (fC (.int 0))) (ao (bJ fO (fA (ao (aD 3) (ao (aD 1) aU)) (bA 2 uQ)) (fC (.int 0))) aU)) vJ))
  (bV (ig 5 (fA (ao (aD 1) (ao (aD 3) aU)) (bA 2 ou)))
  (bV (rK (fT (bJ WL (bJ wY (aD 4) (fA (ao (fC (.str "within")) (ao (fC (.str "within")) aU)) vJ)) (bJ Ef (aD 5) (fC .non)))) (dz (fC (.bl false))) ux)
  (bV (rK (vH (fT (bJ Ef (aD 5) (fC .non))) (fT (bJ WL (cM (aP 0) (fun _=>.ok true) aaH 1 [5] (fL (aD 1) Ga)) (fA (ao (aD 3) aU) zf)))) (dz (fC (.bl false))) ux)
  (bV (rK (fT (bJ aeS (aD 5) (fC .non))) (bV (ig 6 (fA (ao (aD 1) (ao (fC (.bl false)) aU)) dF))
  (bV (ig 7 (fA (ao (aD 3) (ao (fC (.bl false)) aU)) dF))
  (dz (Ka (bJ WL (fA (ao (aD 6) (ao (aD 3) aU)) (bA 2 jQ)) (aD 6)) (bJ WL (fA (ao (aD 7) (ao (aD 1) aU)) (bA 2 jQ)) (aD 7)))))) ux)
  (bV (su (Qv (aP 8) Cv (bJ dU (fA (ao (fC (.int 0)) aU) vJ) (fSl (aD 0) (fP (fC (.int 1))) (fP (fC (.int 16)))))))
  (dz (fC (.bl true))))))))))
def aaJ:List D->Rs D:=fun ds=>dZ (aaI (aZ y9 ds))
theorem aqz(T:Txt K mg ) {f:ab}(iK:fV P w K mg base "_law_piece" 1 1 eV) (pA:fV P w K mg base "_law_deal" 1 2 eU) (tU:fV P w K mg base "_law_cell" 1 2 lV) (pJ:fV P w K mg base "_law_second" 2 2 iV) (Cw:fV P w K mg base "sifts" 6 2 uQ) (wF:fV P w K mg base "moved_by" 4 2 ou) (lC:fV P w K mg base "_law_led" 1 2 lu) (ql:fV P w K mg base "opened" 6 2 jQ) (tV:fV P w K mg base "_law_heap" 2 3 lZ) {cdv:aa}{A:a_}{outer:List Env}{s:af}{H:Hp}{E:XK}{B:Bs}(hr:pB 6 (A.deeper (q_ "law" (aG qe) s.heap.objs.size f cdv)))
  (hx:Dl (yP (WM P w K) P w K mg base y9 "law" (aG qe) f cdv A outer s H E) (fun c n _ H'=>E (Ij c n) none H')) :
  yS (yP (WM P w K) P w K mg base y9 "law" (aG qe) f cdv A outer s H E) B (fun c n _ H'=>E (Ij c n) none H') (bG qe) aaI :=
  aO (dW (bw iK (hr.mono (by decide)) hx (ak (bw pA (hr.mono (by decide)) hx (ak (bw tU (hr.mono (by decide)) hx (ak (sv 0) (ak au aJ))) (ak au aJ))) aJ)) (dO rfl (bh (rg 1 mF.nd) (bh (rg 2 mF.nd) cU))))
  (aO (dW (bw pJ (hr.mono (by decide)) hx (ak (sv 1) (ak (sv 2) aJ))) (dO rfl (bh (rg 3 mF.nd) (bh (rg 2 mF.nd) cU))))
  (aO (gP 4 mF.nd (vK (ak (cg (bw Cw (hr.mono (by decide)) hx (ak (sv 1) (ak (sv 3) aJ))) au) (ak (cg (bw Cw (hr.mono (by decide)) hx (ak (sv 3) (ak (sv 1) aJ))) au) aJ))))
  (aO (gP 5 mF.nd (bw wF (hr.mono (by decide)) hx (ak (sv 1) (ak (sv 3) aJ))))
  (aO (iM (adY (dR hr) (adX (dR hr) (sv 4) (vK (ak vG (ak vG aJ)))) (aiX (sv 5) JW)) (bB (bY lK)) eF)
  (aO (iM (adC (JZ (aiY (sv 5) JW) (Ce (adY (dR hr) (qH (fZ (aG qe) y9 (N:=yY) (nt:=1) (caps:=[5]) (by decide+kernel)) rfl (by decide+kernel) (qG (sv 1)) dJ (fun s₀ H₀ C ex pins B1=>rg 0 (show gE (["cell","step"]:List Str) by decide)) (fun s₀ H₀ C ex pins B1=>bw lC (hr.mono (by decide)) dI (ak (sv 0) (ak (sv 1) aJ)))) (aiV T.Ye (sv 3)))))) (bB (bY lK)) eF)
  (aO (iM (ano (sv 5) JW) (aO (gP 6 mF.nd (cA (ak (sv 1) (ak lK aJ))))
  (aO (gP 7 mF.nd (cA (ak (sv 3) (ak lK aJ))))
  (bB (bY (apr (alg (dR hr) (bw ql (hr.mono (by decide)) hx (ak (sv 6) (ak (sv 3) aJ))) (sv 6)) (amA (alg (dR hr) (bw ql (hr.mono (by decide)) hx (ak (sv 7) (ak (sv 1) aJ))) (sv 7)))))))) eF)
  (aO (pC (ZP i5 rfl (eE (vK (ak au aJ)) (adI (sv 0) (ZM au) (ZM au))) (rg 8 mF.nd) (aO (dW (bw tV (hr.mono (by decide)) dI (ak (bw pA (hr.mono (by decide)) dI (ak (sv 8) (ak au aJ))) (ak (sv 1) (ak (sv 3) aJ)))) (dO rfl (bh (rg 9 mF.nd) (bh (rg 2 mF.nd) cU))))
  (bB (iM (adY (dR hr) (bw ql (hr.mono (by decide)) dI (ak (sv 9) (ak (sv 1) aJ))) (bw ql (hr.mono (by decide)) dI (ak (sv 9) (ak (sv 3) aJ)))) (bB (bY lK)) eF)))))
  (bB (bY lK)))))))))
end
section
variable{l:mw}{w:az}{K:Frag}{h:Heap}{mg:Str->Option aa}{fa:ab}
 {rE:ab}{Gw Gx:Option ab}{Gy:Array (Option aa)}{Gz GC GD GF vp GJ:aa}
 {tX:ab}{Mv Mw:Option ab}{Mx:Array (Option aa)}{Mz MF MJ MK yx MN:aa}
 {Ew:ab}{acd ace:Option ab}{acf:Array (Option aa)}{acg ach aci acj Jv acn:aa}
 {wG:ab}{SQ SX:Option ab}{Tc:Array (Option aa)}{Td Te Tf Ti Ay Tj:aa}
 {f_both:ab}{ajR ajS:Option ab}{ajT:Array (Option aa)}{ajU ajV ajW ajX aaK ajY:aa}
 {zJ:ab}{Yj Yk:Option ab}{Ym:Array (Option aa)}{Yn Yo Yp Yq Ey Yr:aa}
 {Ez:ab}{aco acp:Option ab}{acq:Array (Option aa)}{acr acs acu acv Jw acw:aa}
 {MP:ab}{agg agh:Option ab}{agi:Array (Option aa)}{agj agk agl agm Tn agn:aa}
 {wH:ab}{Tp Tq:Option ab}{Tt:Array (Option aa)}{Tv Tw Tz TF Az TJ:aa}
 {Ys:ab}{ajZ akb:Option ab}{akc:Array (Option aa)}{akd ake akf akg aaL akh:aa}
 {wI:ab}{TQ TV:Option ab}{TX:Array (Option aa)}{TY Ua Ub Uc Ba Ud:aa}
 {rF:ab}{GP GQ:Option ab}{GR:Array (Option aa)}{GX GZ Hf Hg vq Hh:aa}
 {wJ:ab}{Ue Ug:Option ab}{Uh:Array (Option aa)}{Ui Uj Uk Ul Bb Um:aa}
 {Nb:ab}{ago agp:Option ab}{agq:Array (Option aa)}{agr ags agt agu Uo agv:aa}
 {wK:ab}{Uq Ur:Option ab}{Us:Array (Option aa)}{Ut Uu Uv Uw Bc Ux:aa}
 {mG lD qm:ab}{zK zL:Option ab}{zM:Array (Option aa)}{zN zO zP zQ zR:aa}
 {pK:ab}{EY Fb:Option ab}{Fd:Array (Option aa)}{Fe Fg Fi Fj tY Fl:aa}
 {mH:ab}{zT zU:Option ab}{zV:Array (Option aa)}{zW zX zY zZ qp Aa:aa}
 {mJ:ab}{Ab Ac:Option ab}{Ad:Array (Option aa)}{Ae Af Ag Ah qu Ai:aa}
 {Nf:ab}{agw agx:Option ab}{agy:Array (Option aa)}{agz agA agB agC Uy agD:aa}
 {Ng:ab}{agE agF:Option ab}{agG:Array (Option aa)}{agH agI agJ agK Uz agL:aa}
 {Fo:ab}{acy acz:Option ab}{acA:Array (Option aa)}{acB acC acD acE Jx acF:aa}
 {tZ:ab}{Nh Ni:Option ab}{Nj:Array (Option aa)}{Nk Nm Np Nq yC Nr:aa}
 {uc:ab}{Nt Nu:Option ab}{Nv:Array (Option aa)}{Nx Ny Nz NK yD NP:aa}
 {rG:ab}{Hi Hj:Option ab}{Hl:Array (Option aa)}{Ho Hq Hr Ht vA Hu:aa}
 {ud:ab}{NQ NT:Option ab}{NZ:Array (Option aa)}{Oa Ob Oc Od yE Oe:aa}
 {uf:ab}{Og Oh:Option ab}{Oi:Array (Option aa)}{Oj Ol Om Oo yF Oq:aa}
 {ug:ab}{Ot Ov:Option ab}{Ow:Array (Option aa)}{Ox Oz OD OJ yG Pa:aa}
 {wL:ab}{UJ UL:Option ab}{UW:Array (Option aa)}{Va Vb Vc Vd Bd Ve:aa}
 {pL:ab}{Fp Fq:Option ab}{Ft:Array (Option aa)}{Fv Fw Fx Fy uh Fz:aa}
 {agM:ab}{anU agN:Option ab}{anV:Array (Option aa)}{anW agO agP agQ Yt agR:aa}
theorem all_mk(X:K.In h) (G:h.Ns bS mg) (hfa:mg "law"=some (.ref fa))
  (Pb:cw K bS "cell_moved"=some (some (.ref rE)))
  (Pg:K.lookup rE=some ⟨Gz,Gw,.func (dn "cell_moved" "cell_moved" (bK iG) (bG iG) (aG iG) .none GC GD GF Gx vp GJ),Gy⟩)
  (Ph:dt K vp "cell_moved"=true)
  (Pj:du K (.ref rE)=true)
  (Vf:cw K bS "cell_less"=some (some (.ref tX)))
  (Vg:K.lookup tX=some ⟨Mz,Mv,.func (dn "cell_less" "cell_less" (bK ju) (bG ju) (aG ju) .none MF MJ MK Mw yx MN),Mx⟩)
  (Vh:dt K yx "cell_less"=true)
  (Vi:du K (.ref tX)=true)
  (agS:cw K bS "rising"=some (some (.ref Ew)))
  (agT:K.lookup Ew=some ⟨acg,acd,.func (dn "rising" "rising" (bK pZ) (bG pZ) (aG pZ) .none ach aci acj ace Jv acn),acf⟩)
  (agU:dt K Jv "rising"=true)
  (agV:du K (.ref Ew)=true)
  (Yu:cw K bS "all_sums"=some (some (.ref wG)))
  (Yv:K.lookup wG=some ⟨Td,SQ,.func (dn "all_sums" "all_sums" (bK jj) (bG jj) (aG jj) .none Te Tf Ti SX Ay Tj),Tc⟩)
  (Yw:dt K Ay "all_sums"=true)
  (Yx:du K (.ref wG)=true)
  (anY:cw K bS "both"=some (some (.ref f_both)))
  (anZ:K.lookup f_both=some ⟨ajU,ajR,.func (dn "both" "both" (bK zA) (bG zA) (aG zA) .none ajV ajW ajX ajS aaK ajY),ajT⟩)
  (aoa:dt K aaK "both"=true)
  (aob:du K (.ref f_both)=true)
  (acG:cw K bS "outside"=some (some (.ref zJ)))
  (acH:K.lookup zJ=some ⟨Yn,Yj,.func (dn "outside" "outside" (bK nD) (bG nD) (aG nD) .none Yo Yp Yq Yk Ey Yr),Ym⟩)
  (acI:dt K Ey "outside"=true)
  (acJ:du K (.ref zJ)=true)
  (agW:cw K bS "within"=some (some (.ref Ez)))
  (agX:K.lookup Ez=some ⟨acr,aco,.func (dn "within" "within" (bK qb) (bG qb) (aG qb) .none acs acu acv acp Jw acw),acq⟩)
  (agY:dt K Jw "within"=true)
  (agZ:du K (.ref Ez)=true)
  (aki:cw K bS "moved"=some (some (.ref MP)))
  (akj:K.lookup MP=some ⟨agj,agg,.func (dn "moved" "moved" (bK qU) (bG qU) (aG qU) .none agk agl agm agh Tn agn),agi⟩)
  (akk:dt K Tn "moved"=true)
  (akl:du K (.ref MP)=true)
  (Yy:cw K bS "mirrored"=some (some (.ref wH)))
  (Yz:K.lookup wH=some ⟨Tv,Tp,.func (dn "mirrored" "mirrored" (bK jk) (bG jk) (aG jk) .none Tw Tz TF Tq Az TJ),Tt⟩)
  (YB:dt K Az "mirrored"=true)
  (YC:du K (.ref wH)=true)
  (aoc:cw K bS "laid"=some (some (.ref Ys)))
  (aod:K.lookup Ys=some ⟨akd,ajZ,.func (dn "laid" "laid" (bK zB) (bG zB) (aG zB) .none ake akf akg akb aaL akh),akc⟩)
  (aoe:dt K aaL "laid"=true)
  (aof:du K (.ref Ys)=true)
  (YD:cw K bS "whole_at"=some (some (.ref wI)))
  (YF:K.lookup wI=some ⟨TY,TQ,.func (dn "whole_at" "whole_at" (bK kE) (bG kE) (aG kE) .none Ua Ub Uc TV Ba Ud),TX⟩)
  (YG:dt K Ba "whole_at"=true)
  (YH:du K (.ref wI)=true)
  (Pk:cw K bS "lacking_at"=some (some (.ref rF)))
  (Pn:K.lookup rF=some ⟨GX,GP,.func (dn "lacking_at" "lacking_at" (bK iH) (bG iH) (aG iH) .none GZ Hf Hg GQ vq Hh),GR⟩)
  (Pq:dt K vq "lacking_at"=true)
  (Pr:du K (.ref rF)=true)
  (YJ:cw K bS "why_left"=some (some (.ref wJ)))
  (YK:K.lookup wJ=some ⟨Ui,Ue,.func (dn "why_left" "why_left" (bK gk) (bG gk) (aG gk) .none Uj Uk Ul Ug Bb Um),Uh⟩)
  (YL:dt K Bb "why_left"=true)
  (YM:du K (.ref wJ)=true)
  (akm:cw K bS "sifts"=some (some (.ref Nb)))
  (akn:K.lookup Nb=some ⟨agr,ago,.func (dn "sifts" "sifts" (bK uN) (bG uN) (aG uN) .none ags agt agu agp Uo agv),agq⟩)
  (ako:dt K Uo "sifts"=true)
  (akp:du K (.ref Nb)=true)
  (YQ:cw K bS "moved_by"=some (some (.ref wK)))
  (YT:K.lookup wK=some ⟨Ut,Uq,.func (dn "moved_by" "moved_by" (bK kI) (bG kI) (aG kI) .none Uu Uv Uw Ur Bc Ux),Us⟩)
  (YW:dt K Bc "moved_by"=true)
  (YX:du K (.ref wK)=true)
  (Bp:cw K bS "common_stride"=some (some (.ref mG)))
  (Bq:K.lookup mG=some ⟨zN,zK,.func (dn "common_stride" "common_stride" (bK dg) (bG dg) (aG dg) .none zO zP zQ zL (.ref lD) zR),zM⟩)
  (Br:dt K (.ref lD) "common_stride"=true)
  (Bt:du K (.ref mG)=true)
  (Bu:i4 K lD qm=true)
  (Hv:cw K bS "run_lengths"=some (some (.ref pK)))
  (Hw:K.lookup pK=some ⟨Fe,EY,.func (dn "run_lengths" "run_lengths" (bK gH) (bG gH) (aG gH) .none Fg Fi Fj Fb tY Fl),Fd⟩)
  (Hx:dt K tY "run_lengths"=true)
  (Hy:du K (.ref pK)=true)
  (Bv:cw K bS "heads_of_runs"=some (some (.ref mH)))
  (Bw:K.lookup mH=some ⟨zW,zT,.func (dn "heads_of_runs" "heads_of_runs" (bK dh) (bG dh) (aG dh) .none zX zY zZ zU qp Aa),zV⟩)
  (Bx:dt K qp "heads_of_runs"=true)
  (BJ:du K (.ref mH)=true)
  (BK:cw K bS "places_within"=some (some (.ref mJ)))
  (BL:K.lookup mJ=some ⟨Ae,Ab,.func (dn "places_within" "places_within" (bK dw) (bG dw) (aG dw) .none Af Ag Ah Ac qu Ai),Ad⟩)
  (BP:dt K qu "places_within"=true)
  (BR:du K (.ref mJ)=true)
  (akq:cw K bS "grown"=some (some (.ref Nf)))
  (akr:K.lookup Nf=some ⟨agz,agw,.func (dn "grown" "grown" (bK uO) (bG uO) (aG uO) .none agA agB agC agx Uy agD),agy⟩)
  (aks:dt K Uy "grown"=true)
  (akt:du K (.ref Nf)=true)
  (aku:cw K bS "eaten"=some (some (.ref Ng)))
  (akv:K.lookup Ng=some ⟨agH,agE,.func (dn "eaten" "eaten" (bK uP) (bG uP) (aG uP) .none agI agJ agK agF Uz agL),agG⟩)
  (akx:dt K Uz "eaten"=true)
  (aky:du K (.ref Ng)=true)
  (aha:cw K bS "opened"=some (some (.ref Fo)))
  (ahb:K.lookup Fo=some ⟨acB,acy,.func (dn "opened" "opened" (bK qd) (bG qd) (aG qd) .none acC acD acE acz Jx acF),acA⟩)
  (ahc:dt K Jx "opened"=true)
  (ahd:du K (.ref Fo)=true)
  (Vj:cw K bS "_law_cell"=some (some (.ref tZ)))
  (Vk:K.lookup tZ=some ⟨Nk,Nh,.func (dn "_law_cell" "_law_cell" (bK jw) (bG jw) (aG jw) .none Nm Np Nq Ni yC Nr),Nj⟩)
  (Vm:dt K yC "_law_cell"=true)
  (Vn:du K (.ref tZ)=true)
  (Vo:cw K bS "_law_deal"=some (some (.ref uc)))
  (Vp:K.lookup uc=some ⟨Nx,Nt,.func (dn "_law_deal" "_law_deal" (bK jx) (bG jx) (aG jx) .none Ny Nz NK Nu yD NP),Nv⟩)
  (Vq:dt K yD "_law_deal"=true)
  (Vr:du K (.ref uc)=true)
  (Pu:cw K bS "_law_piece"=some (some (.ref rG)))
  (Px:K.lookup rG=some ⟨Ho,Hi,.func (dn "_law_piece" "_law_piece" (bK iI) (bG iI) (aG iI) .none Hq Hr Ht Hj vA Hu),Hl⟩)
  (Py:dt K vA "_law_piece"=true)
  (Pz:du K (.ref rG)=true)
  (Vs:cw K bS "_law_kept"=some (some (.ref ud)))
  (Vt:K.lookup ud=some ⟨Oa,NQ,.func (dn "_law_kept" "_law_kept" (bK jy) (bG jy) (aG jy) .none Ob Oc Od NT yE Oe),NZ⟩)
  (Vu:dt K yE "_law_kept"=true)
  (Vv:du K (.ref ud)=true)
  (Vw:cw K bS "_law_base"=some (some (.ref uf)))
  (Vx:K.lookup uf=some ⟨Oj,Og,.func (dn "_law_base" "_law_base" (bK jz) (bG jz) (aG jz) .none Ol Om Oo Oh yF Oq),Oi⟩)
  (Vy:dt K yF "_law_base"=true)
  (Vz:du K (.ref uf)=true)
  (VB:cw K bS "_law_heap"=some (some (.ref ug)))
  (VD:K.lookup ug=some ⟨Ox,Ot,.func (dn "_law_heap" "_law_heap" (bK jA) (bG jA) (aG jA) .none Oz OD OJ Ov yG Pa),Ow⟩)
  (VF:dt K yG "_law_heap"=true)
  (VG:du K (.ref ug)=true)
  (YZ:cw K bS "_law_led"=some (some (.ref wL)))
  (Za:K.lookup wL=some ⟨Va,UJ,.func (dn "_law_led" "_law_led" (bK kJ) (bG kJ) (aG kJ) .none Vb Vc Vd UL Bd Ve),UW⟩)
  (Zb:dt K Bd "_law_led"=true)
  (Zc:du K (.ref wL)=true)
  (Hz:cw K bS "_law_second"=some (some (.ref pL)))
  (HB:K.lookup pL=some ⟨Fv,Fp,.func (dn "_law_second" "_law_second" (bK dD) (bG dD) (aG dD) .none Fw Fx Fy Fq uh Fz),Ft⟩)
  (HD:dt K uh "_law_second"=true)
  (HF:du K (.ref pL)=true)
  (aqA:cw K bS "law"=some (some (.ref agM)))
  (aqB:K.lookup agM=some ⟨anW,anU,.func (dn "law" "law" (bK qe) (bG qe) (aG qe) .none agO agP agQ agN Yt agR),anV⟩)
  (aqC:dt K Yt "law"=true)
  (aqD:du K (.ref agM)=true)
  (aqE:cw K bS "abs"=some none)
  (ahe:cw K bS "divmod"=some none)
  (aqF:cw K bS "len"=some none)
  (aog:cw K bS "list"=some none)
  (aqG:cw K bS "max"=some none)
  (aqH:cw K bS "min"=some none)
  (akz:cw K bS "range"=some none)
  (Zd:cw K bS "reversed"=some none)
  (aqI:cw K bS "set"=some none)
  (ahf:cw K bS "sorted"=some none)
  (akA:cw K bS "tuple"=some none) :
  ∃fd:cq,(∀(s:af) (v:aa),me s fd ⟨[v],[]⟩ [("script",v)])/\∀base:Heap,K.In base->base.Ns bS mg->Wv l.prog w K mg base (WM l.prog w K) 7 fa fd ["script"] (spV K 1 aaJ):=by
 have e:=hfa.symm.trans (dy X G aqA);cases e;have T:Txt K mg :=⟨i6 X G aqE,
  i6 X G ahe,
  i6 X G aqF,
  i6 X G aog,
  i6 X G aqG,
  i6 X G aqH,
  i6 X G akz,
  i6 X G Zd,
  i6 X G aqI,
  i6 X G ahf,
  i6 X G akA⟩
 have PB:=cV (st:=iG) Pg Ph Pj;have VH:=cV (st:=ju) Vg Vh Vi;have ahg:=cV (st:=pZ) agT agU agV;have Ze:=cV (st:=jj) Yv Yw Yx;have aoh:=cV (st:=zA) anZ aoa aob;have acK:=cV (st:=nD) acH acI acJ;have ahh:=cV (st:=qb) agX agY agZ;have akB:=cV (st:=qU) akj akk akl;have Zf:=cV (st:=jk) Yz YB YC;have aoi:=cV (st:=zB) aod aoe aof;have Zg:=cV (st:=kE) YF YG YH;have PJ:=cV (st:=iH) Pn Pq Pr;have Zh:=cV (st:=gk) YK YL YM;have akC:=cV (st:=uN) akn ako akp;have Zi:=cV (st:=kI) YT YW YX;have BW:=ajL (st:=dg) (q:="common_stride.<locals>.<lambda>") Bq Br Bt Bu rfl rfl;have HJ:=cV (st:=gH) Hw Hx Hy;have BX:=cV (st:=dh) Bw Bx BJ;have BZ:=cV (st:=dw) BL BP BR;have akD:=cV (st:=uO) akr aks akt;have akE:=cV (st:=uP) akv akx aky;have ahi:=cV (st:=qd) ahb ahc ahd;have VJ:=cV (st:=jw) Vk Vm Vn;have VL:=cV (st:=jx) Vp Vq Vr;have PK:=cV (st:=iI) Px Py Pz;have VN:=cV (st:=jy) Vt Vu Vv;have VP:=cV (st:=jz) Vx Vy Vz;have VR:=cV (st:=jA) VD VF VG;have Zj:=cV (st:=kJ) Za Zb Zc;have HN:=cV (st:=dD) HB HD HF;have aqJ:=cV (st:=qe) aqB aqC aqD;refine⟨dn "law" "law" (bK qe) (bG qe) (aG qe) .none agO agP agQ agN Yt agR,fun s v=>.of_eq rfl,fun base _ _=>?_⟩;have cQ:=Gr (P:=l.prog) (w:=w) (base:=base) T PB (dy X G Pb);have cI:=LQ (P:=l.prog) (w:=w) (base:=base) T VH (dy X G Vf);have qg:=abV (P:=l.prog) (w:=w) (base:=base) T ahg (dy X G agS);have lg:=Sh (P:=l.prog) (w:=w) (base:=base) T Ze (dy X G Yu) cQ qg;have zE:=ajO (P:=l.prog) (w:=w) (base:=base) T aoh (dy X G anY);have nG:=Yi (P:=l.prog) (w:=w) (base:=base) T acK (dy X G acG);have Er:=abX (P:=l.prog) (w:=w) (base:=base) T ahh (dy X G agW) zE nG;have Mf:=afZ (P:=l.prog) (w:=w) (base:=base) T akB (dy X G aki) cQ;have kZ:=Ss (P:=l.prog) (w:=w) (base:=base) T Zf (dy X G Yy) qg;have rm:=ajQ (P:=l.prog) (w:=w) (base:=base) T aoi (dy X G aoc) Mf;have wC:=Sw (P:=l.prog) (w:=w) (base:=base) T Zg (dy X G YD) Er rm;have rA:=Gu (P:=l.prog) (w:=w) (base:=base) T PJ (dy X G Pk) zE nG rm;have wD:=Sx (P:=l.prog) (w:=w) (base:=base) T Zh (dy X G YJ) cI wC rA;have Cw:=aga (P:=l.prog) (w:=w) (base:=base) T akC (dy X G akm) wD;have wF:=Sy (P:=l.prog) (w:=w) (base:=base) T Zi (dy X G YQ) cI rm;have mC:=zF (P:=l.prog) (w:=w) (base:=base) T BW (dy X G Bp) cI;have gJ:=Es (P:=l.prog) (w:=w) (base:=base) T HJ (dy X G Hv) cQ;have mD:=zG (P:=l.prog) (w:=w) (base:=base) T BX (dy X G Bv) gJ cI;have eG:=zH (P:=l.prog) (w:=w) (base:=base) T BZ (dy X G BK) mC gJ cI cQ mD;have Mi:=agc (P:=l.prog) (w:=w) (base:=base) T akD (dy X G akq) eG kZ lg;have Mj:=agf (P:=l.prog) (w:=w) (base:=base) T akE (dy X G aku) lg kZ eG;have ql:=abZ (P:=l.prog) (w:=w) (base:=base) T ahi (dy X G aha) Mi Mj;have tU:=Mp (P:=l.prog) (w:=w) (base:=base) T VJ (dy X G Vj);have pA:=Mq (P:=l.prog) (w:=w) (base:=base) T VL (dy X G Vo);have iK:=Gv (P:=l.prog) (w:=w) (base:=base) T PK (dy X G Pu);have pq:=Ms (P:=l.prog) (w:=w) (base:=base) T VN (dy X G Vs);have tQ:=Mt (P:=l.prog) (w:=w) (base:=base) T VP (dy X G Vw);have tV:=Mu (P:=l.prog) (w:=w) (base:=base) T VR (dy X G VB) tQ pq;have lC:=SN (P:=l.prog) (w:=w) (base:=base) T Zj (dy X G YZ);have pJ:=Eu (P:=l.prog) (w:=w) (base:=base) T HN (dy X G Hz) lC iK;exact apF aqJ mF fun cdv A outer s H E B hr=>aqz T iK pA tU pJ Cw wF lC ql tV hr (Dm yU rfl)
end
theorem mZ(a b:List Int)(ha:Pair a)(hb:Pair b):cO [yT a,yT b]=.ok (yT (mi a b)):=by obtain⟨x,y,rfl⟩:=ha;obtain⟨z,w,rfl⟩:=hb;kernel_rfl
theorem pN(a b:List Int)(ha:Pair a)(hb:Pair b):cZ [yT a,yT b]=.ok (yT (ad a b)):=by obtain⟨x,y,rfl⟩:=ha;obtain⟨z,w,rfl⟩:=hb;kernel_rfl
theorem ahj{ρ:aK}{j:Nat}{kvs:List (List Int×D)}{ks:List Int}{w:D}{fs:aK->Rs (List D)}(hj:ρ[j]?=some (.od kvs))(hf:fs ρ=.ok [yT ks,w]):Ek j fs ρ=.ok ((cC kvs ks).getD w):=by unfold Ek;rw[hj];dsimp only;rw[hf];simp only[rN,pY]
theorem aoj{ρ:aK}{j:Nat}{kvs:List (List Int×D)}{ks:List Int}{w:D}{fs:aK->Rs (List D)}(hj:ρ[j]?=some (.fz (lR kvs)))(hf:fs ρ=.ok [yT ks,w]):RN j fs ρ=.ok ((cC kvs ks).getD w):=by unfold RN;rw[hj];dsimp only;rw[hf];simp only[rN,pY,En]
theorem alC{kvs:List (List Int×D)}{ks:List Int}{d:D}(h:cC kvs ks=some d):Gp (lR kvs) (yT ks)=.ok d:=by unfold Gp;dsimp only;rw[pY];dsimp only;rw[En,h]
theorem aok{kvs:List (List Int×D)}{ks:List Int}:abP true (yT ks) (lR kvs)=.ok (.bl (!(cC kvs ks).isSome)):=by unfold abP;dsimp only;rw[pY];dsimp only;rw[En];rfl
theorem ahk{L:KL}{j:Nat}{x:List Int}(h:L[j]?=some x):fO (.tup (L.map yT)) (.int j)=.ok (yT x):=aeg (aie (by rw[cE,h];rfl))
def SM(kvs:List (List Int×D)):Prop:=∀x,(∀d,cC kvs x=some d->∃n:Int,d=.int n)/\(x∈kvs.map (·.1)->Pair x/\Up x)
theorem aol{kvs:List (List Int×D)}{k:List Int}{n:Int}(h:SM kvs)(hk:Pair k)(hu:Up k):SM (mz kvs k (.int n)):=fun x=>by
 refine⟨fun d e=>?_,fun e=>?_⟩
 ·rw[Ly]at e;by_cases c:x=k
  ·rw[if_pos c]at e;cases e;exact⟨_,rfl⟩
  ·rw[if_neg c]at e;exact(h x).1 d e
 ·rcases(Em _ _ _ _).mp e with rfl|e
  ·exact⟨hk,hu⟩
  ·exact(h x).2 e
theorem aom{kvs:List (List Int×D)}(h:SM kvs)(x:List Int):∃n:Int,(cC kvs x).getD (.int 0)=.int n:=by
 cases e:cC kvs x with
 |none=>exact⟨0,rfl⟩
 |some d=>obtain⟨n,rfl⟩:=(h x).1 d e;exact⟨n,rfl⟩
theorem Wa{O:KL}(hO:gZ O){kvs:List (List Int×D)}{j:Nat}{a3:Sl}(hj:1 + j < O.length)(h:SM kvs)(hl:kvs.length<=1000000) :
  ∃kvs' b3,gU [.fz (.tup (O.map yT)),.od kvs,.fz (.int (1 + (j:Int))),a3]=.nx [.fz (.tup (O.map yT)),.od kvs',.fz (.int (1 + (j:Int))),b3]/\SM kvs'/\kvs'.length<=kvs.length + 1:=by
 have hj0:j < O.length:=by lia
 have hb:O[1 + j]?=some O[1 + j]:=eI hj;have ha:O[j]?=some O[j]:=eI hj0;have pb:=hO.pr _ (dm hj);have pa:=hO.pr _ (dm hj0);have lt:yK O[j] O[1 + j]:=j5.mp hO.pw j (1 + j) hj0 hj (by lia);generalize O[1 + j]=b at hb pb lt;generalize O[j]=a at ha pa lt;have up:Up (mi b a):=by
  unfold yK at lt;show 0 < c0 b - c0 a∨(0=c0 b - c0 a/\0 < c1 b - c1 a)
  lia
 obtain⟨n,en⟩:=aom h (mi b a);refine⟨mz kvs (mi b a) (.int (n + 1)),.fz (yT (mi b a)),?_,aol h (uL _ _) up,xY _ _ _⟩;unfold gU;have e1:(fA (ao (bJ fO (aD 0) (aD 2)) (ao (bJ fO (aD 0) (bJ Vl.jf (aD 2) (fC (.int 1)))) aU)) (bA 2 cO)) [.fz (.tup (O.map yT)),.od kvs,.fz (.int (1 + (j:Int))),a3]=.ok (yT (mi b a)):=by refine cG (aj (bf (aq rfl) (aq rfl) (ahk (j:=1 + j) hb)) (aj (bf (aq rfl) (bf (aq rfl) bU jU) ?_) aM)) (bI rfl (mZ _ _ pb pa));rw[show(1 + (j:Int) - 1)=(j:Int) by lia];exact ahk ha
 refine aW (gR e1) ?_;refine Jl (kvs:=kvs) (ks:=mi b a) (bf (ahj (kvs:=kvs) rfl (aj (aq rfl) (aj bU aM))) bU ?_) rfl (aq rfl) hl;rw[en];exact mq
theorem Bf{O:KL}(hO:gZ O):∀(l:List Nat) (kvs:List (List Int×D)) (a2 a3:Sl),(∀j∈l,1 + j < O.length)->SM kvs->kvs.length + l.length<=1000 ->
  ∃kvs' b2 b3,fJ (aP 2) gU (l.map fun(i:Nat)=>.int (1 + (i:Int))) [.fz (.tup (O.map yT)),.od kvs,a2,a3]=.nx [.fz (.tup (O.map yT)),.od kvs',b2,b3]/\SM kvs'/\kvs'.length<=kvs.length + l.length
 | [],kvs,a2,a3,_,h,_=>⟨kvs,a2,a3,rfl,h,br _⟩
 |j::l,kvs,a2,a3,hj,h,hl=>by simp only[cx]at hl;obtain⟨k1,b3,e1,h1,l1⟩:=Wa hO (j:=j) (a3:=a3) (hj j (.head _)) h (by lia);obtain⟨k2,c2,c3,e2,h2,l2⟩:=Bf hO l k1 (.fz (.int (1 + (j:Int)))) b3 (fun i hi=>hj i (.tail _ hi)) h1 (by lia);refine⟨k2,c2,c3,?_,h2,by simp only[cx];lia⟩;simp only[ck,fJ,aP,g9,gz,e1];exact e2
theorem aaM{kvs all:List (List Int×D)}{ρ:aK}(hr:ρ[1]?=some (.fz (lR all)))(h:SM all):∀{L:KL},(∀x∈L,x∈all.map (·.1))->∃ks,tD (bJ Gp (aD 1) (aD 0)) [1] ρ (L.map yT)=.ok ks
 | [],_=>⟨[],rfl⟩
 |x::L,hx=>by
  obtain⟨ks,e⟩:=aaM (kvs:=kvs) hr h (L:=L) fun y hy=>hx y (.tail _ hy);have:(cC all x).isSome=true:=by rw[wj];exact decide_eq_true (hx x (.head _))
  cases g:cC all x with
  |none=>rw[g]at this;cases this
  |some d =>
   obtain⟨n,rfl⟩:=(h x).1 d g;have st:lG (yT x) [1] ρ=[.fz (yT x),.fz (lR all)]:=by simp only[lG,ck,ki,hr]
   refine⟨n::ks,?_⟩;simp only[ck,tD,st];rw[show(bJ Gp (aD 1) (aD 0)) [.fz (yT x),.fz (lR all)]=.ok (.int n) from bf (aq rfl) (aq rfl) (alC g)];simp only[e,rN]
theorem akF{h:Tg}{g:aK->Ou}{ρ:aK}{r:Ou}{m:Int}{N:Nat}{fs:aK->Rs (List D)}(h1:fs ρ=.ok [.int m,.int (m + (N:Int))])(h0:0<=m)(hm:m < 1000000)(hN:N < 1000000)(h2:fJ h g ((cn N).map fun(i:Nat)=>.int (m + i)) ρ=r):Dg h g fs ρ=r:=by
 have hc:-(2 ^ 62)<=m/\m < 2 ^ 62/\-(2 ^ 62)<=m + (N:Int)/\m + (N:Int) < 2 ^ 62:=by lia
 unfold Dg;rw[h1];simp only[oR];rw[if_pos hc,show(m + (N:Int) - m).toNat=N by lia];exact h2
theorem ahl{O:KL}(hO:gZ O)(ho:O.length<=900)(hne:O≠[]):∃st,gD [.tup (O.map yT)]=.ok (yT st)/\Pair st/\Up st:=by
 obtain⟨kvs,b2,b3,e,h,l⟩:=Bf hO (cn (O.length - 1)) [] .no .no (fun j hj=>by have:=fg.mp hj;lia) (fun x=>⟨fun d z=>(by cases z),fun z=>(by cases z)⟩) (by simp;lia);rw[i0,fv]at l;obtain⟨ks,ek⟩:=aaM (kvs:=kvs) (ρ:=[.fz (.tup (O.map yT)),.fz (lR kvs),b2,b3]) rfl h (L:=kvs.map (·.1)) fun x hx=>hx;have asK:∃st,RT [1] (fB (aD 1) wk) (bJ Gp (aD 1) (aD 0)) (fA (ao (fC (.int 0)) (ao (fC (.int 1)) aU)) dF) [.fz (.tup (O.map yT)),.fz (lR kvs),b2,b3]=.ok (yT st)/\Pair st/\Up st:=by
  unfold RT;rw[show(fB (aD 1) wk) [.fz (.tup (O.map yT)),.fz (lR kvs),b2,b3]=.ok (.lst ((kvs.map (·.1)).map yT)) from v_b (aq rfl) (by unfold wk;dsimp only;rw[if_pos (by rw[cb];lia)])];dsimp only;rw[show(fA (ao (fC (.int 0)) (ao (fC (.int 1)) aU)) dF) [.fz (.tup (O.map yT)),.fz (lR kvs),b2,b3]=.ok (yT [0,1]) from cG (aj bU (aj bU aM)) (t2 _ _)];dsimp only;rw[ek];dsimp only;rw[cE];cases g:(kvs.map (·.1))[RQ ks]? with
  |none=>exact⟨[0,1],rfl,⟨_,_,rfl⟩,.inr ⟨rfl,by decide⟩⟩
  |some x =>
   have:=(h x).2 (kg g);exact⟨x,rfl,this.1,this.2⟩
 obtain⟨st,e2,p,u⟩:=asK;refine⟨st,?_,p,u⟩;have run:iY (aZ zr [.tup (O.map yT)])=.rt (yT st):=by
  unfold iY;refine aW (ρ1:=[.fz (.tup (O.map yT)),.od [],.no,.no]) rfl (aW (xq (ρ1:=[.fz (.tup (O.map yT)),.od kvs,b2,b3]) ?_) ?_)
  ·refine akF (m:=1) (N:=O.length - 1) (aj bU (aj (cG (aj (aq rfl) aM) (show Bk [.tup (O.map yT)]=.ok (.int (1 + ((O.length - 1:Nat):Int))) from ?_)) aM)) (by decide) (by lia) (by lia) e;rw[vZ,cb];congr 2;have:=n_.mpr hne;lia
  ·show dz _ (XS 1 [.fz (.tup (O.map yT)),.od kvs,b2,b3])=_;rw[show XS 1 [.fz (.tup (O.map yT)),.od kvs,b2,b3]=[.fz (.tup (O.map yT)),.fz (lR kvs),b2,b3] from rfl];exact dG e2
 unfold gD;rw[run];rfl
theorem Jy{A:KL}{st:List Int}(hs:Pair st)(hu:Up st):∀(R S:KL) (kvs:List (List Int×D)) (a3:Sl),(∀x∈R,Pair x)->(∀x∈S,Pair x)->(∀x∈R,∀y∈S,yK x y)->R.Pairwise (fun a b=>yK b a)->wu S st kvs->kvs.length + R.length<=1000 ->
  ∃kvs' b3,fJ (aP 3) iZ (R.map yT) [.fz (.tup (A.map yT)),.fz (yT st),.od kvs,a3]=.nx [.fz (.tup (A.map yT)),.fz (yT st),.od kvs',b3]/\wu (R.reverse++S) st kvs'/\kvs'.length<=kvs.length + R.length
 | [],S,kvs,a3,_,_,_,_,h,_=>⟨kvs,a3,rfl,h,br _⟩
 |c::R,S,kvs,a3,pr,ps,lt,pw,h,hl=>by
  simp only[cx]at hl;have hc:=pr c (.head _);obtain⟨n,e,h'⟩:=afU hu hc ps (lt c (.head _)) h;have st1:iZ [.fz (.tup (A.map yT)),.fz (yT st),.od kvs,.fz (yT c)]=.nx [.fz (.tup (A.map yT)),.fz (yT st),.od (mz kvs c (.int (n + 1))),.fz (yT c)]:=by unfold iZ;refine Jl (kvs:=kvs) (ks:=c) (bf (ahj (kvs:=kvs) rfl (aj (cG (aj (aq rfl) (aj (aq rfl) aM)) (bI rfl (pN _ _ hc hs))) (aj bU aM))) bU ?_) rfl (aq rfl) (by lia);rw[e];exact mq
  have pc:=gc.mp pw;have lp:=xY kvs c (.int (n + 1));obtain⟨k2,b3,e2,h2,l2⟩:=Jy (A:=A) hs hu R (c::S) (mz kvs c (.int (n + 1))) (.fz (yT c)) (fun x hx=>pr x (.tail _ hx)) (fun x hx=>(bz.mp hx).elim (fun z=>z▸hc) (ps x)) (fun x hx y hy=>(bz.mp hy).elim (fun z=>z▸pc.1 x hx) (lt x (.tail _ hx) y)) pc.2 h' (by lia);refine⟨k2,b3,?_,?_,by simp only[cx];lia⟩
  ·simp only[ck,fJ,aP,g9,gz,st1];exact e2
  ·rw[yb,jS];exact h2
theorem ahm{A:KL}(hA:gZ A)(ha:A.length<=900){st:List Int}(hs:Pair st)(hu:Up st):∃kvs,fG [.tup (A.map yT),yT st]=.ok (lR kvs)/\wu A st kvs:=by
 obtain⟨kvs,b3,e,h,l⟩:=Jy (A:=A) hs hu A.reverse [] [] .no (fun x hx=>hA.pr x (p7.mp hx)) (fun x hx=>by cases hx) (fun x _ y hy=>by cases hy) (List.pairwise_reverse.mpr hA.pw) (fun x=>⟨fun z=>(by cases z),fun _=>rfl⟩) (by simp;lia);rw[List.reverse_reverse,kC]at h;refine⟨kvs,?_,h⟩;have run:lH (aZ zC [.tup (A.map yT),yT st])=.rt (lR kvs):=by
  unfold lH;refine aW (ρ1:=[.fz (.tup (A.map yT)),.fz (yT st),.od [],.no]) rfl (aW (xq (ρ1:=[.fz (.tup (A.map yT)),.fz (yT st),.od kvs,b3]) ?_) ?_)
  ·unfold aaA;rw[show(fL (aD 0) asV) [.fz (.tup (A.map yT)),.fz (yT st),.od [],.no]=.ok (A.reverse.map yT) from v_l (aq rfl) (by unfold asV;dsimp only;rw[if_pos (by rw[cb];lia),List.map_reverse])];exact e
  ·exact dG (aq rfl)
 unfold fG;rw[run];rfl
theorem akG{O:KL}(hO:gZ O)(ho:O.length<=900){st:List Int}(hs:Pair st)(hu:Up st):∃len:List Int->Nat,(∀x∈O,Js O st x (len x))/\gF [.tup (O.map yT),yT st]=.ok (.lst ((O.filter fun x=>decide (mi x st∉O)).map fun h=>.tup [yT h,.int (len h)])):=by
 obtain⟨kvs,e,h⟩:=ahm hO ho hs hu
 let len:List Int->Nat:=fun x=>match cC kvs x with|some (.int n)=>n.toNat|_=>0
 have hlen:∀x∈O,cC kvs x=some (.int (len x))/\Js O st x (len x):=fun x hx=>by
  obtain⟨n,e,r⟩:=(h x).1 hx;have:len x=n:=by show(match cC kvs x with|some (.int n)=>n.toNat|_=>0)=n;rw[e];simp
  rw[this];exact⟨e,r⟩
 refine⟨len,fun x hx=>(hlen x hx).2,?_⟩;have cm:cM (aP 0) jN oM 1 [2,1] (fL (aD 0) Ga) [.fz (.tup (O.map yT)),.fz (yT st),.fz (lR kvs),.no]=.ok (.lst ((O.filter fun x=>decide (mi x st∉O)).map yT)):=by
  refine zu (cs:=[.fz (lR kvs),.fz (yT st)]) rfl (v_l (aq rfl) rfl) (fun ks hk=>?_) (fun ks hk=>aq rfl) (by lia);unfold jN;refine mK (bf (cG (aj (aq rfl) (aj (aq rfl) aM)) (bI rfl (mZ _ _ (hO.pr ks hk) hs))) (aq rfl) ?_);rw[aok];congr 2;by_cases c:mi ks st∈O
  ·obtain⟨n,e,_⟩:=(h _).1 c;rw[e];simp[c]
  ·rw[(h _).2 c];simp[c]
 have run:jc (aZ ze [.tup (O.map yT),yT st])=.rt (.lst ((O.filter fun x=>decide (mi x st∉O)).map fun h=>.tup [yT h,.int (len h)])):=by unfold jc;refine aW (gR (cG (aj (aq rfl) (aj (aq rfl) aM)) (bI rfl e))) (aW (gR cm) ?_);refine dG ?_;refine iB (cs:=[.fz (lR kvs)]) rfl (v_l (aq rfl) rfl) (fun ks hk=>?_) (cz (qf _ _) (by lia));unfold oN;exact cG (aj (aq rfl) (aj (bf (aq rfl) (aq rfl) (alC (hlen ks (e_.mp hk).1).1)) aM)) (t2 _ _)
 unfold gF;rw[run];rfl
theorem Bg{A O:KL}{st:List Int}{kvs:List (List Int×D)}(hk:wu A st kvs){len:List Int->Nat}{a0 a1 a2:Sl}:∀(Hs P:KL) (a5 a6:Sl),(∀h∈Hs,Pair h/\0 < len h)->(∀p∈P,Pair p)->P.length<=1000 ->
  ∃(P':KL) (b5 b6:Sl),fJ (iT 2 (bW (aP 5) (bW (aP 6) jg))) gW (Hs.map fun h=>.tup [yT h,.int (len h)]) [a0,a1,a2,.fz (lR kvs),.fz (.lst (P.map yT)),a5,a6]=.nx [a0,a1,a2,.fz (lR kvs),.fz (.lst (P'.map yT)),b5,b6] /\
   ∃t:List Int->Bool,P'=P.filter t/\∀p∈P,(t p=true↔∀h∈Hs,∀j,j < len h->go st (ad p h) j∈A)
 | [],P,a5,a6,_,_,_=>⟨P,a5,a6,rfl,fun _=>true,(List.filter_eq_self.mpr fun _ _=>rfl).symm,fun p _=>⟨fun _ h hh=>(by cases hh),fun _=>rfl⟩⟩
 |h::Hs,P,a5,a6,hh,hP,hl=>by
  obtain⟨ph,pos⟩:=hh h (.head _)
  let t1:List Int->Bool:=fun p=>match (cC kvs (ad p h)).getD (.int 0) with|.int m=>decide ((len h:Int)<=m)|_=>false
  have tt:∀p,(t1 p=true↔∀j,j < len h->go st (ad p h) j∈A)/\∃m:Nat,(cC kvs (ad p h)).getD (.int 0)=.int m/\t1 p=decide ((len h:Int)<=m):=fun p=>by
   obtain⟨m,e,iff⟩:=anT pos (uK p h) hk;have e1:t1 p=decide ((len h:Int)<=m):=by show(match (cC kvs (ad p h)).getD (.int 0) with|.int m=>decide ((len h:Int)<=m)|_=>false)=_;rw[e]
   refine⟨?_,m,e,e1⟩;rw[e1,decide_eq_true_eq,<- iff];lia
  have cm:cM (aP 0) jP oU 1 [6,3,5] (fL (aD 4) asL) [a0,a1,a2,.fz (lR kvs),.fz (.lst (P.map yT)),.fz (yT h),.fz (.int (len h))]=.ok (.lst ((P.filter t1).map yT)):=by refine zu (cs:=[.fz (.int (len h)),.fz (lR kvs),.fz (yT h)]) rfl (v_l (aq rfl) rfl) (fun p hp=>?_) (fun ks hk=>aq rfl) hl;obtain⟨_,m,e,e1⟩:=tt p;unfold jP;refine mK (bf (aoj (kvs:=kvs) rfl (aj (cG (aj (aq rfl) (aj (aq rfl) aM)) (bI rfl (pN _ _ (hP p hp) ph))) (aj bU aM))) (aq rfl) ?_);rw[e,e1];exact aiC
  have st1:gW [a0,a1,a2,.fz (lR kvs),.fz (.lst (P.map yT)),.fz (yT h),.fz (.int (len h))]=.nx [a0,a1,a2,.fz (lR kvs),.fz (.lst ((P.filter t1).map yT)),.fz (yT h),.fz (.int (len h))]:=by unfold gW;exact gR cm
  obtain⟨P',b5,b6,e2,t,eP,ht⟩:=Bg (O:=O) hk (a0:=a0) (a1:=a1) (a2:=a2) Hs (P.filter t1) (.fz (yT h)) (.fz (.int (len h))) (fun x hx=>hh x (.tail _ hx)) (fun p hp=>hP p (e_.mp hp).1) (cz (qf _ _) hl);refine⟨P',b5,b6,?_,fun p=>t p && t1 p,?_,fun p hp=>?_⟩
  ·simp only[ck,fJ];rw[show iT 2 (bW (aP 5) (bW (aP 6) jg)) (.tup [yT h,.int (len h)]) [a0,a1,a2,.fz (lR kvs),.fz (.lst (P.map yT)),a5,a6]=some [a0,a1,a2,.fz (lR kvs),.fz (.lst (P.map yT)),.fz (yT h),.fz (.int (len h))] from rfl];simp only[st1];exact e2
  ·rw[eP,List.filter_filter]
  ·rw[k4,(tt p).1];constructor
   ·rintro⟨z1,z2⟩ x hx;rcases bz.mp hx with rfl|hx
    ·exact z2
    ·exact(ht p (e_.mpr ⟨hp,(tt p).1.mpr z2⟩)).mp z1 x hx
   ·intro z;have z2:=z h (.head _);exact⟨(ht p (e_.mpr ⟨hp,(tt p).1.mpr z2⟩)).mpr fun x hx=>z x (.tail _ hx),z2⟩
def FJ(A O:KL):KL:=(A.map fun x=>mi x (O.headD [])).filter fun p=>O.all fun t=>decide (ad p t∈A)
theorem Wb{A O:KL}(hA:gZ A)(ha:A.length<=900)(hO:gZ O)(ho:O.length<=900)(ne:O≠[]):dN [.tup (A.map yT),.tup (O.map yT)]=.ok (.tup ((FJ A O).map yT)):=by
 obtain⟨st,es,ps,us⟩:=ahl hO ho ne;obtain⟨kvs,ek,hk⟩:=ahm hA ha ps us;obtain⟨len,hl,eh⟩:=akG hO ho ps us;have hd:∃o O',O=o::O':=by cases O with|nil=>exact(ne rfl).elim|cons o O'=>exact⟨o,O',rfl⟩
 obtain⟨o,O',eO⟩:=hd;have po:Pair o:=hO.pr o (by rw[eO];exact dA);have h0:O.headD []=o:=by rw[eO];rfl
 have cm:cM (aP 0) (fun _=>.ok true) jO 1 [1] (fL (aD 0) Ga) [.fz (.tup (A.map yT)),.fz (.tup (O.map yT)),.fz (yT st),.fz (lR kvs),.no,.no,.no]=.ok (.lst ((A.map fun x=>mi x o).map yT)):=by rw[d5];refine iB (cs:=[.fz (.tup (O.map yT))]) rfl (v_l (aq rfl) rfl) (fun ks hk=>?_) (by lia);unfold jO;refine cG (aj (aq rfl) (aj (bf (aq rfl) bU (show fO (.tup (O.map yT)) (.int 0)=.ok (yT o) from ?_)) aM)) (bI rfl (mZ _ _ (hA.pr ks hk) po));exact ahk (j:=0) (by rw[eO];rfl)
 obtain⟨P',b5,b6,e2,t,eP,ht⟩:=Bg (O:=O) hk (len:=len) (a0:=.fz (.tup (A.map yT))) (a1:=.fz (.tup (O.map yT))) (a2:=.fz (yT st)) (O.filter fun x=>decide (mi x st∉O)) (A.map fun x=>mi x o) .no .no
  (fun h hh=>by
   have hm:=(e_.mp hh).1;exact⟨hO.pr h hm,wo fun z=>(hl h hm).2 (by rw[z,oK (hO.pr h hm)];exact hm)⟩)
  (fun p hp=>by obtain⟨x,_,rfl⟩:=b0.mp hp;exact uL _ _) (by rw[cb];lia)
 have eq:P'=FJ A O:=by
  rw[eP];unfold FJ;rw[h0];refine List.filter_congr fun p hp=>?_;rw[ym,ht p hp,ko];simp only[decide_eq_true_eq];rw[<- afV hO.pr us hl p];constructor
  ·intro z h hh hm;exact z h (e_.mpr ⟨hh,decide_eq_true hm⟩)
  ·intro z h hh;have:=e_.mp hh;exact z h this.1 (of_decide_eq_true this.2)
 have run:jd (aZ zg [.tup (A.map yT),.tup (O.map yT)])=.rt (.tup ((FJ A O).map yT)):=by unfold jd;refine aW (gR (cG (aj (aq rfl) aM) (bI rfl es))) (aW (gR (cG (aj (aq rfl) (aj (aq rfl) aM)) (bI rfl ek))) (aW (gR cm) (aW (xq (aec (cG (aj (aq rfl) (aj (aq rfl) aM)) (bI rfl eh)) e2)) ?_)));rw[<- eq];exact dG (cG (aj (aq rfl) aM) tu)
 unfold dN;rw[run];rfl
theorem Zk{c s o n J A1 A2 A3 A4 q A5 r A6 A7 u A8:Int}(e0:iD (.int 15) (.int J)=.ok (.int A1))(e1:iD (.int A1) (.int J)=.ok (.int A2))(e2:iD (.int 31) (.int s)=.ok (.int A3))(e3:iD (.int (o + A2 + A3 + 11)) (.int 48271)=.ok (.int A4))(e4:rP (.int A4) (.int 2147483647)=.ok (.int q))
  (e5:iD (.int q) (.int q)=.ok (.int A5)) (e6:rP (.int A5) (.int 2147483629)=.ok (.int r)) (e7:iD (.int n) (.int 998244353)=.ok (.int A6)) (e8:iD (.int r) (.int 69621)=.ok (.int A7)) (e9:rP (.int A7) (.int 2147483587)=.ok (.int u)) (e10:Dd (.int u) (.int 7)=.ok (.int A8)) :
  gq [.fz (.int c),.fz (.int s),.fz (.int o),.fz (.int n),.fz (.int J)]=.nx [.fz (.int c),.fz (.int s),.fz (.int r),.fz (.int (A6 + A8)),.fz (.int J)]:=by
 unfold gq;simp (config:={ decide:=false }) only[bV,afy,afz,afA,ajx,anD,rN,afB,anE,afC,afD,afE,afF,afG,XD,ig,dz,amS,rK,jC,amU,su,ux,abC,Xm,Gn,amT,bJ,aD,fC,fA,fB,ao,aU,fT,amx,vH,fOr,adD,Ka,Qs,Gg,fL,fSl,fP,amE,toB,toI,XC,mq,jU,aiB,amW,yV,aiC,zp,vZ,tu,XF,XH,Ln,XJ,XM,RJ,wg,anF,anG,anH,anI,anJ,afI,jV,aef,RG,afH,rO,Jj,aP,iT,bW,jg,aZ,ck,ki,cx,fv,i7,p8,qh,yn,og,gz,g9,yo,yy,yz,yA,iX,u6,if_true,if_false,ite_true,ite_false,decide_true,decide_false,dS,j6,aS,reduceIte,reduceCtorEq,e0,e1,e2,e3,e4,e5,e6,e7,e8,e9,e10]
theorem Wc{c s o n:Int}{j:Nat}(hs:s=1∨s=2)(hj:j < 24)(h1:0<=o)(h2:o < 2147483647) :
  ∃o' n':Int,gq [.fz (.int c),.fz (.int s),.fz (.int o),.fz (.int n),.fz (.int j)]=.nx [.fz (.int c),.fz (.int s),.fz (.int o'),.fz (.int n'),.fz (.int j)]/\0<=o'/\o' < 2147483647:=by
 have e0:iD (.int 15) (.int j)=.ok (.int (15 * j)):=nY (by lia);have e1:iD (.int (15 * (j:Int))) (.int j)=.ok (.int (15 * j * j)):=nY (by lia);have e2:iD (.int 31) (.int s)=.ok (.int (31 * s)):=nY (by lia);have e3:iD (.int (o + 15 * j * j + 31 * s + 11)) (.int 48271)=.ok (.int ((o + 15 * j * j + 31 * s + 11) * 48271)):=nY (by decide);have e4:=Dq (m:=(o + 15 * j * j + 31 * s + 11) * 48271) (n:=2147483647) (by decide);have b1:0<=(o + 15 * (j:Int) * j + 31 * s + 11) * 48271 % 2147483647:=iL _ (by decide);have b2:(o + 15 * (j:Int) * j + 31 * s + 11) * 48271 % 2147483647 < 2147483647:=j4 _ (by decide);generalize (o + 15 * (j:Int) * j + 31 * s + 11) * 48271 % 2147483647=q at e4 b1 b2;have e5:iD (.int q) (.int q)=.ok (.int (q * q)):=nY (by lia);have e6:=Dq (m:=q * q) (n:=2147483629) (by decide);have c1:0<=q * q % 2147483629:=iL _ (by decide);have c2:q * q % 2147483629 < 2147483629:=j4 _ (by decide);generalize q * q % 2147483629=r at e6 c1 c2;have e7:iD (.int n) (.int 998244353)=.ok (.int (n * 998244353)):=nY (by decide);have e8:iD (.int r) (.int 69621)=.ok (.int (r * 69621)):=nY (by decide);have e9:=Dq (m:=r * 69621) (n:=2147483587) (by decide);generalize r * 69621 % 2147483587=u at e9;have e10:=ZR (m:=u) (n:=7) ⟨by decide,by decide⟩;exact⟨_,_,Zk e0 e1 e2 e3 e4 e5 e6 e7 e8 e9 e10,c1,by lia⟩
theorem Wd(c s:Int)(hs:s=1∨s=2){o:Int}(b1:0<=o)(b2:o < 2147483647):∃(o' n:Int) (a:Sl),wW (aP 4) gq (fC (.int 24)) [.fz (.int c),.fz (.int s),.fz (.int o),.fz (.int 0),.no]=.nx [.fz (.int c),.fz (.int s),.fz (.int o'),.fz (.int n),a]:=by
 obtain⟨ρ',e1,o',n,a,rfl,_⟩:=Dp (h:=aP 4) (g:=gq) (fun ρ=>∃(o n:Int) (a:Sl),ρ=[.fz (.int c),.fz (.int s),.fz (.int o),.fz (.int n),a]/\0<=o/\o < 2147483647)
  (ds:=(cn 24).map fun(i:Nat)=>.int i) (ρ:=[.fz (.int c),.fz (.int s),.fz (.int o),.fz (.int 0),.no]) ⟨_,_,_,rfl,b1,b2⟩ (by
   rintro d hd ρ ⟨o,n,a,rfl,h1,h2⟩;obtain⟨j,hj,rfl⟩:=b0.mp hd;obtain⟨o',n',e,h3,h4⟩:=Wc (c:=c) (s:=s) (n:=n) (j:=j) hs (fg.mp hj) h1 h2;exact⟨_,_,rfl,e,_,_,_,rfl,h3,h4⟩)
 exact⟨o',n,a,Kq (N:=24) bU (by decide) rfl e1⟩
theorem ahn(c s T:Int)(p1:mj (.int 10) (.int 18)=.ok (.int T))(h:decide (T<=c)=true):eU [.int c,.int s]=.ok (.int (c - T)):=by unfold eU oW;simp (config:={ decide:=false }) only[bV,afy,afz,afA,ajx,anD,rN,afB,anE,afC,afD,afE,afF,afG,XD,ig,dz,amS,rK,jC,amU,su,ux,abC,Xm,Gn,amT,bJ,aD,fC,fA,fB,ao,aU,fT,amx,vH,fOr,adD,Ka,Qs,Gg,fL,fSl,fP,amE,toB,toI,XC,mq,jU,aiB,amW,yV,aiC,zp,vZ,tu,XF,XH,Ln,XJ,XM,RJ,wg,anF,anG,anH,anI,anJ,afI,jV,aef,RG,afH,rO,Jj,aP,iT,bW,jg,aZ,ck,ki,cx,fv,i7,p8,qh,yn,og,gz,g9,yo,yy,yz,yA,iX,u6,if_true,if_false,ite_true,ite_false,decide_true,decide_false,dS,j6,aS,reduceIte,reduceCtorEq,p1,h]
theorem aho(c s T o o' n:Int)(a:Sl)(p1:mj (.int 10) (.int 18)=.ok (.int T))(p2:rP (.int c) (.int 2147483629)=.ok (.int o))
  (f1:wW (aP 4) gq (fC (.int 24)) [.fz (.int c),.fz (.int s),.fz (.int o),.fz (.int 0),.no]=.nx [.fz (.int c),.fz (.int s),.fz (.int o'),.fz (.int n),a]) (h:decide (T<=c)=false):eU [.int c,.int s]=.ok (.int n):=by
 unfold eU oW;simp (config:={ decide:=false }) only[bV,afy,afz,afA,ajx,anD,rN,afB,anE,afC,afD,afE,afF,afG,XD,ig,dz,amS,rK,jC,amU,su,ux,abC,Xm,Gn,amT,bJ,aD,fC,fA,fB,ao,aU,fT,amx,vH,fOr,adD,Ka,Qs,Gg,fL,fSl,fP,amE,toB,toI,XC,mq,jU,aiB,amW,yV,aiC,zp,vZ,tu,XF,XH,Ln,XJ,XM,RJ,wg,anF,anG,anH,anI,anJ,afI,jV,aef,RG,afH,rO,Jj,aP,iT,bW,jg,aZ,ck,ki,cx,fv,i7,p8,qh,yn,og,gz,g9,yo,yy,yz,yA,iX,u6,if_true,if_false,ite_true,ite_false,decide_true,decide_false,dS,j6,aS,reduceIte,reduceCtorEq,p1,h,p2,f1]
theorem ahp(c s:Int)(hs:s=1∨s=2):∃n:Int,eU [.int c,.int s]=.ok (.int n):=by
 have p1:mj (.int 10) (.int 18)=.ok (.int (10 ^ Int.toNat 18)):=aee ⟨by decide,by decide,by decide⟩;generalize (10:Int) ^ Int.toNat 18=T at p1;have p2:rP (.int c) (.int 2147483629)=.ok (.int (c % 2147483629)):=Dq (by decide);have b1:0<=c % 2147483629:=iL _ (by decide);have b2:c % 2147483629 < 2147483629:=j4 _ (by decide);obtain⟨o',n,a,f1⟩:=Wd c s hs (o:=c % 2147483629) b1 (by lia);cases h:decide (T<=c) with
 |true=>exact⟨_,ahn c s T p1 h⟩
 |false=>exact⟨_,aho c s T _ o' n a p1 p2 f1 h⟩
theorem p6:mj (.int 10) (.int 6)=.ok (.int 1000000):=by rw[aee ⟨by decide,by decide,by decide⟩];exact congrArg (fun z=>Rs.ok (D.int z)) (by decide)
theorem m6:iD (.int 2) (.int 1000000)=.ok (.int 2000000):=by rw[nY (by decide)];exact congrArg (fun z=>Rs.ok (D.int z)) (by decide)
theorem Zm{n w m:Int}{kvs:List (List Int×D)}{a4 a5 a6 a7 a8:Sl}(hl:kvs.length<=1000000) :
  ∃(n' x y:Int) (b5 b6 b7 b8:Sl),iU [.fz (.int n),.fz (.int w),.fz (.int m),.od kvs,a4,a5,a6,a7,a8]=.nx [.fz (.int n'),.fz (.int w),.fz (.int m),.od (mz kvs [x,y] (.bl true)),a4,b5,b6,b7,b8]:=by
 have d1:=qI (m:=n) (n:=25) ⟨by decide,by decide⟩;generalize n / 25=n1 at d1;generalize n % 25=at_ at d1;have v5:Dd (.int at_) (.int 5)=.ok (.int (at_ / 5)):=ZR ⟨by decide,by decide⟩;have r5:rP (.int at_) (.int 5)=.ok (.int (at_ % 5)):=Dq (by decide);have pl:dU (.int 2000000) (.int 1)=.ok (.int 2000001):=rfl;cases h:decide (w=1) with
 |false =>
  refine⟨n1,at_ / 5 - 2,at_ % 5 - 2,.fz (.int at_),.fz (yT [at_ / 5 - 2,at_ % 5 - 2]),a7,a8,?_⟩;unfold iU;refine aW (ρ1:=[.fz (.int n1),.fz (.int w),.fz (.int m),.od kvs,a4,.fz (.int at_),a6,a7,a8]) (gC (cG (aj (aq rfl) (aj bU aM)) d1) rfl) ?_;refine aW (gR (cG (aj (bf (bf (aq rfl) bU v5) bU jU) (aj (bf (bf (aq rfl) bU r5) bU jU) aM)) (t2 _ _))) ?_;refine aW (dX (mK (bf (aq rfl) bU (by rw[jV,h]))) nP) ?_;exact Jl (ks:=[at_ / 5 - 2,at_ % 5 - 2]) bU rfl (aq rfl) hl
 |true =>
  have d2:=qI (m:=n1) (n:=2000001) ⟨by decide,by decide⟩;generalize n1 / 2000001=n2 at d2;generalize n1 % 2000001=r at d2;have d3:=qI (m:=n2) (n:=2000001) ⟨by decide,by decide⟩;generalize n2 / 2000001=n3 at d3;generalize n2 % 2000001=c at d3;refine⟨n3,r - 1000000,c - 1000000,.fz (.int at_),.fz (yT [r - 1000000,c - 1000000]),.fz (.int r),.fz (.int c),?_⟩;unfold iU;refine aW (ρ1:=[.fz (.int n1),.fz (.int w),.fz (.int m),.od kvs,a4,.fz (.int at_),a6,a7,a8]) (gC (cG (aj (aq rfl) (aj bU aM)) d1) rfl) ?_;refine aW (gR (cG (aj (bf (bf (aq rfl) bU v5) bU jU) (aj (bf (bf (aq rfl) bU r5) bU jU) aM)) (t2 _ _))) ?_;refine aW (ρ1:=[.fz (.int n3),.fz (.int w),.fz (.int m),.od kvs,a4,.fz (.int at_),.fz (yT [r - 1000000,c - 1000000]),.fz (.int r),.fz (.int c)]) (iu (mK (bf (aq rfl) bU (by rw[jV,h]))) ?_) ?_
  ·refine aW (ρ1:=[.fz (.int n2),.fz (.int w),.fz (.int m),.od kvs,a4,.fz (.int at_),.fz (yT [at_ / 5 - 2,at_ % 5 - 2]),.fz (.int r),a8]) (gC (cG (aj (aq rfl) (aj (bf (bf bU (bf bU bU p6) m6) bU pl) aM)) d2) rfl) ?_;refine aW (ρ1:=[.fz (.int n3),.fz (.int w),.fz (.int m),.od kvs,a4,.fz (.int at_),.fz (yT [at_ / 5 - 2,at_ % 5 - 2]),.fz (.int r),.fz (.int c)]) (gC (cG (aj (aq rfl) (aj (bf (bf bU (bf bU bU p6) m6) bU pl) aM)) d3) rfl) ?_;exact gR (cG (aj (bf (aq rfl) (bf bU bU p6) jU) (aj (bf (aq rfl) (bf bU bU p6) jU) aM)) (t2 _ _))
  ·exact Jl (ks:=[r - 1000000,c - 1000000]) bU rfl (aq rfl) hl
theorem Zn{w m:Int}:∀(l:List Nat) (n:Int) (kvs:List (List Int×D)) (a4 a5 a6 a7 a8:Sl),GN kvs->kvs.length + l.length<=1000 ->
  ∃(n':Int) (kvs':List (List Int×D)) (b4 b5 b6 b7 b8:Sl),fJ (aP 4) iU (l.map fun(i:Nat)=>.int i) [.fz (.int n),.fz (.int w),.fz (.int m),.od kvs,a4,a5,a6,a7,a8]=.nx [.fz (.int n'),.fz (.int w),.fz (.int m),.od kvs',b4,b5,b6,b7,b8]/\GN kvs'/\kvs'.length<=kvs.length + l.length/\(kvs.map (·.1)≠[]∨l≠[]->kvs'.map (·.1)≠[]):=by
 intro l
 induction l with
 |nil=>intro n kvs a4 a5 a6 a7 a8 hg _;exact⟨n,kvs,a4,a5,a6,a7,a8,rfl,hg,br _,fun h=>h.elim id fun z=>(z rfl).elim⟩
 |cons i l ih =>
  intro n kvs a4 a5 a6 a7 a8 hg hl;simp only[cx]at hl;obtain⟨n1,x,y,b5,b6,b7,b8,e⟩:=Zm (n:=n) (w:=w) (m:=m) (kvs:=kvs) (a4:=.fz (.int i)) (a5:=a5) (a6:=a6) (a7:=a7) (a8:=a8) (by lia);have lp:=xY kvs [x,y] (.bl true);have mem:[x,y]∈(mz kvs [x,y] (.bl true)).map (·.1):=(Em kvs [x,y] [x,y] (.bl true)).mpr (.inl rfl);obtain⟨n2,asM,c4,c5,c6,c7,c8,e2,g2,l2,ne⟩:=ih n1 (mz kvs [x,y] (.bl true)) (.fz (.int i)) b5 b6 b7 b8 (hg.put x y (.bl true)) (by lia);refine⟨n2,asM,c4,c5,c6,c7,c8,?_,g2,by simp only[cx];lia,fun _=>ne (.inl (List.ne_nil_of_mem mem))⟩;simp only[ck,fJ,aP,g9,gz,e];exact e2
structure Good (L:KL):Prop where
 st:gZ L
 ne:L≠[]
 le:L.length<=12
theorem Good.pr{L:KL}(h:Good L):∀ks∈L,Pair ks:=h.st.pr
theorem aaN(n:Int):∃(n':Int) (L:KL),eV [.int n]=.ok (.tup [.tup (L.map yT),.int n'])/\Good L:=by
 have d1:=qI (m:=n) (n:=8) ⟨by decide,by decide⟩;generalize n / 8=n1 at d1;generalize n % 8=w at d1;have d2:=qI (m:=n1) (n:=5) ⟨by decide,by decide⟩;have u0:0<=n1 % 5:=iL _ (by decide);have u1:n1 % 5 < 5:=j4 _ (by decide);generalize n1 / 5=n2 at d2;generalize n1 % 5=m at d2 u0 u1;have iff:∃(n3 m':Int),(0<=m'/\m' < 12)/\rK (fT (bJ wY (aD 1) (fC (.int 0)))) (jC (fA (ao (aD 0) (ao (fC (.int 12)) aU)) Bl) (iT 2 (bW (aP 0) (bW (aP 2) jg)))) ux [.fz (.int n2),.fz (.int w),.fz (.int m),.no,.no,.no,.no,.no,.no]=.nx [.fz (.int n3),.fz (.int w),.fz (.int m'),.no,.no,.no,.no,.no,.no]:=by
  cases h:decide (w=0) with
  |false=>exact⟨n2,m,⟨u0,by lia⟩,dX (mK (bf (aq rfl) bU (by rw[jV,h]))) nP⟩
  |true=>exact⟨n2 / 12,n2 % 12,⟨iL _ (by decide),j4 _ (by decide)⟩,iu (mK (bf (aq rfl) bU (by rw[jV,h]))) (gC (cG (aj (aq rfl) (aj bU aM)) (qI ⟨by decide,by decide⟩)) rfl)⟩
 obtain⟨n3,m',⟨h0,h12⟩,ei⟩:=iff;obtain⟨M,rfl⟩:∃M:Nat,m'=M:=⟨m'.toNat,by lia⟩
 obtain⟨n4,kvs,b4,b5,b6,b7,b8,e,g,l,ne⟩:=Zn (w:=w) (m:=M) (cn (1 + M)) n3 [] .no .no .no .no .no GN.nil (by rw[i0];simp only[fv];lia);rw[i0,fv]at l;have nn:kvs.map (·.1)≠[]:=ne (.inr (by intro z;have:=congrArg f9 z;rw[i0]at this;simp at this));have sd:vX 3 [.fz (.int n4),.fz (.int w),.fz (.int M),.od kvs,b4,b5,b6,b7,b8]=.ok (.lst ((So.cF (kvs.map (·.1))).map yT)):=by show(if kvs.length < 1000/\∀p∈kvs,p.1≠[] then Rs.ok (D.lst ((So.cF (kvs.map (·.1))).map yT)) else .no)=_;rw[if_pos ⟨by lia,fun p hp=>(g.pr p.1 (gy hp)).ne⟩]
 refine⟨n4,So.cF (kvs.map (·.1)),?_,gZ.sort (show ∀x∈kvs.map (fun p=>p.1),Pair x from g.pr) g.nd,fun z=>nn ?_,by rw[nA,cb];lia⟩
 ·have run:mV (aZ zD [.int n])=.rt (.tup [.tup ((So.cF (kvs.map (·.1))).map yT),.int n4]):=by unfold mV;refine aW (ρ1:=[.fz (.int n1),.fz (.int w),.no,.no,.no,.no,.no,.no,.no]) (gC (cG (aj (aq rfl) (aj bU aM)) d1) rfl) ?_;refine aW (ρ1:=[.fz (.int n2),.fz (.int w),.fz (.int m),.no,.no,.no,.no,.no,.no]) (gC (cG (aj (aq rfl) (aj bU aM)) d2) rfl) ?_;refine aW ei ?_;refine aW (ρ1:=[.fz (.int n3),.fz (.int w),.fz (.int M),.od [],.no,.no,.no,.no,.no]) rfl ?_;refine aW (xq (Kq (n:=1 + (M:Int)) (N:=1 + M) (bf bU (aq rfl) mq) (by lia) (by lia) e)) ?_;exact dG (cG (aj (cG (aj sd aM) rfl) (aj (aq rfl) aM)) (t2 _ _))
  unfold eV;rw[run];rfl
 ·have:=congrArg f9 z;rw[nA]at this;exact ik.mp this
theorem alD(a b r c:Int):lu [yT [a,b],yT [r,c]]=.ok (yT [a + r,b + c]):=by kernel_rfl
theorem Wf(a b r c:Int):cO [yT [a,b],yT [r,c]]=.ok (yT [a - r,b - c]):=by kernel_rfl
theorem PL(a b r c:Int):cZ [yT [a,b],yT [r,c]]=.ok (yT [a + r,b + c]):=by kernel_rfl
def wh(A O:KL)(p:List Int):Bool:=O.all fun t=>decide (ad p t∈A)
def df(A O:KL)(p:List Int):KL:=So.cF (Rp (Tb.bT (O.map (ad p))) (Tb.bT A))
theorem ahq{A O:KL}{p x:List Int}:x∈df A O p↔(∃t∈O,ad p t=x)/\x∉A:=by unfold df;rw[zq,Ed,kj,kj,b0]
theorem ahr{A O:KL}{p:List Int}:decide (df A O p=[])=wh A O p:=by
 unfold wh;rw[ym,decide_eq_true_iff,ko];constructor
 ·intro h t ht;refine decide_eq_true (sf fun c=>?_);have:ad p t∈df A O p:=ahq.mpr ⟨⟨t,ht,rfl⟩,c⟩;rw[h]at this;cases this
 ·intro h;refine List.eq_nil_iff_forall_not_mem.mpr fun x hx=>?_;obtain⟨⟨t,ht,rfl⟩,c⟩:=ahq.mp hx;exact c (of_decide_eq_true (h t ht))
theorem akH{O:KL}(hO:Good O)(x y:Int):yj [sh O false,yT [x,y]]=.ok (sh (O.map (ad [x,y])) false):=by
 have c1:cM (aP 0) (fun _=>.ok true) Ju 1 [1] (fL (bJ fO (aD 0) (fC (.int 0))) Ga) [.fz (sh O false),.fz (yT [x,y])]=.ok (.lst ((O.map (ad [x,y])).map yT)):=by rw[d5];refine iB (cs:=[.fz (yT [x,y])]) rfl rfl (fun ks hk=>?_) (cz hO.le (by decide));obtain⟨a,b,rfl⟩:=hO.pr ks hk;have:=PL a b x y;rw[show [a + x,b + y]=ad [x,y] [a,b] by unfold ad;simp[u7]]at this;exact cG (aj (aq rfl) (aj (aq rfl) aM)) (bI rfl this)
 have run:Cr (aZ zb [sh O false,yT [x,y]])=.rt (sh (O.map (ad [x,y])) false):=by unfold Cr;exact dG (cG (aj (cG (aj c1 aM) tu) (aj (bf (aq rfl) bU rfl) aM)) (t2 _ _))
 unfold yj;rw[run];rfl
theorem Zo{O:KL}(hO:Good O)(x y:Int):pI [.tup (O.map yT),yT [x,y]]=.ok (sh (O.map (ad [x,y])) false):=by
 have run:Ma (aZ zi [.tup (O.map yT),yT [x,y]])=.rt (sh (O.map (ad [x,y])) false):=by unfold Ma;exact dG (cG (aj (cG (aj (aq rfl) (aj bU aM)) (t2 _ _)) (aj (aq rfl) aM)) (bI rfl (akH hO x y)))
 unfold pI;rw[run];rfl
theorem ahs{L A:KL}(hp:∀x∈L,Pair x)(hl:L.length<=12)(ha:A.length<=12):wB [sh L false,sh A true]=.ok (sh (So.cF (Rp (Tb.bT L) (Tb.bT A))) false):=by
 have n1:=Tb.jZ L;have n2:=Tb.jZ A;have g1:fK (bJ fO (aD 0) (fC (.int 0))) [.fz (sh L false),.fz (sh A true)]=.ok (Tb.bT L):=aql (bf (aq rfl) bU rfl) (by lia);have g2:fK (bJ fO (aD 1) (fC (.int 0))) [.fz (sh L false),.fz (sh A true)]=.ok (Tb.bT A):=aql (bf (aq rfl) bU rfl) (by lia);have run:LR (aZ y7 [sh L false,sh A true])=.rt (sh (So.cF (Rp (Tb.bT L) (Tb.bT A))) false):=by unfold LR;refine aW (dX (Ci (mK (bf (aq rfl) bU rfl))) nP) (aW (dX (mK (bf (aq rfl) bU rfl)) nP) (nO (iu (mK (bf (aq rfl) bU rfl)) ?_)));exact dG (cG (aj (cG (aj (afJ (aqm g1 g2 (show Xl _ _ from⟨by lia,by lia⟩)) (fun x hx=>hp x (kj.mp (Ed.mp hx).1)) (jn (qf _ _) (by lia))) aM) tu) (aj bU aM)) (t2 _ _))
 unfold wB;rw[run];rfl
theorem Jz{k:KL}:nF [sh k false]=.ok (sh k true):=rfl
theorem akI{A O:KL}(hA:Good A)(hO:Good O)(x y:Int):oh [sh A false,.tup (O.map yT),yT [x,y]]=.ok (.bl (wh A O [x,y])):=by
 have pr:∀z∈O.map (ad [x,y]),Pair z:=fun z hz=>by obtain⟨t,_,rfl⟩:=b0.mp hz;exact⟨_,_,rfl⟩
 have hb:=ahs (L:=O.map (ad [x,y])) (A:=A) pr (by rw[cb];exact hO.le) hA.le;have hw:tL [sh (O.map (ad [x,y])) false,sh A false]=.ok (.bl (wh A O [x,y])):=by
  have run:yh (aZ y7 [sh (O.map (ad [x,y])) false,sh A false])=.rt (.bl (wh A O [x,y])):=by unfold yh;rw[<- ahr];exact dG (bf (cG (aj (aq rfl) (aj (cG (aj (aq rfl) aM) (bI rfl Jz)) aM)) (bI rfl hb)) (cG (aj (cG aM (alk (by simp))) (aj bU aM)) (t2 _ _)) (abO _))
  unfold tL;rw[run];rfl
 have run:qZ (aZ zd [sh A false,.tup (O.map yT),yT [x,y]])=.rt (.bl (wh A O [x,y])):=by unfold qZ;exact dG (cG (aj (cG (aj (aq rfl) (aj (aq rfl) aM)) (bI rfl (Zo hO x y))) (aj (aq rfl) aM)) (bI rfl hw))
 unfold oh;rw[run];rfl
theorem acL{A O:KL}(hA:Good A)(hO:Good O)(x y:Int):jM [sh A false,.tup (O.map yT),yT [x,y]]=.ok (.tup ((df A O [x,y]).map yT)):=by
 have pr:∀z∈O.map (ad [x,y]),Pair z:=fun z hz=>by obtain⟨t,_,rfl⟩:=b0.mp hz;exact⟨_,_,rfl⟩
 have hb:=ahs (L:=O.map (ad [x,y])) (A:=A) pr (by rw[cb];exact hO.le) hA.le;have run:mU (aZ zk [sh A false,.tup (O.map yT),yT [x,y]])=.rt (.tup ((df A O [x,y]).map yT)):=by unfold mU;exact dG (bf (cG (aj (cG (aj (aq rfl) (aj (aq rfl) aM)) (bI rfl (Zo hO x y))) (aj (cG (aj (aq rfl) aM) (bI rfl Jz)) aM)) (bI rfl hb)) bU rfl)
 unfold jM;rw[run];rfl
def Wp(A O:KL)(st:List Int):KL:=(O.map (mi st)).filter (wh A O)
theorem akJ{W:KL}(h:W≠[]):Jh [.lst (W.map yT)]=.ok (yT (mQ W)):=by simp only[Jh,uG];rw[if_pos (n_.mpr h)]
theorem ix0{L:KL}(h:L≠[]):fO (.tup (L.map yT)) (.int 0)=.ok (yT (L.headD [])):=by
 cases L with
 |nil=>exact(h rfl).elim
 |cons x L=>simp only[ck,RG,rO];rfl
theorem aqK{A O:KL}(hA:Good A)(hO:Good O)(x y:Int) :
  ∃G,jo [sh A false,.tup (O.map yT),yT [x,y]]=.ok (if Wp A O [x,y]=[] then .tup [.str "goes",.lst G] else .tup [.str "stays",yT (mQ (Wp A O [x,y]))]):=by
 have c1:cM (aP 0) (fun _=>.ok true) yq 1 [2] (fL (aD 1) Ga) [.fz (sh A false),.fz (.tup (O.map yT)),.fz (yT [x,y]),.no,.no]=.ok (.lst ((O.map (mi [x,y])).map yT)):=by rw[d5];refine iB (cs:=[.fz (yT [x,y])]) rfl rfl (fun ks hk=>?_) (cz hO.le (by decide));obtain⟨a,b,rfl⟩:=hO.pr ks hk;exact cG (aj (aq rfl) (aj (aq rfl) aM)) (bI rfl (Wf x y a b))
 have pr:∀ks∈O.map (mi [x,y]),Pair ks:=fun ks hk=>by obtain⟨t,_,rfl⟩:=b0.mp hk;exact⟨_,_,rfl⟩
 have ll:(O.map (mi [x,y])).length<=1000:=by rw[cb];exact cz hO.le (by decide)
 have c2:cM (aP 0) yt yr 1 [0,1] (fL (aD 3) asL) [.fz (sh A false),.fz (.tup (O.map yT)),.fz (yT [x,y]),.fz (.lst ((O.map (mi [x,y])).map yT)),.no]=.ok (.lst ((Wp A O [x,y]).map yT)):=by refine zu (cs:=[.fz (sh A false),.fz (.tup (O.map yT))]) rfl rfl (fun ks hk=>?_) (fun ks hk=>aq rfl) ll;obtain⟨a,b,rfl⟩:=pr ks hk;exact mK (cG (aj (aq rfl) (aj (aq rfl) (aj (aq rfl) aM))) (bI rfl (akI hA hO a b)))
 by_cases h:Wp A O [x,y]=[]
 ·refine⟨(O.map (mi [x,y])).map fun ks=>.tup [yT ks,yT ((df A O ks).headD [])],?_⟩;rw[if_pos h];have c3:cM (aP 0) (fun _=>.ok true) yu 1 [0,1] (fL (aD 3) asL) [.fz (sh A false),.fz (.tup (O.map yT)),.fz (yT [x,y]),.fz (.lst ((O.map (mi [x,y])).map yT)),.fz (.lst ((Wp A O [x,y]).map yT))]=.ok (.lst ((O.map (mi [x,y])).map fun ks=>.tup [yT ks,yT ((df A O ks).headD [])])):=by
   refine iB (cs:=[.fz (sh A false),.fz (.tup (O.map yT))]) rfl rfl (fun ks hk=>?_) ll;obtain⟨a,b,e⟩:=pr ks hk;have nw:wh A O ks=false:=by
    cases c:wh A O ks with
    |false=>rfl
    |true =>
     have:ks∈Wp A O [x,y]:=e_.mpr ⟨hk,c⟩;rw[h]at this;cases this
   have nn:df A O ks≠[]:=fun z=>by have:=ahr (A:=A) (O:=O) (p:=ks);rw[nw,decide_eq_true z]at this;cases this
   subst e;exact cG (aj (aq rfl) (aj (bf (cG (aj (aq rfl) (aj (aq rfl) (aj (aq rfl) aM))) (bI rfl (acL hA hO a b))) bU (ix0 nn)) aM)) (t2 _ _)
  have run:kO (aZ y8 [sh A false,.tup (O.map yT),yT [x,y]])=.rt (.tup [.str "goes",.lst ((O.map (mi [x,y])).map fun ks=>.tup [yT ks,yT ((df A O ks).headD [])])]):=by unfold kO;refine aW (gR c1) (aW (gR c2) (aW (dX (mK (bf (cG (aj (aq rfl) aM) zp) bU (by rw[yV,h];rfl))) nP) ?_));exact dG (cG (aj bU (aj c3 aM)) (t2 _ _))
  unfold jo;rw[run];rfl
 ·refine⟨[],?_⟩;rw[if_neg h];have run:kO (aZ y8 [sh A false,.tup (O.map yT),yT [x,y]])=.rt (.tup [.str "stays",yT (mQ (Wp A O [x,y]))]):=by unfold kO;refine aW (gR c1) (aW (gR c2) (nO (iu (mK (bf (cG (aj (aq rfl) aM) zp) bU (by rw[yV,decide_eq_true (by rw[cb];have:=n_.mpr h;lia)]))) ?_)));exact dG (cG (aj bU (aj (cG (aj (aq rfl) aM) (akJ h)) aM)) (t2 _ _))
  unfold jo;rw[run];rfl
def Cy(A O:KL):KL->KL->Option (List Int)×KL
 | [],acc=>(none,acc)
 |st::M,acc=>if Wp A O st=[] then (some st,acc) else Cy A O M (acc++[mQ (Wp A O st)])
def ans(r:Option (List Int)×KL):D:=match r.1 with|some st=>.tup [.str "parted",yT st]|none=>.tup [.str "within",.lst (r.2.map yT)]
theorem aon{ρ:aK}{i:Nat}{acc:KL}{x:List Int}{f:aK->Rs D}(hi:ρ[i]?=some (.ow (acc.map yT)))(hf:f ρ=.ok (yT x))(hl:acc.length < 1000000):Xm i f ρ=.nx (ρ.set i (.ow ((acc++[x]).map yT))):=by unfold Xm;rw[hi];show oR (f ρ) ρ _=_;rw[hf];show(if (acc.map yT).length < 1000000 then Ou.nx _ else .no)=_;rw[if_pos (by rw[cb];exact hl),k7];rfl
theorem FN{A O:KL}(hA:Good A)(hO:Good O):∀(M acc:KL) (a3 a4:Sl),(∀ks∈M,Pair ks)->acc.length + M.length < 1000 ->
  ∃b3 b4,fJ (aP 3) kW (M.map yT) [.fz (.tup (A.map yT)),.fz (.tup (O.map yT)),.ow (acc.map yT),a3,a4] =
   (match (Cy A O M acc).1 with|some st=>.rt (.tup [.str "parted",yT st])|none=>.nx [.fz (.tup (A.map yT)),.fz (.tup (O.map yT)),.ow ((Cy A O M acc).2.map yT),b3,b4])
 | [],acc,a3,a4,_,_=>⟨a3,a4,rfl⟩
 |st::M,acc,a3,a4,hp,hl=>by
  obtain⟨x,y,rfl⟩:=hp st (.head _);obtain⟨G,hw⟩:=aqK hA hO x y;simp only[cx]at hl;have call:(fA (ao (fA (ao (aD 0) (ao (fC (.bl false)) aU)) dF) (ao (aD 1) (ao (aD 3) aU))) (bA 3 jo)) [.fz (.tup (A.map yT)),.fz (.tup (O.map yT)),.ow (acc.map yT),.fz (yT [x,y]),a4]=.ok (if Wp A O [x,y]=[] then .tup [.str "goes",.lst G] else .tup [.str "stays",yT (mQ (Wp A O [x,y]))]) :=
   cG (aj (cG (aj (aq rfl) (aj bU aM)) (t2 _ _)) (aj (aq rfl) (aj (aq rfl) aM))) (bI rfl hw)
  by_cases h:Wp A O [x,y]=[]
  ·refine⟨a3,a4,?_⟩;rw[if_pos h]at call;have e:Cy A O ([x,y]::M) acc=(some [x,y],acc):=by simp only[Cy];rw[if_pos h]
   rw[e];have st:kW [.fz (.tup (A.map yT)),.fz (.tup (O.map yT)),.ow (acc.map yT),.fz (yT [x,y]),a4]=.rt (.tup [.str "parted",yT [x,y]]):=by unfold kW;refine aW (gR call) (nO (iu (mK (bf (bf (aq rfl) bU rfl) bU rfl)) ?_));exact dG (cG (aj bU (aj (aq rfl) aM)) (t2 _ _))
   simp only[ck,fJ,aP,g9,gz,st]
  ·rw[if_neg h]at call;have e:Cy A O ([x,y]::M) acc=Cy A O M (acc++[mQ (Wp A O [x,y])]):=by simp only[Cy];rw[if_neg h]
   rw[e];have st:kW [.fz (.tup (A.map yT)),.fz (.tup (O.map yT)),.ow (acc.map yT),.fz (yT [x,y]),a4]=.nx [.fz (.tup (A.map yT)),.fz (.tup (O.map yT)),.ow ((acc++[mQ (Wp A O [x,y])]).map yT),.fz (yT [x,y]),.fz (.tup [.str "stays",yT (mQ (Wp A O [x,y]))])]:=by unfold kW;refine aW (gR call) (aW (dX (mK (bf (bf (aq rfl) bU rfl) bU rfl)) nP) ?_);exact aon rfl (bf (aq rfl) bU rfl) (by lia)
   obtain⟨b3,b4,ih⟩:=FN hA hO M (acc++[mQ (Wp A O [x,y])]) (.fz (yT [x,y])) (.fz (.tup [.str "stays",yT (mQ (Wp A O [x,y]))])) (fun ks hk=>hp ks (.tail _ hk)) (by simp only[eR,cx,fv];lia);refine⟨b3,b4,?_⟩;simp only[ck,fJ,aP,g9,gz,st];exact ih
theorem aaO{A O:KL}(hA:Good A)(hO:Good O):uQ [.tup (A.map yT),.tup (O.map yT)]=.ok (ans (Cy A O A [])):=by
 have la:=hA.le;obtain⟨b3,b4,lp⟩:=FN hA hO A [] .no .no hA.pr (by simp only[fv];lia);have run:Cu (aZ zw [.tup (A.map yT),.tup (O.map yT)])=.rt (ans (Cy A O A [])):=by
  unfold Cu;refine aW (ρ1:=[.fz (.tup (A.map yT)),.fz (.tup (O.map yT)),.ow [],.no,.no]) rfl ?_;have fr:=WR (h:=aP 3) (g:=kW) (fa:=aD 0) (ρ:=[.fz (.tup (A.map yT)),.fz (.tup (O.map yT)),.ow [],.no,.no]) (aq rfl) lp;unfold ans;cases c:(Cy A O A []).1 with
  |some st =>
   rw[c]at fr;refine nO ?_;unfold su;rw[fr];rfl
  |none =>
   rw[c]at fr;refine aW (xq fr) ?_;show(dz _) (Ak 2 _)=_;exact dG (cG (aj bU (aj (aq rfl) aM)) (t2 _ _))
 unfold uQ;rw[run];rfl
theorem Wg{aH:KL}(hl:aH.length < 1000)(hp:∀ks∈aH,Pair ks):nZ [.lst (aH.map yT)]=.ok (.tup ((rise aH).map yT)):=by have e:aZ ["cells"] [.lst (aH.map yT)]=[.fz (.lst (aH.map yT))]:=rfl;unfold nZ Ep;rw[e];rw[dG (cG (aj (ajz (aq rfl) hl fun ks hk=>(hp ks hk).ne) aM) rfl)];rfl
def ng(t:List Int):List Int:=[-(c0 t),-(c1 t)]
def Gb(O:KL):KL:=rise (O.map ng)
theorem yH{O:KL}{x:List Int}:x∈Gb O↔∃t∈O,ng t=x:=by unfold Gb;rw[xX,b0]
theorem Wh{O:KL}(hO:Good O):Good (Gb O):=by
 refine⟨gZ.rise fun x hx=>by obtain⟨t,_,rfl⟩:=b0.mp hx;exact⟨_,_,rfl⟩,?_,cz (RK _) (by rw[cb];exact hO.le)⟩;intro z;cases O with
 |nil=>exact hO.ne rfl
 |cons o O=>exact gd (z▸yH.mpr ⟨o,dA,rfl⟩:ng o∈[])
theorem Zq{O:KL}(hO:Good O):jm [.tup (O.map yT)]=.ok (.tup ((Gb O).map yT)):=by
 have lo:=hO.le;have c1:cM (aP 0) (fun _=>.ok true) yp 1 [] (fL (aD 0) Ga) [.fz (.tup (O.map yT))]=.ok (.lst ((O.map ng).map yT)):=by rw[d5];refine iB (cs:=[]) rfl rfl (fun ks hk=>?_) (cz hO.le (by decide));obtain⟨a,b,rfl⟩:=hO.pr ks hk;exact cG (aj (ZQ (bf (aq rfl) bU rfl)) (aj (ZQ (bf (aq rfl) bU rfl)) aM)) (t2 _ _)
 have rs:=Wg (aH:=O.map ng) (by rw[cb];lia) (fun x hx=>by obtain⟨t,_,rfl⟩:=b0.mp hx;exact⟨_,_,rfl⟩);have run:qY (aZ ["piece"] [.tup (O.map yT)])=.rt (.tup ((Gb O).map yT)):=by unfold qY;exact dG (cG (aj c1 aM) (bI rfl rs))
 unfold jm;rw[run];rfl
def jD(A:KL):KL->KL
 | []=>[]
 |t::O=>A.map (fun a=>ad a t)++jD A O
theorem qw{A:KL}{x:List Int}:∀{O:KL},x∈jD A O↔∃a∈A,∃t∈O,ad a t=x
 | []=>by simp[jD]
 |t::O=>by
  simp only[jD,d9,b0,qw (O:=O),bz];constructor
  ·rintro(⟨a,ha,e⟩|⟨a,ha,u,hu,e⟩)
   ·exact⟨a,ha,t,.inl rfl,e⟩
   ·exact⟨a,ha,u,.inr hu,e⟩
  ·rintro⟨a,ha,u,rfl|hu,e⟩
   ·exact .inl ⟨a,ha,e⟩
   ·exact .inr ⟨a,ha,u,hu,e⟩
theorem FP{A:KL}:∀{O:KL},(jD A O).length=O.length * A.length
 | []=>by simp[jD]
 |t::O=>by simp only[jD,eR,cb,cx,FP (O:=O),va,vc];lia
theorem aoo{ρ:aK}{i:Nat}{acc es:KL}{f:aK->Rs D}(hi:ρ[i]?=some (.ow (acc.map yT)))(hf:f ρ=.ok (.lst (es.map yT)))(hl:acc.length + es.length<=1000000):Ji i f ρ=.nx (ρ.set i (.ow ((acc++es).map yT))):=by unfold Ji;rw[hi];dsimp only;rw[hf];simp only[ajx];rw[if_pos (by simpa using hl),k7]
theorem JB{A:KL}(hA:∀x∈A,Pair x)(ha:A.length<=1000){a1:Sl}:∀(O acc:KL) (a3:Sl),(∀x∈O,Pair x)->acc.length + O.length * A.length<=1000000 ->
  ∃b3,fJ (aP 3) mR (O.map yT) [.fz (.tup (A.map yT)),a1,.ow (acc.map yT),a3]=.nx [.fz (.tup (A.map yT)),a1,.ow ((acc++jD A O).map yT),b3]
 | [],acc,a3,_,_=>⟨a3,by simp[jD,fJ]⟩
 |t::O,acc,a3,hO,hl=>by
  have ht:=hO t (.head _);rw[cx,va,vc]at hl;have c1:cM (aP 0) (fun _=>.ok true) yg 1 [3] (fL (aD 0) Ga) [.fz (.tup (A.map yT)),a1,.ow (acc.map yT),.fz (yT t)]=.ok (.lst ((A.map fun a=>ad a t).map yT)):=by rw[d5];exact iB (cs:=[.fz (yT t)]) rfl (v_l (aq rfl) rfl) (fun ks hk=>cG (aj (aq rfl) (aj (aq rfl) aM)) (bI rfl (pN _ _ (hA ks hk) ht))) ha
  have st:mR [.fz (.tup (A.map yT)),a1,.ow (acc.map yT),.fz (yT t)]=.nx [.fz (.tup (A.map yT)),a1,.ow ((acc++A.map fun a=>ad a t).map yT),.fz (yT t)]:=by unfold mR;exact aoo rfl c1 (by rw[cb];lia)
  obtain⟨b3,e⟩:=JB hA ha (a1:=a1) O (acc++A.map fun a=>ad a t) (.fz (yT t)) (fun x hx=>hO x (.tail _ hx)) (by rw[eR,cb];lia);refine⟨b3,?_⟩;simp only[ck,fJ,aP,g9,gz,st];rw[jS]at e;exact e
theorem FQ{A O:KL}(hA:∀x∈A,Pair x)(hO:∀x∈O,Pair x)(ha:A.length<=1000)(hl:O.length * A.length < 1000):jl [.tup (A.map yT),.tup (O.map yT)]=.ok (.tup ((rise (jD A O)).map yT)):=by
 obtain⟨b3,e⟩:=JB hA ha (a1:=.fz (.tup (O.map yT))) O [] .no hO (by simp only[fv];lia);rw[qh]at e;have rs:=Wg (aH:=jD A O) (by rw[FP];exact hl) (fun x hx=>by obtain⟨a,_,t,_,rfl⟩:=qw.mp hx;exact uK _ _);have run:qX (aZ zh [.tup (A.map yT),.tup (O.map yT)])=.rt (.tup ((rise (jD A O)).map yT)):=by unfold qX;refine aW (ρ1:=[.fz (.tup (A.map yT)),.fz (.tup (O.map yT)),.ow (([]:KL).map yT),.no]) rfl (aW (xq (WR (aq rfl) e)) ?_);show dz _ (Ak 2 [.fz (.tup (A.map yT)),.fz (.tup (O.map yT)),.ow ((jD A O).map yT),b3])=_;rw[show Ak 2 [.fz (.tup (A.map yT)),.fz (.tup (O.map yT)),.ow ((jD A O).map yT),b3]=[.fz (.tup (A.map yT)),.fz (.tup (O.map yT)),.fz (.lst ((jD A O).map yT)),b3] from rfl];exact dG (cG (aj (aq rfl) aM) (bI rfl rs))
 unfold jl;rw[run];rfl
def opn(A:KL)(b:Bool)(O:KL):KL:=if b then FJ (rise (jD A (Gb O))) (Gb O) else rise (jD (FJ A O) O)
theorem akK{A O:KL}:(FJ A O).length<=A.length:=by unfold FJ;exact cz (qf _ _) (by rw[cb];exact br _)
theorem aht{A O:KL}(hA:gZ A):gZ (FJ A O):=(hA.aqw _).filter _
theorem PN{A O:KL}:∀x∈jD A O,Pair x:=fun x hx=>by obtain⟨a,_,t,_,rfl⟩:=qw.mp hx;exact uK _ _
theorem yI{A O:KL}{b:Bool}(hA:gZ A)(ha:A.length<=70)(hO:Good O):jQ [sh A b,.tup (O.map yT)]=.ok (sh (opn A b O) b):=by
 have lo:=hO.le;cases b with
 |false =>
  have e1:=Wb hA (by lia) hO.st (by lia) hO.ne;have lp:=akK (A:=A) (O:=O);have r1:rD [sh A false,.tup (O.map yT)]=.ok (sh (FJ A O) false):=by
   have run:uT (aZ y4 [sh A false,.tup (O.map yT)])=.rt (sh (FJ A O) false):=by unfold uT;exact aW (dX (mK (bf (aq rfl) bU rfl)) nP) (dG (cG (aj (cG (aj (bf (aq rfl) bU rfl) (aj (aq rfl) aM)) (bI rfl e1)) (aj bU aM)) (t2 _ _)))
   unfold rD;rw[run];rfl
  have hm:O.length * (FJ A O).length<=12 * 70:=Nat.mul_le_mul lo (by lia);have e2:=FQ (A:=FJ A O) (O:=O) (aht hA).pr hO.pr (by lia) (by lia);have r2:rC [sh (FJ A O) false,.tup (O.map yT)]=.ok (sh (rise (jD (FJ A O) O)) false):=by
   have run:uR (aZ y4 [sh (FJ A O) false,.tup (O.map yT)])=.rt (sh (rise (jD (FJ A O) O)) false):=by unfold uR;exact aW (dX (mK (bf (aq rfl) bU rfl)) nP) (dG (cG (aj (cG (aj (bf (aq rfl) bU rfl) (aj (aq rfl) aM)) (bI rfl e2)) (aj bU aM)) (t2 _ _)))
   unfold rC;rw[run];rfl
  have run:qj (aZ y4 [sh A false,.tup (O.map yT)])=.rt (sh (opn A false O) false):=by unfold qj;exact dG (cG (aj (cG (aj (aq rfl) (aj (aq rfl) aM)) (bI rfl r1)) (aj (aq rfl) aM)) (bI rfl r2))
  unfold jQ;rw[run];rfl
 |true =>
  have gm:=Wh hO;have lm:=gm.le;have em:=Zq hO;have hm:(Gb O).length * A.length<=12 * 70:=Nat.mul_le_mul lm ha;have e1:=FQ (A:=A) (O:=Gb O) hA.pr gm.pr (by lia) (by lia);have r1:rD [sh A true,.tup (O.map yT)]=.ok (sh (rise (jD A (Gb O))) true):=by
   have run:uT (aZ y4 [sh A true,.tup (O.map yT)])=.rt (sh (rise (jD A (Gb O))) true):=by unfold uT;exact nO (iu (mK (bf (aq rfl) bU rfl)) (dG (cG (aj (cG (aj (bf (aq rfl) bU rfl) (aj (cG (aj (aq rfl) aM) (bI rfl em)) aM)) (bI rfl e1)) (aj bU aM)) (t2 _ _))))
   unfold rD;rw[run];rfl
  have ls:(rise (jD A (Gb O))).length<=900:=cz (RK _) (by rw[FP];lia);have e2:=Wb (A:=rise (jD A (Gb O))) (O:=Gb O) (gZ.rise PN) ls gm.st (by lia) gm.ne;have r2:rC [sh (rise (jD A (Gb O))) true,.tup (O.map yT)]=.ok (sh (FJ (rise (jD A (Gb O))) (Gb O)) true):=by
   have run:uR (aZ y4 [sh (rise (jD A (Gb O))) true,.tup (O.map yT)])=.rt (sh (FJ (rise (jD A (Gb O))) (Gb O)) true):=by unfold uR;exact nO (iu (mK (bf (aq rfl) bU rfl)) (dG (cG (aj (cG (aj (bf (aq rfl) bU rfl) (aj (cG (aj (aq rfl) aM) (bI rfl em)) aM)) (bI rfl e2)) (aj bU aM)) (t2 _ _))))
   unfold rC;rw[run];rfl
  have run:qj (aZ y4 [sh A true,.tup (O.map yT)])=.rt (sh (opn A true O) true):=by unfold qj;exact dG (cG (aj (cG (aj (aq rfl) (aj (aq rfl) aM)) (bI rfl r1)) (aj (aq rfl) aM)) (bI rfl r2))
  unfold jQ;rw[run];rfl
theorem ahu{A:KL}{b:Bool}{O:KL}:gZ (opn A b O):=by
 unfold opn;cases b with
 |true=>exact aht (gZ.rise PN)
 |false=>exact gZ.rise PN
theorem PX{A O:KL}(ne:O≠[]){p:List Int}:p∈FJ A O↔Pair p/\∀t∈O,ad p t∈A:=by
 cases O with
 |nil=>exact(ne rfl).elim
 |cons o O =>
  unfold FJ;rw[e_,b0,ko];constructor
  ·rintro⟨⟨x,hx,rfl⟩,h⟩;exact⟨uL _ _,fun t ht=>of_decide_eq_true (h t ht)⟩
  ·rintro⟨pp,h⟩;refine⟨⟨ad p o,h o dA,?_⟩,fun t ht=>decide_eq_true (h t ht)⟩;rw[lU pp];show [c0 p + c0 o - c0 o,c1 p + c1 o - c1 o]=[c0 p,c1 p]
   rw[ve,ve]
theorem ahv{A O:KL}(ne:O≠[]){x:List Int}:x∈opn A false O↔∃p,(Pair p/\∀t∈O,ad p t∈A)/\∃t∈O,ad p t=x:=by
 show x∈rise (jD (FJ A O) O)↔_;rw[xX,qw];constructor
 ·rintro⟨p,hp,r⟩;exact⟨p,(PX ne).mp hp,r⟩
 ·rintro⟨p,hp,r⟩;exact⟨p,(PX ne).mpr hp,r⟩
theorem alE{A O:KL}(hO:Good O){p:List Int}:p∈opn A true O↔Pair p/\∀t∈O,∃a∈A,∃u∈O,ad a (ng u)=ad p (ng t):=by
 show p∈FJ (rise (jD A (Gb O))) (Gb O)↔_;rw[PX (Wh hO).ne];refine and_congr Iff.rfl ⟨fun h t ht=>?_,fun h t' ht'=>?_⟩
 ·have:=h (ng t) (yH.mpr ⟨t,ht,rfl⟩);rw[xX,qw]at this;obtain⟨a,ha,u',hu',e⟩:=this;obtain⟨u,hu,rfl⟩:=yH.mp hu';exact⟨a,ha,u,hu,e⟩
 ·obtain⟨t,ht,rfl⟩:=yH.mp ht';obtain⟨a,ha,u,hu,e⟩:=h t ht;rw[xX,qw];exact⟨a,ha,ng u,yH.mpr ⟨u,hu,rfl⟩,e⟩
theorem Aj{a b c d:List Int}(h0:c0 a + c0 b=c0 c + c0 d)(h1:c1 a + c1 b=c1 c + c1 d):ad a b=ad c d:=by
 show [c0 a + c0 b,c1 a + c1 b]=[c0 c + c0 d,c1 c + c1 d]
 rw[h0,h1]
theorem ahw{a b c d:List Int}(h:ad a b=ad c d):c0 a + c0 b=c0 c + c0 d/\c1 a + c1 b=c1 c + c1 d:=⟨congrArg c0 h,congrArg c1 h⟩
theorem acM{X O:KL}{b:Bool}{d:List Int}(hO:Good O)(hO2:Good (O.map (ad d))):opn X b (O.map (ad d))=opn X b O:=by
 refine ahu.ext ahu fun x=>?_;cases b with
 |false =>
  rw[ahv hO2.ne,ahv hO.ne];constructor
  ·rintro⟨p,⟨pp,h⟩,t,ht,e⟩;obtain⟨u,hu,rfl⟩:=b0.mp ht;have as:∀v,ad p (ad d v)=ad (ad p d) v:=fun v=>Aj (show c0 p + (c0 d + c0 v)=c0 p + c0 d + c0 v by lia) (show c1 p + (c1 d + c1 v)=c1 p + c1 d + c1 v by lia);exact⟨ad p d,⟨uK _ _,fun v hv=>by rw[<- as];exact h _ (gy hv)⟩,u,hu,by rw[<- as];exact e⟩
  ·rintro⟨p,⟨pp,h⟩,t,ht,e⟩;have as:∀v,ad (mi p d) (ad d v)=ad p v:=fun v=>Aj (show c0 p - c0 d + (c0 d + c0 v)=c0 p + c0 v by lia) (show c1 p - c1 d + (c1 d + c1 v)=c1 p + c1 v by lia);refine⟨mi p d,⟨uL _ _,fun v hv=>?_⟩,ad d t,gy ht,by rw[as];exact e⟩;obtain⟨u,hu,rfl⟩:=b0.mp hv;rw[as];exact h u hu
 |true =>
  rw[alE hO2,alE hO];refine and_congr Iff.rfl ⟨fun h t ht=>?_,fun h t ht=>?_⟩
  ·obtain⟨a,ha,u,hu,e⟩:=h (ad d t) (gy ht);obtain⟨w,hw,rfl⟩:=b0.mp hu;obtain⟨e0,e1⟩:=ahw e;have e0':c0 a + -(c0 d + c0 w)=c0 x + -(c0 d + c0 t):=e0;have e1':c1 a + -(c1 d + c1 w)=c1 x + -(c1 d + c1 t):=e1;exact⟨a,ha,w,hw,Aj (show c0 a + -(c0 w)=c0 x + -(c0 t) by lia) (show c1 a + -(c1 w)=c1 x + -(c1 t) by lia)⟩
  ·obtain⟨t',ht',rfl⟩:=b0.mp ht;obtain⟨a,ha,u,hu,e⟩:=h t' ht';obtain⟨e0,e1⟩:=ahw e;have e0':c0 a + -(c0 u)=c0 x + -(c0 t'):=e0;have e1':c1 a + -(c1 u)=c1 x + -(c1 t'):=e1;exact⟨a,ha,ad d u,gy hu,Aj (show c0 a + -(c0 d + c0 u)=c0 x + -(c0 d + c0 t') by lia) (show c1 a + -(c1 d + c1 u)=c1 x + -(c1 d + c1 t') by lia)⟩
theorem qQ:∀{L M:KL},L.Nodup->(∀x∈L,x∈M)->L.length<=M.length
 | [],M,_,_=>eC _
 |x::L,M,nd,h=>by obtain⟨n1,n2⟩:=eQ.mp nd;have hx:=h x (.head _);have:=qQ (L:=L) (M:=M.erase x) n2 fun y hy=>(List.mem_erase_of_ne (fun e:y=x=>n1 (by rw[<- e];exact hy))).mpr (h y (.tail _ hy));have l:=List.length_erase_of_mem hx;have p:=List.length_pos_of_mem hx;simp only[cx];lia
theorem aop{L M:KL}(nd:L.Nodup)(h:∀x∈L,x∈M)(hl:M.length<=L.length):∀y∈M,y∈L:=fun y hy=>by
 by_cases c:y∈L
 ·exact c
 ·have:=qQ (L:=y::L) (M:=M) (eQ.mpr ⟨c,nd⟩) fun z hz=>(bz.mp hz).elim (fun e=>e▸hy) (h z);simp only[cx]at this;lia
def Wi(A O:KL):Prop:=∀s∈A,∃b∈O,∀t∈O,ad (mi s b) t∈A
theorem ahx{A O:KL}(hA:Good A)(h:Wi A O):∃p,∀t∈O,ad p t∈A:=by
 cases A with
 |nil=>exact(hA.ne rfl).elim
 |cons a A=>obtain⟨b,_,h2⟩:=h a (.head _);exact⟨_,h2⟩
theorem akL{A O:KL}(hA:Good A)(hO:Good O)(h1:Wi A O)(h2:Wi O A):∃d,O=A.map (ad d):=by
 obtain⟨p,hp⟩:=ahx hA h1;obtain⟨q,hq⟩:=ahx hO h2;have s1:=qQ (hO.st.aaG p).nd fun x hx=>by obtain⟨t,ht,rfl⟩:=b0.mp hx;exact hp t ht
 rw[cb]at s1;refine⟨q,hO.st.ext (hA.st.aaG q) fun x=>⟨fun hx=>?_,fun hx=>?_⟩⟩
 ·exact aop (L:=A.map (ad q)) (M:=O) (hA.st.aaG q).nd (fun x hx=>by obtain⟨t,ht,rfl⟩:=b0.mp hx;exact hq t ht) (by rw[cb];exact s1) x hx
 ·obtain⟨t,ht,rfl⟩:=b0.mp hx;exact hq t ht
theorem ahy{A:KL}{d:List Int}(hA:∀x∈A,Pair x):Wi A (A.map (ad d))/\Wi (A.map (ad d)) A:=by
 constructor
 ·intro s hs;refine⟨ad d s,gy hs,fun t ht=>?_⟩;obtain⟨u,hu,rfl⟩:=b0.mp ht;have:ad (mi s (ad d s)) (ad d u)=u:=by
   rw[lU (hA u hu)];show [c0 s - (c0 d + c0 s) + (c0 d + c0 u),c1 s - (c1 d + c1 s) + (c1 d + c1 u)]=[c0 u,c1 u]
   congr 1
   ·lia
   ·congr 1;lia
  rw[this];exact hu
 ·intro s hs;obtain⟨a,ha,rfl⟩:=b0.mp hs;refine⟨a,ha,fun t ht=>?_⟩;have:ad (mi (ad d a) a) t=ad d t:=Aj (show c0 d + c0 a - c0 a + c0 t=c0 d + c0 t by lia) (show c1 d + c1 a - c1 a + c1 t=c1 d + c1 t by lia);rw[this];exact gy ht
theorem JC{A O:KL}(hA:Good A)(hO:Good O)(h:opn A false O=A):Wi A O:=fun s hs=>by
 have:=(ahv hO.ne).mp (h▸hs);obtain⟨p,⟨pp,hp⟩,t,ht,e⟩:=this;refine⟨t,ht,fun u hu=>?_⟩;have:mi s t=p:=by
  rw[<- e,lU pp];show [c0 p + c0 t - c0 t,c1 p + c1 t - c1 t]=[c0 p,c1 p]
  rw[ve,ve]
 rw[this];exact hp u hu
theorem Zr{A O:KL}(hA:Good A){d:List Int}(h:O=A.map (ad d)):A.map (ad (mi (O.headD []) (A.headD [])))=O:=by
 cases A with
 |nil=>exact(hA.ne rfl).elim
 |cons a A =>
  rw[h];have:ad (mi (((a::A).map (ad d)).headD []) ((a::A).headD []))=ad d:=by funext t;exact Aj (show c0 d + c0 a - c0 a + c0 t=c0 d + c0 t by lia) (show c1 d + c1 a - c1 a + c1 t=c1 d + c1 t by lia)
  rw[this]
theorem Wj{A O:KL}:∀{M acc:KL},((Cy A O M acc).1=none↔∀st∈M,Wp A O st≠[])
 | [],acc=>by simp[Cy]
 |st::M,acc=>by
  simp only[Cy];by_cases h:Wp A O st=[]
  ·rw[if_pos h];simp[h]
  ·rw[if_neg h,Wj (M:=M)];simp[h]
theorem alF{A O:KL}{st:List Int}:Wp A O st≠[]↔∃b∈O,∀t∈O,ad (mi st b) t∈A:=by
 unfold Wp;constructor
 ·intro h;obtain⟨x,hx⟩:=List.exists_mem_of_ne_nil _ h;obtain⟨h1,h2⟩:=e_.mp hx;obtain⟨b,hb,rfl⟩:=b0.mp h1;exact⟨b,hb,fun t ht=>of_decide_eq_true (ko.mp h2 t ht)⟩
 ·rintro⟨b,hb,h⟩ z;have:mi st b∈(O.map (mi st)).filter (wh A O):=e_.mpr ⟨gy hb,ko.mpr fun t ht=>decide_eq_true (h t ht)⟩;rw[z]at this;cases this
theorem Qa{A O:KL}:(Cy A O A []).1=none↔Wi A O:=by rw[Wj];exact⟨fun h s hs=>alF.mp (h s hs),fun h s hs=>alF.mpr (h s hs)⟩
theorem p12:mj (.int 10) (.int 12)=.ok (.int 1000000000000):=by rw[aee ⟨by decide,by decide,by decide⟩];exact congrArg (fun z=>Rs.ok (D.int z)) (by decide)
theorem m12:iD (.int 2) (.int 1000000000000)=.ok (.int 2000000000000):=by rw[nY (by decide)];exact congrArg (fun z=>Rs.ok (D.int z)) (by decide)
theorem ahz(r c:Int):∃x y:Int,jB [.int r,.int c]=.ok (yT [x,y]):=by
 have run:∃x y:Int,oX (aZ zt [.int r,.int c])=.rt (yT [x,y]):=by unfold oX;exact⟨_,_,dG (cG (aj (cG (aj (ZQ (bf bU bU p12)) (aj (cG (aj (bf bU bU p12) (aj (aq rfl) aM)) rfl) aM)) rfl) (aj (cG (aj (ZQ (bf bU bU p12)) (aj (cG (aj (bf bU bU p12) (aj (aq rfl) aM)) rfl) aM)) rfl) aM)) (t2 _ _))⟩
 obtain⟨x,y,run⟩:=run;exact⟨x,y,by unfold jB;rw[run];rfl⟩
theorem aoq(n:Int):∃x y n':Int,lW [.int n]=.ok (.tup [yT [x,y],.int n']):=by
 have d1:=qI (m:=n) (n:=5) ⟨by decide,by decide⟩;have u0:0<=n % 5:=iL _ (by decide);generalize n / 5=n1 at d1;generalize n % 5=w at d1 u0;have run:∃x y n':Int,oY (aZ zI [.int n])=.rt (.tup [yT [x,y],.int n']):=by
  unfold oY;cases h:decide (1 < w) with
  |true =>
   refine⟨0,0,n1,?_⟩;refine aW (ρ1:=[.fz (.int n1),.fz (.int w),.no,.no,.no]) (gC (cG (aj (aq rfl) (aj bU aM)) d1) rfl) (nO (iu (mK (bf (aq rfl) bU (by rw[yV,h]))) ?_));exact dG (cG (aj (cG (aj bU (aj bU aM)) (t2 _ _)) (aj (aq rfl) aM)) (t2 _ _))
  |false =>
   have hw:w=0∨w=1:=by have:=of_decide_eq_false h;lia
   have pl:dU (.int 2000000000000) (.int 1)=.ok (.int 2000000000001):=rfl;have l1:vJ [.int 2000000000001,.int 2]=.ok (.lst [.int 2000000000001,.int 2]):=Im (by simp);have l2:vJ [.int 1,.int 2000000000000]=.ok (.lst [.int 1,.int 2000000000000]):=Im (by simp);have key:∃m b:Int,0 < m/\m < 2 ^ 62/\(-(2 ^ 64) < b/\b < 2 ^ 64)/\fO (.lst [.int 2000000000001,.int 2]) (.int w)=.ok (.int m)/\fO (.lst [.int 1,.int 2000000000000]) (.int w)=.ok (.int b):=by
    rcases hw with rfl|rfl
    ·exact⟨2000000000001,1,by decide,by decide,by decide,Dr rO,Dr rO⟩
    ·exact⟨2,2000000000000,by decide,by decide,by decide,Dr Jj,Dr Jj⟩
   obtain⟨m,b,m0,m1,hb,i1,i2⟩:=key;have d2:=qI (m:=n1) (n:=m) ⟨by lia,by lia⟩;generalize n1 / m=n2 at d2;generalize n1 % m=r at d2;have d3:=qI (m:=n2) (n:=m) ⟨by lia,by lia⟩;generalize n2 / m=n3 at d3;generalize n2 % m=c at d3;refine⟨r * b - 1000000000000,c * b - 1000000000000,n3,?_⟩;refine aW (ρ1:=[.fz (.int n1),.fz (.int w),.no,.no,.no]) (gC (cG (aj (aq rfl) (aj bU aM)) d1) rfl) (aW (dX (mK (bf (aq rfl) bU (by rw[yV,h]))) nP) ?_);refine aW (ρ1:=[.fz (.int n2),.fz (.int w),.fz (.int r),.no,.no]) (gC (cG (aj (aq rfl) (aj (bf (cG (aj (bf (bf bU (bf bU bU p12) m12) bU pl) (aj bU aM)) l1) (aq rfl) i1) aM)) d2) rfl) ?_;refine aW (ρ1:=[.fz (.int n3),.fz (.int w),.fz (.int r),.fz (.int c),.no]) (gC (cG (aj (aq rfl) (aj (bf (cG (aj (bf (bf bU (bf bU bU p12) m12) bU pl) (aj bU aM)) l1) (aq rfl) i1) aM)) d3) rfl) ?_;refine aW (gR (bf (cG (aj bU (aj (bf bU (bf bU bU p12) m12) aM)) l2) (aq rfl) i2)) ?_;exact dG (cG (aj (cG (aj (bf (bf (aq rfl) (aq rfl) (nY hb)) (bf bU bU p12) jU) (aj (bf (bf (aq rfl) (aq rfl) (nY hb)) (bf bU bU p12) jU) aM)) (t2 _ _)) (aj (aq rfl) aM)) (t2 _ _))
 obtain⟨x,y,n',run⟩:=run;exact⟨x,y,n',by unfold lW;rw[run];rfl⟩
theorem FT{x y at_:Int}{a0 a1 a2 a3 a6 a7 a9 a11:Sl}:∀(L:KL) (kvs:List (List Int×D)) (a10:Sl),(∀k∈L,Pair k)->GN kvs->kvs.length + L.length<=1000 ->
  ∃kvs' b10,fJ (aP 10) mW (L.map yT) [a0,a1,a2,a3,.fz (yT [x,y]),.od kvs,a6,a7,.fz (.int at_),a9,a10,a11]=.nx [a0,a1,a2,a3,.fz (yT [x,y]),.od kvs',a6,a7,.fz (.int at_),a9,b10,a11]/\GN kvs'/\kvs'.length<=kvs.length + L.length
 | [],kvs,a10,_,g,_=>⟨kvs,a10,rfl,g,br _⟩
 |t::L,kvs,a10,hp,g,hl=>by
  obtain⟨u,v,rfl⟩:=hp t (.head _);simp only[cx]at hl;have v7:Dd (.int at_) (.int 7)=.ok (.int (at_ / 7)):=ZR ⟨by decide,by decide⟩;have r7:rP (.int at_) (.int 7)=.ok (.int (at_ % 7)):=Dq (by decide);obtain⟨p,q,hk⟩:=ahz (x + at_ / 7 + u) (y + at_ % 7 + v);have st:mW [a0,a1,a2,a3,.fz (yT [x,y]),.od kvs,a6,a7,.fz (.int at_),a9,.fz (yT [u,v]),a11]=.nx [a0,a1,a2,a3,.fz (yT [x,y]),.od (mz kvs [p,q] (.bl true)),a6,a7,.fz (.int at_),a9,.fz (yT [u,v]),a11]:=by unfold mW;exact Jl (ks:=[p,q]) bU rfl (cG (aj (bf (bf (bf (aq rfl) bU rfl) (bf (aq rfl) bU v7) mq) (bf (aq rfl) bU rfl) mq) (aj (bf (bf (bf (aq rfl) bU rfl) (bf (aq rfl) bU r7) mq) (bf (aq rfl) bU rfl) mq) aM)) (bI rfl hk)) (by lia)
  have lp:=xY kvs [p,q] (.bl true);obtain⟨k2,b10,e,g2,l2⟩:=FT (x:=x) (y:=y) (at_:=at_) (a0:=a0) (a1:=a1) (a2:=a2) (a3:=a3) (a6:=a6) (a7:=a7) (a9:=a9) (a11:=a11) L (mz kvs [p,q] (.bl true)) (.fz (yT [u,v])) (fun k hk=>hp k (.tail _ hk)) (g.put p q _) (by lia);refine⟨k2,b10,?_,g2,by simp only[cx];lia⟩;simp only[ck,fJ,aP,g9,gz,st];exact e
theorem FW{A O:KL}(hA:Good A)(hO:Good O){x y:Int}{a3 a6 a11:Sl}:∀(l:List Nat) (n:Int) (kvs:List (List Int×D)) (a7 a8 a9 a10:Sl),GN kvs->kvs.length + l.length * 12<=1000 ->
  ∃(n':Int) (kvs':List (List Int×D)) (b7 b8 b9 b10:Sl),fJ (aP 7) mX (l.map fun(i:Nat)=>.int i) [.fz (.int n),.fz (.tup (A.map yT)),.fz (.tup (O.map yT)),a3,.fz (yT [x,y]),.od kvs,a6,a7,a8,a9,a10,a11]=.nx [.fz (.int n'),.fz (.tup (A.map yT)),.fz (.tup (O.map yT)),a3,.fz (yT [x,y]),.od kvs',a6,b7,b8,b9,b10,a11]/\GN kvs'/\kvs'.length<=kvs.length + l.length * 12
 | [],n,kvs,a7,a8,a9,a10,g,_=>⟨n,kvs,a7,a8,a9,a10,rfl,g,by simp⟩
 |i::l,n,kvs,a7,a8,a9,a10,g,hl=>by
  simp only[cx,va,vc]at hl;have d1:=qI (m:=n) (n:=49) ⟨by decide,by decide⟩;generalize n / 49=n1 at d1;generalize n % 49=at_ at d1;have d2:=qI (m:=n1) (n:=2) ⟨by decide,by decide⟩;have u0:0<=n1 % 2:=iL _ (by decide);have u1:n1 % 2 < 2:=j4 _ (by decide);generalize n1 / 2=n2 at d2;generalize n1 % 2=w at d2 u0 u1;have key:∃L:KL,Good L/\fO (.lst [.tup (A.map yT),.tup (O.map yT)]) (.int w)=.ok (.tup (L.map yT)):=by
   have hw:w=0∨w=1:=by lia
   rcases hw with rfl|rfl
   ·exact⟨A,hA,Dr rO⟩
   ·exact⟨O,hO,Dr Jj⟩
  obtain⟨L,hL,ix⟩:=key;have ll:=hL.le;obtain⟨k1,b10,e1,g1,l1⟩:=FT (x:=x) (y:=y) (at_:=at_) (a0:=.fz (.int n2)) (a1:=.fz (.tup (A.map yT))) (a2:=.fz (.tup (O.map yT))) (a3:=a3) (a6:=a6) (a7:=.fz (.int i)) (a9:=.fz (.int w)) (a11:=a11) L kvs a10 hL.pr g (by lia);have st:mX [.fz (.int n),.fz (.tup (A.map yT)),.fz (.tup (O.map yT)),a3,.fz (yT [x,y]),.od kvs,a6,.fz (.int i),a8,a9,a10,a11]=.nx [.fz (.int n2),.fz (.tup (A.map yT)),.fz (.tup (O.map yT)),a3,.fz (yT [x,y]),.od k1,a6,.fz (.int i),.fz (.int at_),.fz (.int w),b10,a11]:=by unfold mX;refine aW (ρ1:=[.fz (.int n1),.fz (.tup (A.map yT)),.fz (.tup (O.map yT)),a3,.fz (yT [x,y]),.od kvs,a6,.fz (.int i),.fz (.int at_),a9,a10,a11]) (gC (cG (aj (aq rfl) (aj bU aM)) d1) rfl) ?_;refine aW (ρ1:=[.fz (.int n2),.fz (.tup (A.map yT)),.fz (.tup (O.map yT)),a3,.fz (yT [x,y]),.od kvs,a6,.fz (.int i),.fz (.int at_),.fz (.int w),a10,a11]) (gC (cG (aj (aq rfl) (aj bU aM)) d2) rfl) ?_;exact WR (bf (cG (aj (aq rfl) (aj (aq rfl) aM)) (Im (by simp))) (aq rfl) ix) e1
  obtain⟨n3,k2,c7,c8,c9,c10,e2,g2,l2⟩:=FW hA hO (x:=x) (y:=y) (a3:=a3) (a6:=a6) (a11:=a11) l n2 k1 (.fz (.int i)) (.fz (.int at_)) (.fz (.int w)) b10 g1 (by lia);refine⟨n3,k2,c7,c8,c9,c10,?_,g2,by simp only[cx,va,vc];lia⟩;simp only[ck,fJ,aP,g9,gz,st];exact e2
theorem FZ{x y:Int}{a1 a2 a3 a6 a9 a10 a11:Sl}:∀(l:List Nat) (n:Int) (kvs:List (List Int×D)) (a7 a8:Sl),GN kvs->kvs.length + l.length<=1000 ->
  ∃(n':Int) (kvs':List (List Int×D)) (b7 b8:Sl),fJ (aP 7) mY (l.map fun(i:Nat)=>.int i) [.fz (.int n),a1,a2,a3,.fz (yT [x,y]),.od kvs,a6,a7,a8,a9,a10,a11]=.nx [.fz (.int n'),a1,a2,a3,.fz (yT [x,y]),.od kvs',a6,b7,b8,a9,a10,a11]/\GN kvs'/\kvs'.length<=kvs.length + l.length
 | [],n,kvs,a7,a8,g,_=>⟨n,kvs,a7,a8,rfl,g,by simp⟩
 |i::l,n,kvs,a7,a8,g,hl=>by
  simp only[cx]at hl;have d1:=qI (m:=n) (n:=81) ⟨by decide,by decide⟩;generalize n / 81=n1 at d1;generalize n % 81=at_ at d1;have v7:Dd (.int at_) (.int 9)=.ok (.int (at_ / 9)):=ZR ⟨by decide,by decide⟩;have r7:rP (.int at_) (.int 9)=.ok (.int (at_ % 9)):=Dq (by decide);obtain⟨p,q,hk⟩:=ahz (x + at_ / 9 - 1) (y + at_ % 9 - 1);have st:mY [.fz (.int n),a1,a2,a3,.fz (yT [x,y]),.od kvs,a6,.fz (.int i),a8,a9,a10,a11]=.nx [.fz (.int n1),a1,a2,a3,.fz (yT [x,y]),.od (mz kvs [p,q] (.bl true)),a6,.fz (.int i),.fz (.int at_),a9,a10,a11]:=by unfold mY;refine aW (ρ1:=[.fz (.int n1),a1,a2,a3,.fz (yT [x,y]),.od kvs,a6,.fz (.int i),.fz (.int at_),a9,a10,a11]) (gC (cG (aj (aq rfl) (aj bU aM)) d1) rfl) ?_;exact Jl (ks:=[p,q]) bU rfl (cG (aj (bf (bf (bf (aq rfl) bU rfl) (bf (aq rfl) bU v7) mq) bU jU) (aj (bf (bf (bf (aq rfl) bU rfl) (bf (aq rfl) bU r7) mq) bU jU) aM)) (bI rfl hk)) (by lia)
  have lp:=xY kvs [p,q] (.bl true);obtain⟨n3,k2,c7,c8,e2,g2,l2⟩:=FZ (x:=x) (y:=y) (a1:=a1) (a2:=a2) (a3:=a3) (a6:=a6) (a9:=a9) (a10:=a10) (a11:=a11) l n1 (mz kvs [p,q] (.bl true)) (.fz (.int i)) (.fz (.int at_)) (g.put p q _) (by lia);refine⟨n3,k2,c7,c8,?_,g2,by simp only[cx];lia⟩;simp only[ck,fJ,aP,g9,gz,st];exact e2
theorem ahA{ρ:aK}{j:Nat}{kvs:List (List Int×D)}(h0:ρ[j]?=some (.od kvs))(hl:kvs.length < 1000)(g:GN kvs):vX j ρ=.ok (.lst ((So.cF (kvs.map (·.1))).map yT)):=by unfold vX;rw[h0];dsimp only;rw[if_pos ⟨hl,fun p hp=>(g.pr p.1 (gy hp)).ne⟩]
theorem aor{A O:KL}(hA:Good A)(hO:Good O)(n:Int):∃(X:KL) (b:Bool) (n':Int),lZ [.int n,.tup (A.map yT),.tup (O.map yT)]=.ok (.tup [sh X b,.int n'])/\gZ X/\X.length<=70:=by
 have d1:=qI (m:=n) (n:=4) ⟨by decide,by decide⟩;generalize n / 4=n1 at d1;generalize n % 4=w at d1;obtain⟨x,y,n2,eb⟩:=aoq n1;have d2:=qI (m:=n2) (n:=4) ⟨by decide,by decide⟩;have u0:0<=n2 % 4:=iL _ (by decide);have u1:n2 % 4 < 4:=j4 _ (by decide);generalize n2 / 4=n3 at d2;generalize n2 % 4=m at d2 u0 u1;obtain⟨M,rfl⟩:∃M:Nat,m=M:=⟨m.toNat,by lia⟩
 obtain⟨n4,k1,b7,b8,b9,b10,e1,g1,l1⟩:=FW hA hO (x:=x) (y:=y) (a3:=.fz (.int w)) (a6:=.fz (.int M)) (a11:=.no) (cn M) n3 [] .no .no .no .no GN.nil (by rw[i0];simp only[fv];lia);rw[i0,fv]at l1;have d3:=qI (m:=n4) (n:=5) ⟨by decide,by decide⟩;have v0:0<=n4 % 5:=iL _ (by decide);have v1:n4 % 5 < 5:=j4 _ (by decide);generalize n4 / 5=n5 at d3;generalize n4 % 5=m2 at d3 v0 v1;obtain⟨M2,rfl⟩:∃M:Nat,m2=M:=⟨m2.toNat,by lia⟩
 obtain⟨n6,k2,c7,c8,e2,g2,l2⟩:=FZ (x:=x) (y:=y) (a1:=.fz (.tup (A.map yT))) (a2:=.fz (.tup (O.map yT))) (a3:=.fz (.int w)) (a6:=.fz (.int M)) (a9:=b9) (a10:=b10) (a11:=.fz (.int M2)) (cn M2) n5 k1 b7 b8 g1 (by rw[i0];lia);rw[i0]at l2;refine⟨So.cF (k2.map fun p=>p.1),decide (w=0),n6,?_,gZ.sort (show ∀x∈k2.map (fun p=>p.1),Pair x from g2.pr) g2.nd,by rw[nA,cb];lia⟩;have run:oZ (aZ zS [.int n,.tup (A.map yT),.tup (O.map yT)])=.rt (.tup [sh (So.cF (k2.map fun p=>p.1)) (decide (w=0)),.int n6]):=by unfold oZ;refine aW (ρ1:=[.fz (.int n1),.fz (.tup (A.map yT)),.fz (.tup (O.map yT)),.fz (.int w),.no,.no,.no,.no,.no,.no,.no,.no]) (gC (cG (aj (aq rfl) (aj bU aM)) d1) rfl) ?_;refine aW (ρ1:=[.fz (.int n2),.fz (.tup (A.map yT)),.fz (.tup (O.map yT)),.fz (.int w),.fz (yT [x,y]),.no,.no,.no,.no,.no,.no,.no]) (gC (cG (aj (aq rfl) aM) (bI rfl eb)) rfl) ?_;refine aW (ρ1:=[.fz (.int n2),.fz (.tup (A.map yT)),.fz (.tup (O.map yT)),.fz (.int w),.fz (yT [x,y]),.od [],.no,.no,.no,.no,.no,.no]) rfl ?_;refine aW (ρ1:=[.fz (.int n3),.fz (.tup (A.map yT)),.fz (.tup (O.map yT)),.fz (.int w),.fz (yT [x,y]),.od [],.fz (.int M),.no,.no,.no,.no,.no]) (gC (cG (aj (aq rfl) (aj bU aM)) d2) rfl) ?_;refine aW (xq (Kq (n:=(M:Int)) (N:=M) (aq rfl) (by lia) rfl e1)) ?_;refine aW (ρ1:=[.fz (.int n5),.fz (.tup (A.map yT)),.fz (.tup (O.map yT)),.fz (.int w),.fz (yT [x,y]),.od k1,.fz (.int M),b7,b8,b9,b10,.fz (.int M2)]) (gC (cG (aj (aq rfl) (aj bU aM)) d3) rfl) ?_;refine aW (xq (Kq (n:=(M2:Int)) (N:=M2) (aq rfl) (by lia) rfl e2)) ?_;exact dG (cG (aj (cG (aj (cG (aj (ahA rfl (by lia) g2) aM) tu) (aj (bf (aq rfl) bU jV) aM)) (t2 _ _)) (aj (aq rfl) aM)) (t2 _ _))
 unfold lZ;rw[run];rfl
structure PG (M:KL):Prop where
 pr:∀x∈M,Pair x
 nd:M.Nodup
 ne:M≠[]
 le:M.length<=12
theorem Good.pg{L:KL}(h:Good L):PG L:=⟨h.pr,h.st.nd,h.ne,h.le⟩
theorem ahB{aH:KL}(hl:aH.length < 1000)(hne:∀ks∈aH,ks≠[]):vV [.lst (aH.map yT)]=.ok (.lst ((So.cF aH).map yT)):=by simp only[vV,uG];rw[if_pos ⟨hne,hl⟩]
theorem aaQ(x:List Int)(k:KL):Lh (yT x) (.tup (k.map yT))=.ok (.bl (!decide (x∈k))):=by have e:=asy x k;have e':Lg false (yT x) (.tup (k.map yT))=.ok (.bl (decide (x∈k))):=e;show Lg true _ _=_;simp only[Lg]at e' ⊢;rw[if_pos ⟨cz (El x) (by decide),cz (nC k) (by decide)⟩]at e' ⊢;simp only[aS,if_false,if_true]at e' ⊢;rw[show inD (yT x) (k.map yT)=decide (x∈k) from D.bl.inj (Rs.ok.inj e')]
theorem acN{best:List Int->Int}{L:KL}{f:List Int->Int}(hne:L≠[]):Je best [.lst (L.map fun ks=>.int (f ks))]=.ok (.int (best (L.map f))):=by
 have e:(L.map fun ks=>D.int (f ks))=(L.map f).map D.int:=by rw[d5];rfl
 rw[e];show(match jL ((L.map f).map D.int) with|some ns=>if 0 < ns.length then Rs.ok (D.int (best ns)) else .no|none=>.no)=_;rw[IV];show(if 0 < (L.map f).length then _ else _)=_;rw[if_pos (by rw[cb];exact n_.mpr hne)]
theorem akN(L:KL)(j:Nat)(x:List Int):(L.map yT).set j (yT x)=(L.set j x).map yT:=List.map_set.symm
theorem uJ:∀(L:KL) (j:Nat),(L.map yT).eraseIdx j=(L.eraseIdx j).map yT
 | [],_=>rfl
 |_::_,0=>rfl
 |x::L,j + 1=>by simp only[ck,sF,uJ L j]
theorem aos{ρ:aK}{i:Nat}{ds:List D}{v:D}{k:Int}{j:Nat}{fe fk:aK->Rs D}(he:fe ρ=.ok v)(hi:ρ[i]?=some (.ow ds))(hk:fk ρ=.ok (.int k))(hj:JK ds.length k=some j):Jc i fe fk ρ=.nx (ρ.set i (.ow (ds.set j v))):=by unfold Jc;rw[he,hi];show oR (fk ρ) ρ _=_;rw[hk];show(match JK ds.length k with|some j=>Ou.nx _|none=>.no)=_;rw[hj]
theorem aot{ρ:aK}{i:Nat}{ds:List D}{k:Int}{f:aK->Rs D}(hi:ρ[i]?=some (.ow ds))(hk:f ρ=.ok (.int k))(hc:0<=k/\k < ds.length/\ds.length<=1000000):Jd i f ρ=.nx (ρ.set i (.ow (ds.eraseIdx k.toNat))):=by unfold Jd;rw[hi];show oR (f ρ) ρ _=_;rw[hk];show(if 0<=k/\k < ds.length/\ds.length<=1000000 then Ou.nx _ else .no)=_;rw[if_pos hc]
theorem ahC:∀{L:KL}{j:Nat}{x:List Int},L.Nodup->x∉L->(L.set j x).Nodup
 | [],_,_,_,_=>o5
 |y::L,0,x,nd,h=>eQ.mpr ⟨fun z=>h (.tail _ z),(eQ.mp nd).2⟩
 |y::L,j + 1,x,nd,h=>by
  obtain⟨n1,n2⟩:=eQ.mp nd;refine eQ.mpr ⟨fun z=>?_,ahC n2 fun z=>h (.tail _ z)⟩;rcases List.mem_or_eq_of_mem_set z with z|z
  ·exact n1 z
  ·exact h (z▸.head _)
abbrev S7(L:KL)(n w at_ r c:Int)(z:Sl):aK:=[.fz (.tup (L.map yT)),.fz (.int n),.fz (.int w),.fz (.int at_),.fz (.int r),.fz (.int c),z]
theorem akO{L:KL}(hL:Good L){n w at_ r c:Int}:∃z:Sl,(Gn 6 (rK (fOr (fT (bJ gGt (aD 2) (fC (.int 1)))) (fT (bJ gGt (fA (ao (cM (aP 0) (fun _=>.ok true) oE 1 [] (fL (aD 6) asL)) aU) (Je rT)) (bJ mj (fC (.int 10)) (fC (.int 6)))))) (Rx 6 (aD 0)) ux)) (S7 L n w at_ r c (.fz (.lst ((L.map (ad [r - 4,c - 4])).map yT))))=.nx (S7 L n w at_ r c z)/\((w<=1/\∃M,PG M/\z=.fz (.lst (M.map yT)))∨z=.ow (L.map yT)):=by
 show ∃z:Sl,(rK _ _ _) (Ak 6 (S7 L n w at_ r c (.fz (.lst ((L.map (ad [r - 4,c - 4])).map yT)))))=_/\_;rw[show Ak 6 (S7 L n w at_ r c (.fz (.lst ((L.map (ad [r - 4,c - 4])).map yT))))=S7 L n w at_ r c (.fz (.lst ((L.map (ad [r - 4,c - 4])).map yT))) from rfl];have own:Rx 6 (aD 0) (S7 L n w at_ r c (.fz (.lst ((L.map (ad [r - 4,c - 4])).map yT))))=.nx (S7 L n w at_ r c (.ow (L.map yT))):=rfl;cases h:decide (1 < w) with
 |true=>exact⟨_,iu (amV (mK (bf (aq rfl) bU (by rw[yV,h])))) own,.inr rfl⟩
 |false =>
  have hw:=of_decide_eq_false h
  let f:List Int->Int:=fun ks=>if (if c1 ks < 0 then-(c1 ks) else c1 ks) > (if c0 ks < 0 then-(c0 ks) else c0 ks) then (if c1 ks < 0 then-(c1 ks) else c1 ks) else (if c0 ks < 0 then-(c0 ks) else c0 ks)
  have cm:cM (aP 0) (fun _=>.ok true) oE 1 [] (fL (aD 6) asL) (S7 L n w at_ r c (.fz (.lst ((L.map (ad [r - 4,c - 4])).map yT))))=.ok (.lst ((L.map (ad [r - 4,c - 4])).map fun ks=>.int (f ks))):=by refine iB (cs:=[]) rfl (v_l (aq rfl) rfl) (fun ks hk=>?_) (by rw[cb];have:=hL.le;lia);obtain⟨t,_,rfl⟩:=b0.mp hk;rfl
  have mx:=acN (best:=rT) (L:=L.map (ad [r - 4,c - 4])) (f:=f) (fun z=>hL.ne (yB.mp z));generalize rT ((L.map (ad [r - 4,c - 4])).map f)=m at mx;cases hz:decide (1000000 < m) with
  |true=>exact⟨_,iu (aeb (mK (bf (aq rfl) bU (by rw[yV,h]))) (mK (bf (cG (aj cm aM) mx) (bf bU bU p6) (by rw[yV,hz])))) own,.inr rfl⟩
  |false =>
   have as:=hL.st.aaG [r - 4,c - 4];exact⟨_,dX (aeb (mK (bf (aq rfl) bU (by rw[yV,h]))) (mK (bf (cG (aj cm aM) mx) (bf bU bU p6) (by rw[yV,hz])))) nP,.inl ⟨by lia,_,⟨as.pr,as.nd,fun z=>hL.ne (yB.mp z),by rw[cb];exact hL.le⟩,rfl⟩⟩
theorem aou{L:KL}(hL:Good L){n w at_ r c:Int}{z:Sl}(h0:0<=at_)(h1:at_ < L.length)(hz:(w<=1/\∃M,PG M/\z=.fz (.lst (M.map yT)))∨z=.ow (L.map yT)) :
  ∃z',rK (vH (fT (bJ wY (aD 2) (fC (.int 2)))) (fT (bJ Lh (fA (ao (bJ jf (aD 4) (fC (.int 4))) (ao (bJ jf (aD 5) (fC (.int 4))) aU)) dF) (aD 0)))) (Jc 6 (fA (ao (bJ jf (aD 4) (fC (.int 4))) (ao (bJ jf (aD 5) (fC (.int 4))) aU)) dF) (aD 3)) ux (S7 L n w at_ r c z)=.nx (S7 L n w at_ r c z') /\
   ((w<=1/\∃M,PG M/\z'=.fz (.lst (M.map yT)))∨∃M,PG M/\M.length=L.length/\z'=.ow (M.map yT)):=by
 have keep:(w<=1/\∃M,PG M/\z=.fz (.lst (M.map yT)))∨∃M,PG M/\M.length=L.length/\z=.ow (M.map yT):=hz.imp id fun e=>⟨L,hL.pg,rfl,e⟩
 cases h2:decide (w=2) with
 |false=>exact⟨z,dX (Ci (mK (bf (aq rfl) bU (by rw[jV,h2])))) nP,keep⟩
 |true =>
  have hw:=of_decide_eq_true h2;have ez:z=.ow (L.map yT):=hz.resolve_left fun k=>by lia
  subst ez;have tp:(fA (ao (bJ Vl.jf (aD 4) (fC (.int 4))) (ao (bJ Vl.jf (aD 5) (fC (.int 4))) aU)) dF) (S7 L n w at_ r c (.ow (L.map yT)))=.ok (yT [r - 4,c - 4]):=cG (aj (bf (aq rfl) bU jU) (aj (bf (aq rfl) bU jU) aM)) (t2 _ _);by_cases hm:[r - 4,c - 4]∈L
  ·exact⟨_,dX (xg (mK (bf (aq rfl) bU (by rw[jV,h2]))) (mK (bf tp (aq rfl) (by rw[aaQ,decide_eq_true hm];rfl)))) nP,keep⟩
  ·refine⟨.ow ((L.set at_.toNat [r - 4,c - 4]).map yT),iu (xg (mK (bf (aq rfl) bU (by rw[jV,h2]))) (mK (bf tp (aq rfl) (by rw[aaQ,decide_eq_false hm];rfl)))) ?_,.inr ⟨_,⟨fun ks hk=>?_,ahC hL.st.nd hm,fun y=>hL.ne ?_,by rw[qs];exact hL.le⟩,qs,rfl⟩⟩
   ·rw[<- akN];exact aos tp rfl (aq rfl) (by unfold JK;rw[if_pos h0,if_pos (by rw[cb];exact h1)])
   ·rcases List.mem_or_eq_of_mem_set hk with h|h
    ·exact hL.pr ks h
    ·exact⟨_,_,h⟩
   ·have:=congrArg f9 y;rw[qs]at this;exact ik.mp this
theorem aov{L:KL}{n w at_ r c:Int}{z:Sl}(h0:0<=at_)(h1:at_ < L.length)(hz:(w<=1/\∃M,PG M/\z=.fz (.lst (M.map yT)))∨∃M,PG M/\M.length=L.length/\z=.ow (M.map yT)) :
  ∃z',rK (vH (fT (bJ wY (aD 2) (fC (.int 3)))) (fT (bJ gGt (fA (ao (aD 0) aU) Bk) (fC (.int 1))))) (Jd 6 (aD 3)) ux (S7 L n w at_ r c z)=.nx (S7 L n w at_ r c z')/\∃M,PG M/\(z'=.fz (.lst (M.map yT))∨z'=.ow (M.map yT)):=by
 have keep:∃M,PG M/\(z=.fz (.lst (M.map yT))∨z=.ow (M.map yT)):=by
  rcases hz with ⟨_,M,p,e⟩|⟨M,p,_,e⟩
  ·exact⟨M,p,.inl e⟩
  ·exact⟨M,p,.inr e⟩
 cases h3:decide (w=3) with
 |false=>exact⟨z,dX (Ci (mK (bf (aq rfl) bU (by rw[jV,h3])))) nP,keep⟩
 |true =>
  have hw:=of_decide_eq_true h3;obtain⟨M,hM,hl,ez⟩:=hz.resolve_left fun k=>by lia
  subst ez;have g1:gGt (.int ((L.map yT).length:Int)) (.int 1)=.ok (.bl (decide ((1:Int) < (L.map yT).length))):=yV;cases hb:decide ((1:Int) < (L.map yT).length) with
  |false=>exact⟨_,dX (xg (mK (bf (aq rfl) bU (by rw[jV,h3]))) (mK (bf (cG (aj (aq rfl) aM) vZ) bU (by rw[g1,hb])))) nP,keep⟩
  |true =>
   have h2:=of_decide_eq_true hb;rw[cb]at h2;have le:(M.eraseIdx at_.toNat).length=M.length - 1:=sL (by lia);refine⟨.ow ((M.eraseIdx at_.toNat).map yT),iu (xg (mK (bf (aq rfl) bU (by rw[jV,h3]))) (mK (bf (cG (aj (aq rfl) aM) vZ) bU (by rw[g1,hb])))) ?_,_,⟨fun ks hk=>hM.pr ks (List.mem_of_mem_eraseIdx hk),hM.nd.sublist (uC _ _),fun y=>?_,by have:=hM.le;lia⟩,.inr rfl⟩
   ·rw[<- uJ];exact aot rfl (aq rfl) ⟨h0,by rw[cb];lia,by rw[cb];have:=hM.le;lia⟩
   ·rw[y]at le;simp only[fv]at le;lia
theorem acO{M:KL}(h:PG M):Good (So.cF M):=⟨gZ.sort h.pr h.nd,fun z=>h.ne (by have:=congrArg f9 z;rw[nA]at this;exact ik.mp this),by rw[nA];exact h.le⟩
theorem aow{L:KL}(hL:Good L){n w at_ r c:Int}{z:Sl}(hz:∃M,PG M/\(z=.fz (.lst (M.map yT))∨z=.ow (M.map yT))) :
  ∃(n':Int) (M:KL),Good M/\(bV (rK (fT (bJ wY (aD 2) (fC (.int 4)))) (ig 6 (cM (aP 0) (fun _=>.ok true) jR 1 [] (fL (aD 0) Ga))) ux)
  (bV (rK (fT (bJ wY (aD 2) (fC (.int 5)))) (dz (fA (ao (aD 1) aU) (bA 1 eV))) ux)
  (Gn 6 (dz (fA (ao (fA (ao (fA (ao (aD 6) aU) vV) aU) jY) (ao (aD 1) aU)) dF))))) (S7 L n w at_ r c z)=.rt (.tup [.tup (M.map yT),.int n']):=by
 have s4:∃z',rK (fT (bJ wY (aD 2) (fC (.int 4)))) (ig 6 (cM (aP 0) (fun _=>.ok true) jR 1 [] (fL (aD 0) Ga))) ux (S7 L n w at_ r c z)=.nx (S7 L n w at_ r c z')/\∃M,PG M/\(z'=.fz (.lst (M.map yT))∨z'=.ow (M.map yT)):=by
  cases h4:decide (w=4) with
  |false=>exact⟨z,dX (mK (bf (aq rfl) bU (by rw[jV,h4]))) nP,hz⟩
  |true =>
   have c5:cM (aP 0) (fun _=>.ok true) jR 1 [] (fL (aD 0) Ga) (S7 L n w at_ r c z)=.ok (.lst ((L.map fun ks=>[0 - c0 ks,0 - c1 ks]).map yT)):=by rw[d5];exact iB (cs:=[]) rfl rfl (fun ks hk=>by obtain⟨x,y,rfl⟩:=hL.pr ks hk;rfl) (cz hL.le (by decide))
   refine⟨_,iu (mK (bf (aq rfl) bU (by rw[jV,h4]))) (gR c5),_,⟨fun x hx=>?_,anR (fun x hx y hy e=>?_) hL.st.nd,fun y=>hL.ne (yB.mp y),by rw[cb];exact hL.le⟩,.inl rfl⟩
   ·obtain⟨t,_,rfl⟩:=b0.mp hx;exact⟨_,_,rfl⟩
   ·have e0:0 - c0 x=0 - c0 y:=congrArg c0 e;have e1:0 - c1 x=0 - c1 y:=congrArg c1 e;exact RX (hL.pr x hx) (hL.pr y hy) (by lia) (by lia)
 obtain⟨z',e4,M,pM,ez⟩:=s4;cases h5:decide (w=5) with
 |true =>
  obtain⟨n',L',e5,g5⟩:=aaN n;exact⟨n',L',g5,aW e4 (nO (iu (mK (bf (aq rfl) bU (by rw[jV,h5]))) (dG (cG (aj (aq rfl) aM) (bI rfl e5)))))⟩
 |false =>
  refine⟨n,So.cF M,acO pM,aW e4 (aW (dX (mK (bf (aq rfl) bU (by rw[jV,h5]))) nP) ?_)⟩;show(dz _) (Ak 6 (S7 L n w at_ r c z'))=_;rw[show Ak 6 (S7 L n w at_ r c z')=S7 L n w at_ r c (.fz (.lst (M.map yT))) from by rcases ez with rfl|rfl <;> rfl];exact dG (cG (aj (cG (aj (cG (aj (aq rfl) aM) (ahB (by have:=pM.le;lia) fun ks hk=>(pM.pr ks hk).ne)) aM) tu) (aj (aq rfl) aM)) (t2 _ _))
theorem ahD{L:KL}(hL:Good L)(n:Int):∃(n':Int) (M:KL),iV [.tup (L.map yT),.int n]=.ok (.tup [.tup (M.map yT),.int n'])/\Good M:=by
 have d1:=qI (m:=n) (n:=6) ⟨by decide,by decide⟩;generalize n / 6=n1 at d1;generalize n % 6=w at d1;have lp:0 < L.length:=n_.mpr hL.ne;have l12:=hL.le;have d2:=qI (m:=n1) (n:=(L.map yT).length) ⟨by rw[cb];lia,by rw[cb];lia⟩;have a0:0<=n1 % ((L.map yT).length:Int):=iL _ (by rw[cb];lia);have a1:n1 % ((L.map yT).length:Int) < L.length:=by have:=j4 n1 (show(0:Int) < ((L.map yT).length:Int) by rw[cb];lia);rw[cb]at this ⊢;exact this
 generalize n1 / ((L.map yT).length:Int)=n2 at d2;generalize n1 % ((L.map yT).length:Int)=at_ at d2 a0 a1;have d3:=qI (m:=n2) (n:=9) ⟨by decide,by decide⟩;generalize n2 / 9=n3 at d3;generalize n2 % 9=r at d3;have d4:=qI (m:=n3) (n:=9) ⟨by decide,by decide⟩;generalize n3 / 9=n4 at d4;generalize n3 % 9=c at d4;have cm:cM (aP 0) (fun _=>.ok true) tR 1 [4,5] (fL (aD 0) Ga) (S7 L n4 w at_ r c .no)=.ok (.lst ((L.map (ad [r - 4,c - 4])).map yT)):=by rw[d5];refine iB (cs:=[.fz (.int r),.fz (.int c)]) rfl (v_l (aq rfl) rfl) (fun ks hk=>?_) (by lia);obtain⟨x,y,rfl⟩:=hL.pr ks hk;have:=alD x y (r - 4) (c - 4);rw[show [x + (r - 4),y + (c - 4)]=ad [r - 4,c - 4] [x,y] by unfold ad;simp[u7]]at this;exact cG (aj (aq rfl) (aj (cG (aj (bf (aq rfl) bU jU) (aj (bf (aq rfl) bU jU) aM)) (t2 _ _)) aM)) (bI rfl this)
 obtain⟨z1,e1,h1⟩:=akO hL (n:=n4) (w:=w) (at_:=at_) (r:=r) (c:=c);obtain⟨z2,e2,h2⟩:=aou hL (n:=n4) (r:=r) (c:=c) a0 a1 h1;obtain⟨z3,e3,h3⟩:=aov (L:=L) (n:=n4) (r:=r) (c:=c) a0 a1 h2;obtain⟨n',M,gM,e4⟩:=aow hL (n:=n4) (w:=w) (at_:=at_) (r:=r) (c:=c) h3;refine⟨n',M,?_,gM⟩;have run:lJ (aZ y_ [.tup (L.map yT),.int n])=.rt (.tup [.tup (M.map yT),.int n']):=by unfold lJ;refine aW (ρ1:=[.fz (.tup (L.map yT)),.fz (.int n1),.fz (.int w),.no,.no,.no,.no]) (gC (cG (aj (aq rfl) (aj bU aM)) d1) rfl) ?_;refine aW (ρ1:=[.fz (.tup (L.map yT)),.fz (.int n2),.fz (.int w),.fz (.int at_),.no,.no,.no]) (gC (cG (aj (aq rfl) (aj (cG (aj (aq rfl) aM) vZ) aM)) d2) rfl) ?_;refine aW (ρ1:=[.fz (.tup (L.map yT)),.fz (.int n3),.fz (.int w),.fz (.int at_),.fz (.int r),.no,.no]) (gC (cG (aj (aq rfl) (aj bU aM)) d3) rfl) ?_;refine aW (ρ1:=S7 L n4 w at_ r c .no) (gC (cG (aj (aq rfl) (aj bU aM)) d4) rfl) ?_;refine aW (gR cm) ?_;exact aW e1 (aW e2 (aW e3 e4))
 unfold iV;rw[run];rfl
theorem yJ:∀A B:KL,uV (A.map yT) (B.map yT)=decide (A=B)
 | [],[]=>rfl
 | [],_::_=>rfl
 |_::_,[]=>rfl
 |x::A,y::B=>by simp only[ck,uV,RL,yJ A B];by_cases h:x=y <;> by_cases h2:A=B <;> simp[h,h2]
theorem acP(A B:KL):wY (.tup (A.map yT)) (.tup (B.map yT))=.ok (.bl (decide (A=B))):=by
 have d:∀C:KL,cR (.tup (C.map yT))<=8:=fun C=>by have:=nC C;simp only[cR];lia
 rw[apH (d A) (d B)];simp only[qC];rw[yJ]
theorem ahE(A B:KL):WL (.lst (A.map yT)) (.lst (B.map yT))=.ok (.bl (!decide (A=B))):=by
 have d:∀C:KL,cR (.lst (C.map yT))<=8:=fun C=>by have:=nC C;simp only[cR];lia
 rw[apI (d A) (d B)];simp only[qC];rw[yJ]
theorem aaR(A B:KL)(b:Bool):WL (sh A b) (sh B b)=.ok (.bl (!decide (A=B))):=by rw[apI (show cR (sh A b)<=8 from aaB A b) (show cR (sh B b)<=8 from aaB B b)];simp only[qC,uV,yJ];simp
def Bh(A O:KL):List Int:=mi (O.headD []) (A.headD [])
theorem aaS{A:KL}(hA:Good A):Pair (A.headD [])/\fO (.tup (A.map yT)) (.int 0)=.ok (yT (A.headD [])):=by
 cases A with
 |nil=>exact(hA.ne rfl).elim
 |cons ks A=>exact⟨hA.pr ks dA,aeg rO⟩
theorem Zt{A O:KL}(hA:Good A)(hO:Good O):ou [.tup (A.map yT),.tup (O.map yT)]=.ok (if A.map (ad (Bh A O))=O then yT (Bh A O) else .non):=by
 obtain⟨pa,ha⟩:=aaS hA;obtain⟨po,ho⟩:=aaS hO;have run:rB (aZ zz [.tup (A.map yT),.tup (O.map yT)])=.rt (if A.map (ad (Bh A O))=O then yT (Bh A O) else .non):=by
  unfold rB;refine aW (gR (cG (aj (bf (aq rfl) bU ho) (aj (bf (aq rfl) bU ha) aM)) (bI rfl (mZ _ _ po pa)))) ?_;have t:fT (bJ wY (bJ fO (fA (ao (aD 0) (ao (aD 2) aU)) (bA 2 pI)) (fC (.int 0))) (aD 1)) [.fz (.tup (A.map yT)),.fz (.tup (O.map yT)),.fz (yT (Bh A O))]=.ok (decide (A.map (ad (Bh A O))=O)) :=
   mK (bf (bf (cG (aj (aq rfl) (aj (aq rfl) aM)) (bI rfl (Zo hA _ _))) bU (aeg rO)) (aq rfl) (acP _ _))
  by_cases h:A.map (ad (Bh A O))=O
  ·rw[if_pos h];rw[decide_eq_true h]at t;exact nO (iu t (dG (aq rfl)))
  ·rw[if_neg h];rw[decide_eq_false h]at t;exact aW (dX t nP) (dG bU)
 unfold ou;rw[run];rfl
def wd(A O:KL):Str:=match (Cy A O A []).1 with|some _=>"parted"|none=>"within"
theorem alG(A O:KL):fO (ans (Cy A O A [])) (.int 0)=.ok (.str (wd A O)):=by
 unfold ans wd;cases (Cy A O A []).1 with
 |some st=>exact aeg rO
 |none=>exact aeg rO
theorem Wk(A O:KL):wY (.lst [.str (wd A O),.str (wd O A)]) (.lst [.str "within",.str "within"])=.ok (.bl (decide ((Cy A O A []).1=none/\(Cy O A O []).1=none))):=by
 unfold wd;cases (Cy A O A []).1 <;> cases (Cy O A O []).1 <;> first|rfl|(simp;rfl)|kernel_rfl
theorem akP{fa fb:aK->Rs D}{ρ:aK}(h1:fa ρ=.ok (.bl true)):Ka fa fb ρ=.ok (.bl true):=by unfold Ka;rw[h1];rfl
theorem akQ{fa fb:aK->Rs D}{ρ:aK}{r:Rs D}(h1:fa ρ=.ok (.bl false))(h2:fb ρ=r):Ka fa fb ρ=r:=by unfold Ka;rw[h1];exact h2
theorem ahF{A O:KL}(hA:Good A)(hO:Good O):((Cy A O A []).1=none/\(Cy O A O []).1=none)↔A.map (ad (Bh A O))=O:=by
 rw[Qa,Qa];constructor
 ·rintro⟨h1,h2⟩;obtain⟨d,hd⟩:=akL hA hO h1 h2;exact Zr hA hd
 ·intro h;have:=ahy (A:=A) (d:=Bh A O) hA.pr;rw[h]at this;exact this
def PA(s:Sl)(A O:KL)(ρ:aK):Prop:=∃a2 a4 a5 a6 a7 a8 a9:Sl,ρ=[s,.fz (.tup (A.map yT)),a2,.fz (.tup (O.map yT)),a4,a5,a6,a7,a8,a9]
theorem akR{A O:KL}(hA:Good A)(hO:Good O)(h:A.map (ad (Bh A O))=O){s:Sl}(x:Int)(ρ:aK)(hp:PA s A O ρ):∃ρ1 ρ',aP 8 (.int x) ρ=some ρ1/\Cv ρ1=.nx ρ'/\PA s A O ρ':=by
 obtain⟨a2,a4,a5,a6,a7,a8,a9,rfl⟩:=hp;obtain⟨m,hd⟩:=ahp x 2 (.inr rfl);obtain⟨X,b,n',hh,aX,lX⟩:=aor hA hO m;have o1:=yI (b:=b) aX lX hA;have o2:=yI (b:=b) aX lX hO;have e:opn X b O=opn X b A:=by have:=acM (X:=X) (b:=b) (d:=Bh A O) hA (by rw[h];exact hO);rwa [h]at this
 refine⟨_,[s,.fz (.tup (A.map yT)),.fz (.int n'),.fz (.tup (O.map yT)),a4,a5,a6,a7,.fz (.int x),.fz (sh X b)],rfl,?_,⟨_,_,_,_,_,_,_,rfl⟩⟩;unfold Cv;refine aW (ρ1:=[s,.fz (.tup (A.map yT)),.fz (.int n'),.fz (.tup (O.map yT)),a4,a5,a6,a7,.fz (.int x),.fz (sh X b)]) (gC (cG (aj (cG (aj (aq rfl) (aj bU aM)) (bI rfl hd)) (aj (aq rfl) (aj (aq rfl) aM))) (bI rfl hh)) rfl) ?_;refine dX (mK (bf (cG (aj (aq rfl) (aj (aq rfl) aM)) (bI rfl o1)) (cG (aj (aq rfl) (aj (aq rfl) aM)) (bI rfl o2)) ?_)) nP;rw[aaR,e];simp
theorem ahG(ns:List Int)(_:ns.length<=63):aaJ [.lst (ns.map D.int)]=.ok (.bl true):=by
 have e:aZ y9 [.lst (ns.map D.int)]=[.fz (.lst (ns.map D.int)),.no,.no,.no,.no,.no,.no,.no,.no,.no]:=rfl;have wc:∃z:Int,lV [.lst (ns.map D.int),.int 0]=.ok (.int z):=by
  cases ns with
  |nil=>exact⟨0,rfl⟩
  |cons n ns =>
   refine⟨n,?_⟩;have run:oV (aZ ["script","k"] [.lst ((n::ns).map D.int),.int 0])=.rt (.int n):=by unfold oV;exact nO (iu (mK (bf (aq rfl) (cG (aj (aq rfl) aM) zp) (by rw[aiB,decide_eq_true (by rw[cb,cx];lia)]))) (dG (bf (aq rfl) (aq rfl) (Dr rO))))
   unfold lV;rw[run];rfl
 obtain⟨z,hz⟩:=wc;obtain⟨m,hd⟩:=ahp z 1 (.inl rfl);obtain⟨n1,A,hp,gA⟩:=aaN m;obtain⟨n2,O,hs,gO⟩:=ahD gA n1;have s1:=aaO gA gO;have s2:=aaO gO gA;have mb:=Zt gA gO;have bi:=ahF gA gO
 let T:D:=.tup (A.map yT)
 have run:aaI (aZ y9 [.lst (ns.map D.int)])=.rt (.bl true):=by
  rw[e];unfold aaI;refine aW (ρ1:=[.fz (.lst (ns.map D.int)),.fz (.tup (A.map yT)),.fz (.int n1),.no,.no,.no,.no,.no,.no,.no]) (gC (cG (aj (cG (aj (cG (aj (aq rfl) (aj bU aM)) (bI rfl hz)) (aj bU aM)) (bI rfl hd)) aM) (bI rfl hp)) rfl) ?_;refine aW (ρ1:=[.fz (.lst (ns.map D.int)),.fz (.tup (A.map yT)),.fz (.int n2),.fz (.tup (O.map yT)),.no,.no,.no,.no,.no,.no]) (gC (cG (aj (aq rfl) (aj (aq rfl) aM)) (bI rfl hs)) rfl) ?_;refine aW (gR (cG (aj (bf (cG (aj (aq rfl) (aj (aq rfl) aM)) (bI rfl s1)) bU (alG A O)) (aj (bf (cG (aj (aq rfl) (aj (aq rfl) aM)) (bI rfl s2)) bU (alG O A)) aM)) (Im (by simp)))) ?_;refine aW (gR (cG (aj (aq rfl) (aj (aq rfl) aM)) (bI rfl mb))) ?_;have lw:vJ [.str "within",.str "within"]=.ok (.lst [.str "within",.str "within"]):=Im (by simp);by_cases h:A.map (ad (Bh A O))=O
  ·rw[if_pos h];have ew:=Wk A O;rw[decide_eq_true (bi.mpr h)]at ew;refine aW (dX (mK (bf (bf (aq rfl) (cG (aj bU (aj bU aM)) lw) ew) (bf (aq rfl) bU wg) rfl)) nP) ?_;have cm:cM (aP 0) (fun _=>.ok true) aaH 1 [5] (fL (aD 1) Ga) [.fz (.lst (ns.map D.int)),.fz (.tup (A.map yT)),.fz (.int n2),.fz (.tup (O.map yT)),.fz (.lst [.str (wd A O),.str (wd O A)]),.fz (yT (Bh A O)),.no,.no,.no,.no]=.ok (.lst (O.map yT)):=by rw[show O.map yT=A.map (fun ks=>yT (ad (Bh A O) ks)) by (conv=>lhs;rw[<- h]);rw[d5];rfl];refine iB (cs:=[.fz (yT (Bh A O))]) rfl (v_l (aq rfl) rfl) (fun ks hk=>?_) (cz gA.le (by decide));obtain⟨x,y,rfl⟩:=gA.pr ks hk;have:=alD x y (c0 (Bh A O)) (c1 (Bh A O));have pe:[c0 (Bh A O),c1 (Bh A O)]=Bh A O:=(lU (show Pair (Bh A O) from uL _ _)).symm;rw[pe,show [x + c0 (Bh A O),y + c1 (Bh A O)]=ad (Bh A O) [x,y] by unfold ad;simp[u7]]at this;exact cG (aj (aq rfl) (aj (aq rfl) aM)) (bI rfl this)
   refine aW (dX (xg (mK (bf (aq rfl) bU wg)) (mK (bf cm (cG (aj (aq rfl) aM) Ln) (by rw[ahE];simp)))) nP) ?_;refine aW (dX (mK (bf (aq rfl) bU RJ)) nP) ?_;have it:(bJ dU (fA (ao (fC (.int 0)) aU) vJ) (fSl (aD 0) (fP (fC (.int 1))) (fP (fC (.int 16))))) [.fz (.lst (ns.map D.int)),.fz (.tup (A.map yT)),.fz (.int n2),.fz (.tup (O.map yT)),.fz (.lst [.str (wd A O),.str (wd O A)]),.fz (yT (Bh A O)),.no,.no,.no,.no]=.ok (.lst ([.int 0]++Kd (ns.map D.int) (some 1) (some 16))):=by
    refine bf (x:=.lst [.int 0]) (cG (aj bU aM) (Im (by simp))) (y:=.lst (Kd (ns.map D.int) (some 1) (some 16))) rfl ?_;exact abo (by
     have:(Kd (ns.map D.int) (some 1) (some 16)).length<=ns.length:=by unfold Kd;rw[ke,mv,cb];lia
     show 1 + _<=_;lia)
   have all:∀d∈[.int 0]++Kd (ns.map D.int) (some 1) (some 16),∃x:Int,d=.int x:=by
    intro d hd;rcases d9.mp hd with hd|hd
    ·exact⟨0,by simpa using hd⟩
    ·have:=r0 (mS hd);obtain⟨x,_,rfl⟩:=b0.mp this;exact⟨x,rfl⟩
   obtain⟨ρ',e1,_⟩:=Dp (h:=aP 8) (g:=Cv) (PA (.fz (.lst (ns.map D.int))) A O) (ds:=[.int 0]++Kd (ns.map D.int) (some 1) (some 16)) (ρ:=[.fz (.lst (ns.map D.int)),.fz (.tup (A.map yT)),.fz (.int n2),.fz (.tup (O.map yT)),.fz (.lst [.str (wd A O),.str (wd O A)]),.fz (yT (Bh A O)),.no,.no,.no,.no]) ⟨_,_,_,_,_,_,_,rfl⟩ (by
    intro d hd ρ p;obtain⟨x,rfl⟩:=all d hd;exact akR gA gO h x ρ p)
   exact aW (xq (aec it e1)) (dG bU)
  ·rw[if_neg h];have ew:=Wk A O;rw[decide_eq_false (fun k=>h (bi.mp k))]at ew;refine aW (dX (mK (bf (bf (aq rfl) (cG (aj bU (aj bU aM)) lw) ew) (bf (aq rfl) bU wg) rfl)) nP) ?_;refine aW (dX (Ci (mK (bf (aq rfl) bU wg))) nP) ?_;refine nO (iu (mK (bf (aq rfl) bU RJ)) ?_);have o1:=yI (b:=false) gA.st (cz gA.le (by decide)) gO;have o2:=yI (b:=false) gO.st (cz gO.le (by decide)) gA;refine aW (gR (cG (aj (aq rfl) (aj bU aM)) (t2 _ _))) (aW (gR (cG (aj (aq rfl) (aj bU aM)) (t2 _ _))) (dG ?_));by_cases k:opn A false O=A
   ·have k2:opn O false A≠O:=fun k2=>h (bi.mp ⟨Qa.mpr (JC gA gO k),Qa.mpr (JC gO gA k2)⟩);refine akQ (bf (cG (aj (aq rfl) (aj (aq rfl) aM)) (bI rfl o1)) (aq rfl) (by rw[aaR,decide_eq_true k];rfl)) (bf (cG (aj (aq rfl) (aj (aq rfl) aM)) (bI rfl o2)) (aq rfl) (by rw[aaR,decide_eq_false k2];rfl))
   ·exact akP (bf (cG (aj (aq rfl) (aj (aq rfl) aM)) (bI rfl o1)) (aq rfl) (by rw[aaR,decide_eq_false k];rfl))
 unfold aaJ;rw[run];rfl
end Lz
open PySem PySem.W PyProof.Rows
namespace PySem.W.Fast
def tw16646192752729236097:=0
def tw429138234119991237:=0
def tw10753393128181960978:=0
def tw764900247893232636:=0
def tw12900908372872299405:=0
def tw70426078063252331:=0
def tw2900234857484631212:=0
def tw13247393370523105319:=0
def tw11090698080905716632:=0
def tw8738626667453775419:=0
def tw3719231202129411148:=0
def tw13223808186438824797:=0
def tw12741955289343890367:=0
def tw7939292211944470807:=0
def tw3230157931467217388:=0
def tw738557261370543980:=0
def tw17709106354079903063:=0
def tw8812934327398274839:=0
def tw12877046694989413522:=0
def tw16349226278685239066:=0
def tw6667753834100030410:=0
def tw6829593970444057489:=0
def tw8700456341223451955:=0
def tw15067976681237961135:=0
end PySem.W.Fast
theorem PySem.Challenge.cw_edgemoss_k33_whole_alike_only_when_moved_holds : PySem.Challenge.rw_edgemoss_k33_whole_alike_only_when_moved.Holds := by
 w_on;o_law;k_head;(case hw=>w_witness2)
 k_fill
 refine Vl.ajI (l:=PySem.Challenge.rw_edgemoss_k33_whole_alike_only_when_moved) (k:=7) (v:=Lz.aaJ) (ts:=[(139,"common_stride.<locals>.<lambda>")]) rfl rfl ⟨rfl,by decide,by decide⟩ (fun w h Y=>PySem.W.km_in_of Y) ?aT (by decide) ?aL ?aN ?aC ?aV ?aF
 case aT=>exact fun w h Y y hy=>by rw[g_.mp hy];exact PySem.W.km_tabs_of Y _ (g_.mpr rfl)
 case aL=>exact fun w=>by kernel_rfl
 case aN=>exact fun w y hy=>by rw[g_.mp hy];kernel_rfl
 case aV=>exact Lz.ahG
 case aF =>
  intro w mg fa h KX G hmg;refine' Lz.all_mk (qm:=139) KX G hmg ?_ ?_ ?_ ?_ ?_ ?_ ?_ ?_ ?_ ?_ ?_ ?_ ?_ ?_ ?_ ?_ ?_ ?_ ?_ ?_ ?_ ?_ ?_ ?_ ?_ ?_ ?_ ?_ ?_ ?_ ?_ ?_ ?_ ?_ ?_ ?_ ?_ ?_ ?_ ?_ ?_ ?_ ?_ ?_ ?_ ?_ ?_ ?_ ?_ ?_ ?_ ?_ ?_ ?_ ?_ ?_ ?_ ?_ ?_ ?_ ?_ ?_ ?_ ?_ ?_ ?_ ?_ ?_ ?_ ?_ ?_ ?_ ?_ ?_ ?_ ?_ ?_ ?_ ?_ ?_ ?_ ?_ ?_ ?_ ?_ ?_ ?_ ?_ ?_ ?_ ?_ ?_ ?_ ?_ ?_ ?_ ?_ ?_ ?_ ?_ ?_ ?_ ?_ ?_ ?_ ?_ ?_ ?_ ?_ ?_ ?_ ?_ ?_ ?_ ?_ ?_ ?_ ?_ ?_ ?_ ?_ ?_ ?_ ?_ ?_ ?_ ?_ ?_ ?_ ?_ ?_ ?_ ?_ ?_ ?_ ?_
  all_goals try first|k_is|kernel_rfl
 case aC =>
  intro w y hy;rw[g_.mp hy];refine' Vl.aqy (x:="common_stride") (st:=Lz.dg) ?a ?b ?e
  (case a=>k_is)
  (case b=>k_is)
  (case e=>kernel_rfl)
