import Derived.Test.YtadlcgdjmjegaaaW01
import Derived.Test.YtadlcgdjmjegaaaW03
import Derived.Test.YtadlcgdjmjegaaaProg
set_option linter.unusedSimpArgs false
set_option linter.unusedVariables false
set_option maxRecDepth 100000
set_option maxHeartbeats 4000000
namespace Go.VI
def te:TE:=[
 ⟨1,(.raw .fn),0,[],8,false,none⟩,
 ⟨2,(.int .i64),0,[],8,true,none⟩,
 ⟨3,(.int .i64),0,[],8,true,none⟩,
 ⟨4,.bool,0,[],1,true,none⟩,
 ⟨5,(.int .u8),0,[],1,true,none⟩,
 ⟨6,(.int .u8),0,[],1,true,none⟩,
 ⟨7,(.prod (.int .i64) (.prod (.int .i64) (.prod .bool (.prod (.int .u8) .unit)))),0,[(0,(.int .i64)),(1,(.int .i64)),(2,.bool),(3,(.int .u8))],24,true,none⟩,
 ⟨8,(.prod (.int .i64) (.prod (.int .i64) (.prod .bool (.prod (.int .u8) .unit)))),0,[(0,(.int .i64)),(1,(.int .i64)),(2,.bool),(3,(.int .u8))],24,true,none⟩,
 ⟨12,(.int .u64),0,[],8,true,none⟩,
 ⟨18,(.prod (.raw .ptr) .unit),0,[(0,(.raw .ptr))],8,false,none⟩,
 ⟨19,(.prod (.raw .ptr) .unit),0,[(0,(.raw .ptr))],8,false,none⟩,
 ⟨20,(.raw .ifc),0,[],16,false,none⟩,
 ⟨21,(.int .i32),0,[],4,true,none⟩,
 ⟨22,(.raw .fn),0,[],8,false,none⟩,
 ⟨23,(.raw .fn),0,[],8,false,none⟩,
 ⟨24,(.raw .fn),0,[],8,false,none⟩,
 ⟨25,(.slice (.prod (.int .i64) (.prod (.int .i64) (.prod (.int .i64) (.prod (.int .i64) (.prod (.int .u64) .unit)))))),58,[],40,false,none⟩,
 ⟨26,(.prod (.int .i64) (.prod (.slice (.prod (.int .i64) (.prod (.int .i64) (.prod (.int .i64) (.prod (.int .i64) (.prod (.int .u64) .unit)))))) .unit)),0,[(0,(.int .i64)),(1,(.slice (.prod (.int .i64) (.prod (.int .i64) (.prod (.int .i64) (.prod (.int .i64) (.prod (.int .u64) .unit)))))))],32,false,none⟩,
 ⟨27,(.prod (.int .i64) (.prod (.slice (.prod (.int .i64) (.prod (.int .i64) (.prod (.int .i64) (.prod (.int .i64) (.prod (.int .u64) .unit)))))) .unit)),0,[(0,(.int .i64)),(1,(.slice (.prod (.int .i64) (.prod (.int .i64) (.prod (.int .i64) (.prod (.int .i64) (.prod (.int .u64) .unit)))))))],32,false,none⟩,
 ⟨28,(.slice (.int .u64)),56,[],8,false,none⟩,
 ⟨29,(.slice (.int .i64)),3,[],8,false,none⟩,
 ⟨30,(.raw .fn),0,[],8,false,none⟩,
 ⟨31,(.slice (.prod (.int .i64) (.prod (.slice (.prod (.int .i64) (.prod (.int .i64) (.prod (.int .i64) (.prod (.int .i64) (.prod (.int .u64) .unit)))))) .unit))),27,[],32,false,none⟩,
 ⟨32,(.int .i64),0,[],8,true,none⟩,
 ⟨34,(.raw .fn),0,[],8,false,none⟩,
 ⟨35,(.slice (.prod (.int .i64) (.prod (.int .i64) (.prod (.int .i64) (.prod (.int .i64) (.prod (.int .u64) .unit)))))),60,[],40,false,none⟩,
 ⟨36,(.prod (.int .i64) (.prod (.slice (.prod (.int .i64) (.prod (.int .i64) (.prod (.int .i64) (.prod (.int .i64) (.prod (.int .u64) .unit)))))) .unit)),0,[(0,(.int .i64)),(1,(.slice (.prod (.int .i64) (.prod (.int .i64) (.prod (.int .i64) (.prod (.int .i64) (.prod (.int .u64) .unit)))))))],32,false,none⟩,
 ⟨37,(.prod (.int .i64) (.prod (.slice (.prod (.int .i64) (.prod (.int .i64) (.prod (.int .i64) (.prod (.int .i64) (.prod (.int .u64) .unit)))))) .unit)),0,[(0,(.int .i64)),(1,(.slice (.prod (.int .i64) (.prod (.int .i64) (.prod (.int .i64) (.prod (.int .i64) (.prod (.int .u64) .unit)))))))],32,false,none⟩,
 ⟨38,(.raw .fn),0,[],8,false,none⟩,
 ⟨39,(.raw .fn),0,[],8,false,none⟩,
 ⟨40,(.raw .fn),0,[],8,false,none⟩,
 ⟨42,(.raw .fn),0,[],8,false,none⟩,
 ⟨44,(.raw .fn),0,[],8,false,none⟩,
 ⟨45,(.raw .fn),0,[],8,false,none⟩,
 ⟨46,(.raw .fn),0,[],8,false,none⟩,
 ⟨47,(.raw .fn),0,[],8,false,none⟩,
 ⟨48,(.raw .fn),0,[],8,false,none⟩,
 ⟨49,(.slice (.slice (.int .i64))),29,[],24,false,none⟩,
 ⟨50,(.raw .fn),0,[],8,false,none⟩,
 ⟨51,(.raw .fn),0,[],8,false,none⟩,
 ⟨52,(.raw .fn),0,[],8,false,none⟩,
 ⟨53,(.raw .fn),0,[],8,false,none⟩,
 ⟨54,(.raw .fn),0,[],8,false,none⟩,
 ⟨55,(.raw .fn),0,[],8,false,none⟩,
 ⟨56,(.int .u64),0,[],8,true,none⟩,
 ⟨57,(.prod (.int .i64) (.prod (.int .i64) (.prod (.int .i64) (.prod (.int .i64) (.prod (.int .u64) .unit))))),0,[(0,(.int .i64)),(1,(.int .i64)),(2,(.int .i64)),(3,(.int .i64)),(4,(.int .u64))],40,true,none⟩,
 ⟨58,(.prod (.int .i64) (.prod (.int .i64) (.prod (.int .i64) (.prod (.int .i64) (.prod (.int .u64) .unit))))),0,[(0,(.int .i64)),(1,(.int .i64)),(2,(.int .i64)),(3,(.int .i64)),(4,(.int .u64))],40,true,none⟩,
 ⟨59,(.raw .fn),0,[],8,false,none⟩,
 ⟨60,(.prod (.int .i64) (.prod (.int .i64) (.prod (.int .i64) (.prod (.int .i64) (.prod (.int .u64) .unit))))),0,[(0,(.int .i64)),(1,(.int .i64)),(2,(.int .i64)),(3,(.int .i64)),(4,(.int .u64))],40,true,none⟩,
 ⟨62,(.prod (.slice (.int .i64)) (.prod (.int .i64) .unit)),0,[(0,(.slice (.int .i64))),(1,(.int .i64))],32,false,none⟩,
 ⟨63,(.prod (.slice (.int .i64)) (.prod (.int .i64) .unit)),0,[(0,(.slice (.int .i64))),(1,(.int .i64))],32,false,none⟩,
 ⟨64,(.raw .fn),0,[],8,false,none⟩,
 ⟨65,(.raw .fn),0,[],8,false,none⟩,
 ⟨66,(.int .u64),0,[],8,true,none⟩,
 ⟨68,(.raw .fn),0,[],8,false,none⟩,
 ⟨70,(.raw .fn),0,[],8,false,none⟩,
 ⟨71,(.raw .fn),0,[],8,false,none⟩,
 ⟨72,(.int .i64),0,[],8,true,none⟩,
 ⟨73,(.prod (.int .i64) (.prod (.int .i64) (.prod (.int .i64) (.prod (.int .i64) (.prod (.int .i64) (.prod (.int .i64) (.prod (.int .i64) (.prod (.int .i64) .unit)))))))),72,[(0,(.int .i64)),(1,(.int .i64)),(2,(.int .i64)),(3,(.int .i64)),(4,(.int .i64)),(5,(.int .i64)),(6,(.int .i64)),(7,(.int .i64))],64,false,some (8,(.int .i64))⟩,
 ⟨74,(.prod (.int .i64) (.prod (.int .i64) (.prod (.int .i64) (.prod (.int .i64) (.prod (.int .i64) (.prod (.int .i64) (.prod (.int .i64) (.prod (.int .i64) .unit)))))))),72,[(0,(.int .i64)),(1,(.int .i64)),(2,(.int .i64)),(3,(.int .i64)),(4,(.int .i64)),(5,(.int .i64)),(6,(.int .i64)),(7,(.int .i64))],64,false,some (8,(.int .i64))⟩,
 ⟨75,(.raw .fn),0,[],8,false,none⟩,
 ⟨76,(.raw .map),0,[],8,false,none⟩,
 ⟨78,(.raw .fn),0,[],8,false,none⟩,
 ⟨79,(.raw .fn),0,[],8,false,none⟩,
 ⟨80,(.raw .fn),0,[],8,false,none⟩,
 ⟨81,(.raw .fn),0,[],8,false,none⟩,
 ⟨82,(.slice (.prod (.int .i64) (.prod (.int .i64) (.prod (.int .i64) (.prod (.int .i64) (.prod (.int .i64) (.prod (.int .i64) (.prod (.int .i64) (.prod (.int .i64) .unit))))))))),84,[],64,false,none⟩,
 ⟨83,(.prod (.int .i64) (.prod (.int .i64) (.prod (.int .i64) (.prod (.int .i64) (.prod (.int .i64) (.prod (.int .i64) (.prod (.int .i64) (.prod (.int .i64) .unit)))))))),3,[(0,(.int .i64)),(1,(.int .i64)),(2,(.int .i64)),(3,(.int .i64)),(4,(.int .i64)),(5,(.int .i64)),(6,(.int .i64)),(7,(.int .i64))],64,false,some (8,(.int .i64))⟩,
 ⟨84,(.prod (.int .i64) (.prod (.int .i64) (.prod (.int .i64) (.prod (.int .i64) (.prod (.int .i64) (.prod (.int .i64) (.prod (.int .i64) (.prod (.int .i64) .unit)))))))),3,[(0,(.int .i64)),(1,(.int .i64)),(2,(.int .i64)),(3,(.int .i64)),(4,(.int .i64)),(5,(.int .i64)),(6,(.int .i64)),(7,(.int .i64))],64,false,some (8,(.int .i64))⟩,
 ⟨86,(.raw .fn),0,[],8,false,none⟩,
 ⟨87,(.raw .fn),0,[],8,false,none⟩,
 ⟨88,(.raw .fn),0,[],8,false,none⟩,
 ⟨89,(.raw .fn),0,[],8,false,none⟩,
 ⟨90,(.raw .fn),0,[],8,false,none⟩,
 ⟨91,(.raw .fn),0,[],8,false,none⟩,
 ⟨93,(.raw .fn),0,[],8,false,none⟩,
 ⟨94,(.prod (.int .i64) (.prod (.int .u64) .unit)),0,[(0,(.int .i64)),(1,(.int .u64))],16,true,none⟩,
 ⟨95,(.prod (.int .i64) (.prod (.int .u64) .unit)),0,[(0,(.int .i64)),(1,(.int .u64))],16,true,none⟩,
 ⟨96,(.slice (.prod (.int .i64) (.prod (.int .u64) .unit))),95,[],16,false,none⟩,
 ⟨97,(.raw .fn),0,[],8,false,none⟩,
 ⟨98,(.raw .fn),0,[],8,false,none⟩,
 ⟨99,(.raw .fn),0,[],8,false,none⟩,
 ⟨101,(.raw .fn),0,[],8,false,none⟩,
 ⟨102,(.raw .fn),0,[],8,false,none⟩,
 ⟨103,(.raw .fn),0,[],8,false,none⟩,
 ⟨104,(.raw .fn),0,[],8,false,none⟩,
 ⟨105,(.raw .fn),0,[],8,false,none⟩,
 ⟨106,(.slice (.int .i64)),72,[],8,false,none⟩,
 ⟨107,(.raw .fn),0,[],8,false,none⟩,
 ⟨113,(.raw .fn),0,[],8,false,none⟩,
 ⟨114,(.int .u32),0,[],4,true,none⟩,
 ⟨115,(.int .u8),0,[],1,true,none⟩,
 ⟨116,(.int .u8),0,[],1,true,none⟩,
 ⟨117,(.raw .fn),0,[],8,false,none⟩,
 ⟨119,(.int .i32),0,[],4,true,none⟩,
 ⟨120,(.int .i32),0,[],4,true,none⟩,
 ⟨121,(.prod (.int .u64) (.prod (.int .u64) (.prod (.int .u32) (.prod (.int .u8) (.prod (.int .u8) (.prod (.int .u8) (.prod (.int .u8) (.prod (.raw .fn) (.prod (.raw .ptr) (.prod (.int .i32) (.prod (.int .i32) .unit))))))))))),0,[(0,(.int .u64)),(1,(.int .u64)),(2,(.int .u32)),(3,(.int .u8)),(4,(.int .u8)),(5,(.int .u8)),(6,(.int .u8)),(7,(.raw .fn)),(8,(.raw .ptr)),(9,(.int .i32)),(10,(.int .i32))],48,false,none⟩,
 ⟨122,(.prod (.int .u64) (.prod (.int .u64) (.prod (.int .u32) (.prod (.int .u8) (.prod (.int .u8) (.prod (.int .u8) (.prod (.int .u8) (.prod (.raw .fn) (.prod (.raw .ptr) (.prod (.int .i32) (.prod (.int .i32) .unit))))))))))),0,[(0,(.int .u64)),(1,(.int .u64)),(2,(.int .u32)),(3,(.int .u8)),(4,(.int .u8)),(5,(.int .u8)),(6,(.int .u8)),(7,(.raw .fn)),(8,(.raw .ptr)),(9,(.int .i32)),(10,(.int .i32))],48,false,none⟩]
end Go.VI
namespace Go.VI
open Go Go.Proofs
theorem mix_ok:Try.prog.follows .mixedOrders=true:=by kernel_rfl
theorem te_ok:TEok Try.prog te:=.of (by kernel_rfl)
abbrev Snd (E:Entry):Prop:=Enters Try.prog E.f/\E.Sound Try.prog
theorem sc {E:Entry} {tbl:Tbl} (h:Snd E) (h3:Tbl.Sound Try.prog tbl):Tbl.Sound Try.prog (E.ent :: tbl):=Tbl.sound_cons h.1 h.2 h3
theorem sn:Tbl.Sound Try.prog []:=Tbl.sound_nil
noncomputable abbrev FT (tbl:Tbl) (ann:Ann) (k:Nat) (fn:Func) (sh:List AP) (ps:List PTy) (rs:List RTy) (d:Pden ps):Option (Rden rs × Oden ps):=(funT te tbl ann k (bodyOf fn) fn.results.toList sh ps rs d).ev
@[reducible] def Y0:Ty:=.prod (.int .u64) .unit
@[reducible] def Y1:Ty:=.prod (.int .i64) Y0
@[reducible] def Y2:Ty:=.prod (.int .i64) Y1
@[reducible] def Y3:Ty:=.prod (.int .i64) Y2
@[reducible] def Y4:Ty:=.prod (.int .i64) Y3
@[reducible] def Y5:Ty:=.slice Y4
@[reducible] def Y6:Ty:=.prod Y5 .unit
@[reducible] def Y7:Ty:=.prod (.int .i64) Y6
@[reducible] def Y8:Ty:=.slice Y1
@[reducible] def Y9:Ty:=.slice (.int .u64)
@[reducible] def Y10:Ty:=.slice (.int .i64)
@[reducible] def Y11:Ty:=.prod (.int .i64) .unit
@[reducible] def Y12:Ty:=.prod Y10 Y11
noncomputable def F_ncode_within (d:Pden [.val (.int .i64),.val (.int .i64)]):Option (Rden [⟨.bool,[none],none⟩] × Oden [.val (.int .i64),.val (.int .i64)]):=FT [] [] 12 Try.f46 [.p,.p] [.val (.int .i64),.val (.int .i64)] [⟨.bool,[none],none⟩] d
noncomputable def E_ncode_within:Entry:=⟨46,[.p,.p],[.val (.int .i64),.val (.int .i64)],[⟨.bool,[none],none⟩],F_ncode_within⟩
theorem S_ncode_within:Snd E_ncode_within:=ent_ok te_ok mix_ok sn (fn:=Try.f46) (by kernel_rfl) (by kernel_rfl) (F:=F_ncode_within) rfl (.of_bare rfl)
noncomputable def F_bits_Ones (d:Pden [.val (.int .i64)]):Option (Rden [⟨(.int .u64),[none],none⟩] × Oden [.val (.int .i64)]):=FT [] [] 8 Try.f61 [.p] [.val (.int .i64)] [⟨(.int .u64),[none],none⟩] d
noncomputable def E_bits_Ones:Entry:=⟨61,[.p],[.val (.int .i64)],[⟨(.int .u64),[none],none⟩],F_bits_Ones⟩
theorem S_bits_Ones:Snd E_bits_Ones:=ent_ok te_ok mix_ok sn (fn:=Try.f61) (by kernel_rfl) (by kernel_rfl) (F:=F_bits_Ones) rfl (.of_bare rfl)
noncomputable def F_ncode_wellFormed (d:Pden [.val Y4]):Option (Rden [⟨.bool,[none],none⟩] × Oden [.val Y4]):=FT [E_ncode_within.ent,E_bits_Ones.ent] [] 28 Try.f47 [.p] [.val Y4] [⟨.bool,[none],none⟩] d
noncomputable def E_ncode_wellFormed:Entry:=⟨47,[.p],[.val Y4],[⟨.bool,[none],none⟩],F_ncode_wellFormed⟩
theorem S_ncode_wellFormed:Snd E_ncode_wellFormed:=ent_ok te_ok mix_ok (sc S_ncode_within (sc S_bits_Ones sn)) (fn:=Try.f47) (by kernel_rfl) (by kernel_rfl) (F:=F_ncode_wellFormed) rfl (.of_bare rfl)
noncomputable def F_ncode_encodable (d:Pden [.val Y7]):Option (Rden [⟨.bool,[none],none⟩] × Oden [.val Y7]):=FT [E_ncode_within.ent,E_ncode_wellFormed.ent] [⟨0,[],⟨[2,18],[.val .bool,.val (.int .i64)],[],[],[]⟩,[(.ret,⟨[2],[.val .bool],[],[],[]⟩),(.exit 0,⟨[2],[.val .bool],[],[],[]⟩)],none⟩] 26 Try.f28 [.p] [.val Y7] [⟨.bool,[none],none⟩] d
noncomputable def E_ncode_encodable:Entry:=⟨28,[.p],[.val Y7],[⟨.bool,[none],none⟩],F_ncode_encodable⟩
theorem S_ncode_encodable:Snd E_ncode_encodable:=ent_ok te_ok mix_ok (sc S_ncode_within (sc S_ncode_wellFormed sn)) (fn:=Try.f28) (by kernel_rfl) (by kernel_rfl) (F:=F_ncode_encodable) rfl (.of_bare rfl)
noncomputable def F_bits_Pack_S1_c (d:Pden [.val (.int .i64),.ptr 96 Y8]):Option (Rden [⟨(.int .i64),[none],none⟩] × Oden [.val (.int .i64),.ptr 96 Y8]):=FT [] [] 9 Try.f63 [.p,.p] [.val (.int .i64),.ptr 96 Y8] [⟨(.int .i64),[none],none⟩] d
noncomputable def E_bits_Pack_S1_c:Entry:=⟨63,[.p,.p],[.val (.int .i64),.ptr 96 Y8],[⟨(.int .i64),[none],none⟩],F_bits_Pack_S1_c⟩
theorem S_bits_Pack_S1_c:Snd E_bits_Pack_S1_c:=ent_ok te_ok mix_ok sn (fn:=Try.f63) (by kernel_rfl) (by kernel_rfl) (F:=F_bits_Pack_S1_c) rfl (.of_bare rfl)
noncomputable def F_bits_fit_c_bits_Pack_S1 (d:Pden [.val (.int .i64),.ptr 96 Y8]):Option (Rden [⟨.bool,[none],none⟩] × Oden [.val (.int .i64),.ptr 96 Y8]):=FT [E_bits_Pack_S1_c.ent] [⟨0,[],⟨[4,5,8],[.val .bool,.val (.int .i64),.val (.int .i64)],[],[1],[.box 96 [.val Y8]]⟩,[(.ret,⟨[4],[.val .bool],[],[1],[.box 96 [.val Y8]]⟩),(.exit 0,⟨[4],[.val .bool],[],[1],[.box 96 [.val Y8]]⟩)],none⟩] 28 Try.f62 [.p,.clo 63 0 1] [.val (.int .i64),.ptr 96 Y8] [⟨.bool,[none],none⟩] d
noncomputable def E_bits_fit_c_bits_Pack_S1:Entry:=⟨62,[.p,.clo 63 0 1],[.val (.int .i64),.ptr 96 Y8],[⟨.bool,[none],none⟩],F_bits_fit_c_bits_Pack_S1⟩
theorem S_bits_fit_c_bits_Pack_S1:Snd E_bits_fit_c_bits_Pack_S1:=ent_ok te_ok mix_ok (sc S_bits_Pack_S1_c sn) (fn:=Try.f62) (by kernel_rfl) (by kernel_rfl) (F:=F_bits_fit_c_bits_Pack_S1) rfl (.of_bare rfl)
noncomputable def F_bits_Pack (d:Pden [.val Y8]):Option (Rden [⟨(.int .u64),[none],none⟩,⟨(.int .i64),[none],none⟩] × Oden [.val Y8]):=FT [E_bits_fit_c_bits_Pack_S1.ent,E_bits_Ones.ent] [⟨0,[],⟨[2,3,4,14],[.val (.int .u64),.val (.int .i64),.val (.int .u64),.val (.int .i64)],[],[],[]⟩,[(.ret,⟨[2,3],[.val (.int .u64),.val (.int .i64)],[],[],[]⟩),(.exit 0,⟨[2,3,4],[.val (.int .u64),.val (.int .i64),.val (.int .u64)],[],[],[]⟩)],none⟩] 40 Try.f48 [.p] [.val Y8] [⟨(.int .u64),[none],none⟩,⟨(.int .i64),[none],none⟩] d
noncomputable def E_bits_Pack:Entry:=⟨48,[.p],[.val Y8],[⟨(.int .u64),[none],none⟩,⟨(.int .i64),[none],none⟩],F_bits_Pack⟩
theorem S_bits_Pack:Snd E_bits_Pack:=ent_ok te_ok mix_ok (sc S_bits_fit_c_bits_Pack_S1 (sc S_bits_Ones sn)) (fn:=Try.f48) (by kernel_rfl) (by kernel_rfl) (F:=F_bits_Pack) rfl (.of_bare rfl)
noncomputable def F_ncode_fields (d:Pden [.val Y4]):Option (Rden [⟨(.int .u64),[none],none⟩] × Oden [.val Y4]):=FT [E_bits_Pack.ent] [] 27 Try.f29 [.p] [.val Y4] [⟨(.int .u64),[none],none⟩] d
noncomputable def E_ncode_fields:Entry:=⟨29,[.p],[.val Y4],[⟨(.int .u64),[none],none⟩],F_ncode_fields⟩
theorem S_ncode_fields:Snd E_ncode_fields:=ent_ok te_ok mix_ok (sc S_bits_Pack sn) (fn:=Try.f29) (by kernel_rfl) (by kernel_rfl) (F:=F_ncode_fields) rfl (.of_bare rfl)
noncomputable def F_ncode_Encode (d:Pden [.val Y7]):Option (Rden [⟨Y9,[some 56],none⟩,⟨(.int .i64),[none],none⟩] × Oden [.val Y7]):=FT [E_ncode_encodable.ent,E_ncode_fields.ent] [⟨0,[.b 705,.s 13],⟨[4,17],[.own 0,.val (.int .i64)],[.arr 56 (.int .u64)],[],[]⟩,[(.exit 0,⟨[4],[.own 0],[.arr 56 (.int .u64)],[],[]⟩)],none⟩] 30 Try.f13 [.p] [.val Y7] [⟨Y9,[some 56],none⟩,⟨(.int .i64),[none],none⟩] d
noncomputable def E_ncode_Encode:Entry:=⟨13,[.p],[.val Y7],[⟨Y9,[some 56],none⟩,⟨(.int .i64),[none],none⟩],F_ncode_Encode⟩
theorem S_ncode_Encode:Snd E_ncode_Encode:=ent_ok te_ok mix_ok (sc S_ncode_encodable (sc S_ncode_fields sn)) (fn:=Try.f13) (by kernel_rfl) (by kernel_rfl) (F:=F_ncode_Encode) rfl (.of_bare rfl)
noncomputable def F_l22_awake (d:Pden []):Option (Rden [⟨.bool,[none],none⟩] × Oden []):=FT [E_ncode_Encode.ent] [] 29 Try.f9 [] [] [⟨.bool,[none],none⟩] d
noncomputable def E_l22_awake:Entry:=⟨9,[],[],[⟨.bool,[none],none⟩],F_l22_awake⟩
theorem S_l22_awake:Snd E_l22_awake:=ent_ok te_ok mix_ok (sc S_ncode_Encode sn) (fn:=Try.f9) (by kernel_rfl) (by kernel_rfl) (F:=F_l22_awake) rfl (.of_bare rfl)
noncomputable def F_ncode_Args (d:Pden [.val (.int .i64)]):Option (Rden [⟨(.int .i64),[none],none⟩] × Oden [.val (.int .i64)]):=FT [] [] 27 Try.f10 [.p] [.val (.int .i64)] [⟨(.int .i64),[none],none⟩] d
noncomputable def E_ncode_Args:Entry:=⟨10,[.p],[.val (.int .i64)],[⟨(.int .i64),[none],none⟩],F_ncode_Args⟩
theorem S_ncode_Args:Snd E_ncode_Args:=ent_ok te_ok mix_ok sn (fn:=Try.f10) (by kernel_rfl) (by kernel_rfl) (F:=F_ncode_Args) rfl (.of_bare rfl)
noncomputable def F_r22_Args (d:Pden [.val (.int .i64)]):Option (Rden [⟨(.int .i64),[none],none⟩] × Oden [.val (.int .i64)]):=FT [] [] 18 Try.f11 [.p] [.val (.int .i64)] [⟨(.int .i64),[none],none⟩] d
noncomputable def E_r22_Args:Entry:=⟨11,[.p],[.val (.int .i64)],[⟨(.int .i64),[none],none⟩],F_r22_Args⟩
theorem S_r22_Args:Snd E_r22_Args:=ent_ok te_ok mix_ok sn (fn:=Try.f11) (by kernel_rfl) (by kernel_rfl) (F:=F_r22_Args) rfl (.of_bare rfl)
noncomputable def F_l22_NcodeArgs (d:Pden [.val (.int .i64)]):Option (Rden [⟨.bool,[none],none⟩] × Oden [.val (.int .i64)]):=FT [E_l22_awake.ent,E_ncode_Args.ent,E_r22_Args.ent] [] 11 Try.f3 [.p] [.val (.int .i64)] [⟨.bool,[none],none⟩] d
noncomputable def E_l22_NcodeArgs:Entry:=⟨3,[.p],[.val (.int .i64)],[⟨.bool,[none],none⟩],F_l22_NcodeArgs⟩
theorem S_l22_NcodeArgs:Snd E_l22_NcodeArgs:=ent_ok te_ok mix_ok (sc S_l22_awake (sc S_ncode_Args (sc S_r22_Args sn))) (fn:=Try.f3) (by kernel_rfl) (by kernel_rfl) (F:=F_l22_NcodeArgs) rfl (.of_bare rfl)
noncomputable def F_made_Tape_Next (d:Pden [.ptr 63 Y12,.val (.int .i64)]):Option (Rden [⟨(.int .i64),[none],none⟩] × Oden [.ptr 63 Y12,.val (.int .i64)]):=FT [] [] 48 Try.f27 [.p,.p] [.ptr 63 Y12,.val (.int .i64)] [⟨(.int .i64),[none],none⟩] d
noncomputable def E_made_Tape_Next:Entry:=⟨27,[.p,.p],[.ptr 63 Y12,.val (.int .i64)],[⟨(.int .i64),[none],none⟩],F_made_Tape_Next⟩
theorem S_made_Tape_Next:Snd E_made_Tape_Next:=ent_ok te_ok mix_ok sn (fn:=Try.f27) (by kernel_rfl) (by kernel_rfl) (F:=F_made_Tape_Next) rfl (.of_bare rfl)
noncomputable def F_made_nat (d:Pden [.val (.int .i64),.val (.int .i64),.val (.int .i64),.val (.int .i64),.val (.int .u64)]):Option (Rden [⟨Y4,[none,none,none,none,none],none⟩] × Oden [.val (.int .i64),.val (.int .i64),.val (.int .i64),.val (.int .i64),.val (.int .u64)]):=FT [] [] 17 Try.f45 [.p,.p,.p,.p,.p] [.val (.int .i64),.val (.int .i64),.val (.int .i64),.val (.int .i64),.val (.int .u64)] [⟨Y4,[none,none,none,none,none],none⟩] d
noncomputable def E_made_nat:Entry:=⟨45,[.p,.p,.p,.p,.p],[.val (.int .i64),.val (.int .i64),.val (.int .i64),.val (.int .i64),.val (.int .u64)],[⟨Y4,[none,none,none,none,none],none⟩],F_made_nat⟩
theorem S_made_nat:Snd E_made_nat:=ent_ok te_ok mix_ok sn (fn:=Try.f45) (by kernel_rfl) (by kernel_rfl) (F:=F_made_nat) rfl (.of_bare rfl)
noncomputable def F_made_idiom (d:Pden [.ptr 63 Y12,.val Y10,.val (.int .i64)]):Option (Rden [⟨Y5,[some 58],none⟩] × Oden [.ptr 63 Y12,.val Y10,.val (.int .i64)]):=FT [E_made_Tape_Next.ent,E_made_nat.ent] [] 133 Try.f44 [.p,.p,.p] [.ptr 63 Y12,.val Y10,.val (.int .i64)] [⟨Y5,[some 58],none⟩] d
noncomputable def E_made_idiom:Entry:=⟨44,[.p,.p,.p],[.ptr 63 Y12,.val Y10,.val (.int .i64)],[⟨Y5,[some 58],none⟩],F_made_idiom⟩
theorem S_made_idiom:Snd E_made_idiom:=ent_ok te_ok mix_ok (sc S_made_Tape_Next (sc S_made_nat sn)) (fn:=Try.f44) (by kernel_rfl) (by kernel_rfl) (F:=F_made_idiom) rfl (.of_bare rfl)
noncomputable def F_made_Tape_Native (d:Pden [.ptr 63 Y12,.val (.int .i64),.val Y10]):Option (Rden [⟨Y7,[none,some 58],none⟩] × Oden [.ptr 63 Y12,.val (.int .i64),.val Y10]):=FT [E_made_Tape_Next.ent,E_made_idiom.ent,E_r22_Args.ent,E_made_nat.ent] [⟨0,[],⟨[8],[.val (.int .i64)],[.arr 58 Y4],[0,195],[.box 63 [.val Y10,.val (.int .i64)],.box 27 [.val (.int .i64),.own 0]]⟩,[(.exit 0,⟨[],[],[.arr 58 Y4],[0,195],[.box 63 [.val Y10,.val (.int .i64)],.box 27 [.val (.int .i64),.own 0]]⟩)],none⟩,⟨2,[],⟨[9],[.val (.int .i64)],[],[579],[.arr 58 Y4]⟩,[(.exit 2,⟨[],[],[],[579],[.arr 58 Y4]⟩)],none⟩] 120 Try.f26 [.p,.p,.p] [.ptr 63 Y12,.val (.int .i64),.val Y10] [⟨Y7,[none,some 58],none⟩] d
noncomputable def E_made_Tape_Native:Entry:=⟨26,[.p,.p,.p],[.ptr 63 Y12,.val (.int .i64),.val Y10],[⟨Y7,[none,some 58],none⟩],F_made_Tape_Native⟩
theorem S_made_Tape_Native:Snd E_made_Tape_Native:=ent_ok te_ok mix_ok (sc S_made_Tape_Next (sc S_made_idiom (sc S_r22_Args (sc S_made_nat sn)))) (fn:=Try.f26) (by kernel_rfl) (by kernel_rfl) (F:=F_made_Tape_Native) rfl (.of_bare rfl)
noncomputable def F_l22_made (d:Pden [.val Y10]):Option (Rden [⟨Y7,[none,some 58],none⟩] × Oden [.val Y10]):=FT [E_made_Tape_Next.ent,E_made_Tape_Native.ent] [] 12 Try.f12 [.p] [.val Y10] [⟨Y7,[none,some 58],none⟩] d
noncomputable def E_l22_made:Entry:=⟨12,[.p],[.val Y10],[⟨Y7,[none,some 58],none⟩],F_l22_made⟩
theorem S_l22_made:Snd E_l22_made:=ent_ok te_ok mix_ok (sc S_made_Tape_Next (sc S_made_Tape_Native sn)) (fn:=Try.f12) (by kernel_rfl) (by kernel_rfl) (F:=F_l22_made) rfl (.of_bare rfl)
noncomputable def F_l22_given (d:Pden [.val Y7]):Option (Rden [⟨Y7,[none,some 60],none⟩] × Oden [.val Y7]):=FT [] [⟨0,[],⟨[4],[.val (.int .i64)],[.arr 60 Y4],[321],[.box 37 [.val (.int .i64),.own 0]]⟩,[(.exit 0,⟨[],[],[.arr 60 Y4],[321],[.box 37 [.val (.int .i64),.own 0]]⟩)],none⟩] 38 Try.f14 [.p] [.val Y7] [⟨Y7,[none,some 60],none⟩] d
noncomputable def E_l22_given:Entry:=⟨14,[.p],[.val Y7],[⟨Y7,[none,some 60],none⟩],F_l22_given⟩
theorem S_l22_given:Snd E_l22_given:=ent_ok te_ok mix_ok sn (fn:=Try.f14) (by kernel_rfl) (by kernel_rfl) (F:=F_l22_given) rfl (.of_bare rfl)
noncomputable def F_r22_Formed (d:Pden [.val Y7]):Option (Rden [⟨.bool,[none],none⟩] × Oden [.val Y7]):=FT [] [⟨0,[],⟨[2,3],[.val .bool,.val (.int .i64)],[],[],[]⟩,[(.ret,⟨[2],[.val .bool],[],[],[]⟩),(.exit 0,⟨[2],[.val .bool],[],[],[]⟩)],none⟩] 69 Try.f30 [.p] [.val Y7] [⟨.bool,[none],none⟩] d
noncomputable def E_r22_Formed:Entry:=⟨30,[.p],[.val Y7],[⟨.bool,[none],none⟩],F_r22_Formed⟩
theorem S_r22_Formed:Snd E_r22_Formed:=ent_ok te_ok mix_ok sn (fn:=Try.f30) (by kernel_rfl) (by kernel_rfl) (F:=F_r22_Formed) rfl (.of_bare rfl)
noncomputable def F_r22_Encode (d:Pden [.val Y7]):Option (Rden [⟨Y9,[some 56],none⟩,⟨(.int .i64),[none],none⟩] × Oden [.val Y7]):=FT [E_r22_Formed.ent] [⟨0,[.b 705,.s 13],⟨[4,5],[.own 0,.val (.int .i64)],[.arr 56 (.int .u64)],[],[]⟩,[(.exit 0,⟨[4],[.own 0],[.arr 56 (.int .u64)],[],[]⟩)],none⟩] 47 Try.f15 [.p] [.val Y7] [⟨Y9,[some 56],none⟩,⟨(.int .i64),[none],none⟩] d
noncomputable def E_r22_Encode:Entry:=⟨15,[.p],[.val Y7],[⟨Y9,[some 56],none⟩,⟨(.int .i64),[none],none⟩],F_r22_Encode⟩
theorem S_r22_Encode:Snd E_r22_Encode:=ent_ok te_ok mix_ok (sc S_r22_Formed sn) (fn:=Try.f15) (by kernel_rfl) (by kernel_rfl) (F:=F_r22_Encode) rfl (.of_bare rfl)
noncomputable def F_r01_Same (d:Pden [.val Y9,.val Y9]):Option (Rden [⟨.bool,[none],none⟩] × Oden [.val Y9,.val Y9]):=FT [] [⟨0,[],⟨[4,5],[.val .bool,.val (.int .i64)],[],[],[]⟩,[(.ret,⟨[4],[.val .bool],[],[],[]⟩),(.exit 0,⟨[4],[.val .bool],[],[],[]⟩)],none⟩] 26 Try.f16 [.p,.p] [.val Y9,.val Y9] [⟨.bool,[none],none⟩] d
noncomputable def E_r01_Same:Entry:=⟨16,[.p,.p],[.val Y9,.val Y9],[⟨.bool,[none],none⟩],F_r01_Same⟩
theorem S_r01_Same:Snd E_r01_Same:=ent_ok te_ok mix_ok sn (fn:=Try.f16) (by kernel_rfl) (by kernel_rfl) (F:=F_r01_Same) rfl (.of_bare rfl)
noncomputable def F_bits_Unpack_S1_c (d:Pden [.val (.int .i64),.ptr 29 Y10]):Option (Rden [⟨(.int .i64),[none],none⟩] × Oden [.val (.int .i64),.ptr 29 Y10]):=FT [] [] 8 Try.f64 [.p,.p] [.val (.int .i64),.ptr 29 Y10] [⟨(.int .i64),[none],none⟩] d
noncomputable def E_bits_Unpack_S1_c:Entry:=⟨64,[.p,.p],[.val (.int .i64),.ptr 29 Y10],[⟨(.int .i64),[none],none⟩],F_bits_Unpack_S1_c⟩
theorem S_bits_Unpack_S1_c:Snd E_bits_Unpack_S1_c:=ent_ok te_ok mix_ok sn (fn:=Try.f64) (by kernel_rfl) (by kernel_rfl) (F:=F_bits_Unpack_S1_c) rfl (.of_bare rfl)
noncomputable def F_bits_fit_c_bits_Unpack_S1 (d:Pden [.val (.int .i64),.ptr 29 Y10]):Option (Rden [⟨.bool,[none],none⟩] × Oden [.val (.int .i64),.ptr 29 Y10]):=FT [E_bits_Unpack_S1_c.ent] [⟨0,[],⟨[4,5,8],[.val .bool,.val (.int .i64),.val (.int .i64)],[],[1],[.box 29 [.val Y10]]⟩,[(.ret,⟨[4],[.val .bool],[],[1],[.box 29 [.val Y10]]⟩),(.exit 0,⟨[4],[.val .bool],[],[1],[.box 29 [.val Y10]]⟩)],none⟩] 28 Try.f62 [.p,.clo 64 0 1] [.val (.int .i64),.ptr 29 Y10] [⟨.bool,[none],none⟩] d
noncomputable def E_bits_fit_c_bits_Unpack_S1:Entry:=⟨62,[.p,.clo 64 0 1],[.val (.int .i64),.ptr 29 Y10],[⟨.bool,[none],none⟩],F_bits_fit_c_bits_Unpack_S1⟩
theorem S_bits_fit_c_bits_Unpack_S1:Snd E_bits_fit_c_bits_Unpack_S1:=ent_ok te_ok mix_ok (sc S_bits_Unpack_S1_c sn) (fn:=Try.f62) (by kernel_rfl) (by kernel_rfl) (F:=F_bits_fit_c_bits_Unpack_S1) rfl (.of_bare rfl)
noncomputable def F_bits_Unpack (d:Pden [.val (.int .u64),.val Y10]):Option (Rden [⟨Y9,[some 56],none⟩,⟨(.int .i64),[none],none⟩] × Oden [.val (.int .u64),.val Y10]):=FT [E_bits_fit_c_bits_Unpack_S1.ent,E_bits_Ones.ent] [⟨0,[],⟨[0,18],[.val (.int .u64),.val (.int .i64)],[],[770],[.arr 56 (.int .u64)]⟩,[(.exit 0,⟨[0],[.val (.int .u64)],[],[770],[.arr 56 (.int .u64)]⟩)],none⟩] 41 Try.f49 [.p,.p] [.val (.int .u64),.val Y10] [⟨Y9,[some 56],none⟩,⟨(.int .i64),[none],none⟩] d
noncomputable def E_bits_Unpack:Entry:=⟨49,[.p,.p],[.val (.int .u64),.val Y10],[⟨Y9,[some 56],none⟩,⟨(.int .i64),[none],none⟩],F_bits_Unpack⟩
theorem S_bits_Unpack:Snd E_bits_Unpack:=ent_ok te_ok mix_ok (sc S_bits_fit_c_bits_Unpack_S1 (sc S_bits_Ones sn)) (fn:=Try.f49) (by kernel_rfl) (by kernel_rfl) (F:=F_bits_Unpack) rfl (.of_bare rfl)
noncomputable def F_ncode_instruction (d:Pden [.val (.int .u64),.val (.int .u64)]):Option (Rden [⟨Y4,[none,none,none,none,none],none⟩,⟨.bool,[none],none⟩] × Oden [.val (.int .u64),.val (.int .u64)]):=FT [E_bits_Unpack.ent,E_ncode_wellFormed.ent] [] 39 Try.f31 [.p,.p] [.val (.int .u64),.val (.int .u64)] [⟨Y4,[none,none,none,none,none],none⟩,⟨.bool,[none],none⟩] d
noncomputable def E_ncode_instruction:Entry:=⟨31,[.p,.p],[.val (.int .u64),.val (.int .u64)],[⟨Y4,[none,none,none,none,none],none⟩,⟨.bool,[none],none⟩],F_ncode_instruction⟩
theorem S_ncode_instruction:Snd E_ncode_instruction:=ent_ok te_ok mix_ok (sc S_bits_Unpack (sc S_ncode_wellFormed sn)) (fn:=Try.f31) (by kernel_rfl) (by kernel_rfl) (F:=F_ncode_instruction) rfl (.of_bare rfl)
noncomputable def F_ncode_Decode (d:Pden [.val Y9]):Option (Rden [⟨Y7,[none,none],none⟩,⟨(.int .i64),[none],none⟩] × Oden [.val Y9]):=FT [E_ncode_instruction.ent] [⟨0,[],⟨[3,5],[.val (.int .i64),.val (.int .i64)],[.arr 60 Y4],[1,1601],[.box 37 [.val (.int .i64),.val Y5],.box 37 [.val (.int .i64),.own 0]]⟩,[(.ret,⟨[3],[.val (.int .i64)],[.arr 60 Y4],[1,1601],[.box 37 [.val (.int .i64),.val Y5],.box 37 [.val (.int .i64),.own 0]]⟩),(.exit 0,⟨[3],[.val (.int .i64)],[.arr 60 Y4],[1,1601],[.box 37 [.val (.int .i64),.val Y5],.box 37 [.val (.int .i64),.own 0]]⟩)],none⟩] 58 Try.f17 [.p] [.val Y9] [⟨Y7,[none,none],none⟩,⟨(.int .i64),[none],none⟩] d
noncomputable def E_ncode_Decode:Entry:=⟨17,[.p],[.val Y9],[⟨Y7,[none,none],none⟩,⟨(.int .i64),[none],none⟩],F_ncode_Decode⟩
theorem S_ncode_Decode:Snd E_ncode_Decode:=ent_ok te_ok mix_ok (sc S_ncode_instruction sn) (fn:=Try.f17) (by kernel_rfl) (by kernel_rfl) (F:=F_ncode_Decode) rfl (.of_bare rfl)
noncomputable def F_r22_Decode (d:Pden [.val Y9]):Option (Rden [⟨Y7,[none,none],none⟩,⟨(.int .i64),[none],none⟩] × Oden [.val Y9]):=FT [E_r22_Formed.ent] [⟨0,[],⟨[3,5],[.val (.int .i64),.val (.int .i64)],[.arr 58 Y4],[1,1601],[.box 27 [.val (.int .i64),.val Y5],.box 27 [.val (.int .i64),.own 0]]⟩,[(.ret,⟨[3],[.val (.int .i64)],[.arr 58 Y4],[1,1601],[.box 27 [.val (.int .i64),.val Y5],.box 27 [.val (.int .i64),.own 0]]⟩),(.exit 0,⟨[3],[.val (.int .i64)],[.arr 58 Y4],[1,1601],[.box 27 [.val (.int .i64),.val Y5],.box 27 [.val (.int .i64),.own 0]]⟩)],none⟩] 71 Try.f18 [.p] [.val Y9] [⟨Y7,[none,none],none⟩,⟨(.int .i64),[none],none⟩] d
noncomputable def E_r22_Decode:Entry:=⟨18,[.p],[.val Y9],[⟨Y7,[none,none],none⟩,⟨(.int .i64),[none],none⟩],F_r22_Decode⟩
theorem S_r22_Decode:Snd E_r22_Decode:=ent_ok te_ok mix_ok (sc S_r22_Formed sn) (fn:=Try.f18) (by kernel_rfl) (by kernel_rfl) (F:=F_r22_Decode) rfl (.of_bare rfl)
noncomputable def F_l22_told (d:Pden [.val Y7]):Option (Rden [⟨Y7,[none,some 58],none⟩] × Oden [.val Y7]):=FT [] [⟨0,[],⟨[4],[.val (.int .i64)],[.arr 58 Y4],[321],[.box 27 [.val (.int .i64),.own 0]]⟩,[(.exit 0,⟨[],[],[.arr 58 Y4],[321],[.box 27 [.val (.int .i64),.own 0]]⟩)],none⟩] 38 Try.f20 [.p] [.val Y7] [⟨Y7,[none,some 58],none⟩] d
noncomputable def E_l22_told:Entry:=⟨20,[.p],[.val Y7],[⟨Y7,[none,some 58],none⟩],F_l22_told⟩
theorem S_l22_told:Snd E_l22_told:=ent_ok te_ok mix_ok sn (fn:=Try.f20) (by kernel_rfl) (by kernel_rfl) (F:=F_l22_told) rfl (.of_bare rfl)
noncomputable def F_r22_Same (d:Pden [.val Y7,.val Y7]):Option (Rden [⟨.bool,[none],none⟩] × Oden [.val Y7,.val Y7]):=FT [] [⟨0,[],⟨[4,5],[.val .bool,.val (.int .i64)],[],[],[]⟩,[(.ret,⟨[4],[.val .bool],[],[],[]⟩),(.exit 0,⟨[4],[.val .bool],[],[],[]⟩)],none⟩] 38 Try.f19 [.p,.p] [.val Y7,.val Y7] [⟨.bool,[none],none⟩] d
noncomputable def E_r22_Same:Entry:=⟨19,[.p,.p],[.val Y7,.val Y7],[⟨.bool,[none],none⟩],F_r22_Same⟩
theorem S_r22_Same:Snd E_r22_Same:=ent_ok te_ok mix_ok sn (fn:=Try.f19) (by kernel_rfl) (by kernel_rfl) (F:=F_r22_Same) rfl (.of_bare rfl)
noncomputable def F_l22_NcodeWords (d:Pden [.val Y7,.val Y9,.val Y10]):Option (Rden [⟨.bool,[none],none⟩] × Oden [.val Y7,.val Y9,.val Y10]):=FT [E_l22_made.ent,E_l22_given.ent,E_ncode_Encode.ent,E_r22_Encode.ent,E_r01_Same.ent,E_ncode_Decode.ent,E_r22_Decode.ent,E_l22_awake.ent,E_l22_told.ent,E_r22_Same.ent] [⟨0,[],⟨[6,31],[.val .bool,.val (.int .i64)],[],[],[]⟩,[(.ret,⟨[6],[.val .bool],[],[],[]⟩),(.exit 0,⟨[6],[.val .bool],[],[],[]⟩)],none⟩] 78 Try.f4 [.p,.p,.p] [.val Y7,.val Y9,.val Y10] [⟨.bool,[none],none⟩] d
noncomputable def E_l22_NcodeWords:Entry:=⟨4,[.p,.p,.p],[.val Y7,.val Y9,.val Y10],[⟨.bool,[none],none⟩],F_l22_NcodeWords⟩
theorem S_l22_NcodeWords:Snd E_l22_NcodeWords:=ent_ok te_ok mix_ok (sc S_l22_made (sc S_l22_given (sc S_ncode_Encode (sc S_r22_Encode (sc S_r01_Same (sc S_ncode_Decode (sc S_r22_Decode (sc S_l22_awake (sc S_l22_told (sc S_r22_Same sn)))))))))) (fn:=Try.f4) (by kernel_rfl) (by kernel_rfl) (F:=F_l22_NcodeWords) rfl (.of_bare rfl)
noncomputable def F_l22_NcodeBack (d:Pden [.val Y7,.val Y9,.val Y10]):Option (Rden [⟨.bool,[none],none⟩] × Oden [.val Y7,.val Y9,.val Y10]):=FT [E_l22_made.ent,E_l22_given.ent,E_ncode_Encode.ent,E_ncode_Decode.ent,E_l22_told.ent,E_r22_Same.ent,E_l22_awake.ent,E_r01_Same.ent] [⟨0,[],⟨[6,31],[.val .bool,.val (.int .i64)],[],[],[]⟩,[(.ret,⟨[6],[.val .bool],[],[],[]⟩),(.exit 0,⟨[6],[.val .bool],[],[],[]⟩)],none⟩] 91 Try.f5 [.p,.p,.p] [.val Y7,.val Y9,.val Y10] [⟨.bool,[none],none⟩] d
noncomputable def E_l22_NcodeBack:Entry:=⟨5,[.p,.p,.p],[.val Y7,.val Y9,.val Y10],[⟨.bool,[none],none⟩],F_l22_NcodeBack⟩
theorem S_l22_NcodeBack:Snd E_l22_NcodeBack:=ent_ok te_ok mix_ok (sc S_l22_made (sc S_l22_given (sc S_ncode_Encode (sc S_ncode_Decode (sc S_l22_told (sc S_r22_Same (sc S_l22_awake (sc S_r01_Same sn)))))))) (fn:=Try.f5) (by kernel_rfl) (by kernel_rfl) (F:=F_l22_NcodeBack) rfl (.of_bare rfl)
noncomputable def F_l22_bent (d:Pden [.val Y7,.val Y10]):Option (Rden [⟨Y7,[none,some 58],none⟩] × Oden [.val Y7,.val Y10]):=FT [E_made_Tape_Next.ent] [] 71 Try.f21 [.p,.p] [.val Y7,.val Y10] [⟨Y7,[none,some 58],none⟩] d
noncomputable def E_l22_bent:Entry:=⟨21,[.p,.p],[.val Y7,.val Y10],[⟨Y7,[none,some 58],none⟩],F_l22_bent⟩
theorem S_l22_bent:Snd E_l22_bent:=ent_ok te_ok mix_ok (sc S_made_Tape_Next sn) (fn:=Try.f21) (by kernel_rfl) (by kernel_rfl) (F:=F_l22_bent) rfl (.of_bare rfl)
noncomputable def F_ncode_fits (d:Pden [.val Y4,.val (.int .i64)]):Option (Rden [⟨.bool,[none],none⟩] × Oden [.val Y4,.val (.int .i64)]):=FT [E_ncode_Args.ent] [] 37 Try.f50 [.p,.p] [.val Y4,.val (.int .i64)] [⟨.bool,[none],none⟩] d
noncomputable def E_ncode_fits:Entry:=⟨50,[.p,.p],[.val Y4,.val (.int .i64)],[⟨.bool,[none],none⟩],F_ncode_fits⟩
theorem S_ncode_fits:Snd E_ncode_fits:=ent_ok te_ok mix_ok (sc S_ncode_Args sn) (fn:=Try.f50) (by kernel_rfl) (by kernel_rfl) (F:=F_ncode_fits) rfl (.of_bare rfl)
noncomputable def F_ncode_runnable (d:Pden [.val Y7]):Option (Rden [⟨.bool,[none],none⟩] × Oden [.val Y7]):=FT [E_ncode_encodable.ent,E_ncode_fits.ent] [⟨0,[],⟨[2,11],[.val .bool,.val (.int .i64)],[],[],[]⟩,[(.ret,⟨[2],[.val .bool],[],[],[]⟩),(.exit 0,⟨[2],[.val .bool],[],[],[]⟩)],none⟩] 22 Try.f32 [.p] [.val Y7] [⟨.bool,[none],none⟩] d
noncomputable def E_ncode_runnable:Entry:=⟨32,[.p],[.val Y7],[⟨.bool,[none],none⟩],F_ncode_runnable⟩
theorem S_ncode_runnable:Snd E_ncode_runnable:=ent_ok te_ok mix_ok (sc S_ncode_encodable (sc S_ncode_fits sn)) (fn:=Try.f32) (by kernel_rfl) (by kernel_rfl) (F:=F_ncode_runnable) rfl (.of_bare rfl)
noncomputable def F_ncode_calls (d:Pden [.val Y4,.val Y10]):Option (Rden [⟨.bool,[none],none⟩] × Oden [.val Y4,.val Y10]):=FT [E_ncode_Args.ent] [] 31 Try.f33 [.p,.p] [.val Y4,.val Y10] [⟨.bool,[none],none⟩] d
noncomputable def E_ncode_calls:Entry:=⟨33,[.p,.p],[.val Y4,.val Y10],[⟨.bool,[none],none⟩],F_ncode_calls⟩
theorem S_ncode_calls:Snd E_ncode_calls:=ent_ok te_ok mix_ok (sc S_ncode_Args sn) (fn:=Try.f33) (by kernel_rfl) (by kernel_rfl) (F:=F_ncode_calls) rfl (.of_bare rfl)
noncomputable def F_ncode_Check (d:Pden [.val Y7,.val Y10]):Option (Rden [⟨(.int .i64),[none],none⟩] × Oden [.val Y7,.val Y10]):=FT [E_ncode_runnable.ent,E_ncode_calls.ent] [⟨0,[],⟨[4,13],[.val (.int .i64),.val (.int .i64)],[],[],[]⟩,[(.ret,⟨[4],[.val (.int .i64)],[],[],[]⟩),(.exit 0,⟨[4],[.val (.int .i64)],[],[],[]⟩)],none⟩] 22 Try.f22 [.p,.p] [.val Y7,.val Y10] [⟨(.int .i64),[none],none⟩] d
noncomputable def E_ncode_Check:Entry:=⟨22,[.p,.p],[.val Y7,.val Y10],[⟨(.int .i64),[none],none⟩],F_ncode_Check⟩
theorem S_ncode_Check:Snd E_ncode_Check:=ent_ok te_ok mix_ok (sc S_ncode_runnable (sc S_ncode_calls sn)) (fn:=Try.f22) (by kernel_rfl) (by kernel_rfl) (F:=F_ncode_Check) rfl (.of_bare rfl)
noncomputable def F_r22_takesB (d:Pden [.val (.int .i64)]):Option (Rden [⟨.bool,[none],none⟩] × Oden [.val (.int .i64)]):=FT [] [] 21 Try.f51 [.p] [.val (.int .i64)] [⟨.bool,[none],none⟩] d
noncomputable def E_r22_takesB:Entry:=⟨51,[.p],[.val (.int .i64)],[⟨.bool,[none],none⟩],F_r22_takesB⟩
theorem S_r22_takesB:Snd E_r22_takesB:=ent_ok te_ok mix_ok sn (fn:=Try.f51) (by kernel_rfl) (by kernel_rfl) (F:=F_r22_takesB) rfl (.of_bare rfl)
noncomputable def F_r22_Sound (d:Pden [.val Y7,.val Y4]):Option (Rden [⟨.bool,[none],none⟩] × Oden [.val Y7,.val Y4]):=FT [E_r22_takesB.ent,E_r22_Args.ent] [] 44 Try.f34 [.p,.p] [.val Y7,.val Y4] [⟨.bool,[none],none⟩] d
noncomputable def E_r22_Sound:Entry:=⟨34,[.p,.p],[.val Y7,.val Y4],[⟨.bool,[none],none⟩],F_r22_Sound⟩
theorem S_r22_Sound:Snd E_r22_Sound:=ent_ok te_ok mix_ok (sc S_r22_takesB (sc S_r22_Args sn)) (fn:=Try.f34) (by kernel_rfl) (by kernel_rfl) (F:=F_r22_Sound) rfl (.of_bare rfl)
noncomputable def F_r22_Check (d:Pden [.val Y7,.val Y10]):Option (Rden [⟨(.int .i64),[none],none⟩] × Oden [.val Y7,.val Y10]):=FT [E_r22_Formed.ent,E_r22_Sound.ent] [⟨0,[],⟨[4,5],[.val (.int .i64),.val (.int .i64)],[],[],[]⟩,[(.ret,⟨[4],[.val (.int .i64)],[],[],[]⟩),(.exit 0,⟨[4],[.val (.int .i64)],[],[],[]⟩)],none⟩] 64 Try.f23 [.p,.p] [.val Y7,.val Y10] [⟨(.int .i64),[none],none⟩] d
noncomputable def E_r22_Check:Entry:=⟨23,[.p,.p],[.val Y7,.val Y10],[⟨(.int .i64),[none],none⟩],F_r22_Check⟩
theorem S_r22_Check:Snd E_r22_Check:=ent_ok te_ok mix_ok (sc S_r22_Formed (sc S_r22_Sound sn)) (fn:=Try.f23) (by kernel_rfl) (by kernel_rfl) (F:=F_r22_Check) rfl (.of_bare rfl)
noncomputable def F_l22_NcodeChecks (d:Pden [.val Y7,.val Y10,.val Y10,.val Y10]):Option (Rden [⟨.bool,[none],none⟩] × Oden [.val Y7,.val Y10,.val Y10,.val Y10]):=FT [E_l22_made.ent,E_l22_bent.ent,E_l22_given.ent,E_ncode_Check.ent,E_r22_Check.ent,E_l22_awake.ent] [⟨2,[],⟨[8,42],[.val .bool,.val (.int .i64)],[],[],[]⟩,[(.ret,⟨[8],[.val .bool],[],[],[]⟩),(.exit 2,⟨[8],[.val .bool],[],[],[]⟩)],none⟩,⟨0,[.b 836,.b 1156],⟨[8,25,26,28,33],[.val .bool,.val Y7,.val Y7,.val Y7,.val (.int .i64)],[],[900,1220],[.box 27 [.val (.int .i64),.val Y5],.box 27 [.val (.int .i64),.val Y5]]⟩,[(.ret,⟨[8],[.val .bool],[],[900,1220],[.box 27 [.val (.int .i64),.val Y5],.box 27 [.val (.int .i64),.val Y5]]⟩),(.exit 0,⟨[8,25,26,28],[.val .bool,.val Y7,.val Y7,.val Y7],[],[900,1220],[.box 27 [.val (.int .i64),.val Y5],.box 27 [.val (.int .i64),.val Y5]]⟩)],none⟩] 64 Try.f6 [.p,.p,.p,.p] [.val Y7,.val Y10,.val Y10,.val Y10] [⟨.bool,[none],none⟩] d
noncomputable def E_l22_NcodeChecks:Entry:=⟨6,[.p,.p,.p,.p],[.val Y7,.val Y10,.val Y10,.val Y10],[⟨.bool,[none],none⟩],F_l22_NcodeChecks⟩
theorem S_l22_NcodeChecks:Snd E_l22_NcodeChecks:=ent_ok te_ok mix_ok (sc S_l22_made (sc S_l22_bent (sc S_l22_given (sc S_ncode_Check (sc S_r22_Check (sc S_l22_awake sn)))))) (fn:=Try.f6) (by kernel_rfl) (by kernel_rfl) (F:=F_l22_NcodeChecks) rfl (.of_bare rfl)
end Go.VI
