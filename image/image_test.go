package image_test

import (
	"encoding/binary"
	"math"
	"math/rand"
	"reflect"
	"strings"
	"testing"

	"chrysalis/api"
	"chrysalis/image"
	"chrysalis/inst"
)

// The model: the chapter's definitions once more, with other means.

func modelName(s string) bool {
	for _, key := range strings.Fields("module use fn let if else while break continue return put emit yield nil state spawn len not and or") {
		if s == key {
			return false
		}
	}
	return s != "" && len(s) <= 16 && strings.Trim(s, "abcdefghijklmnopqrstuvwxyz0123456789_") == "" && s[0] >= 'a' && s[0] <= 'z'
}

func modelConst(v api.Value) bool {
	return v == api.Value{} || v == api.Value{Kind: 1, N: v.N} || v == api.Value{Kind: 2, S: v.S} && len(v.S) <= 1024
}

func modelProto(p api.Proto, fun bool) bool {
	if fun && (!modelName(p.Name) || len(p.Caps) > 0) || !fun && (p.Name != "" || len(p.Caps) > 255) {
		return false
	}
	if p.Params < 0 || p.Params > 8 || p.Regs < 1 || p.Regs > 100 || p.Regs < p.Params || len(p.Consts) > 200 || len(p.Code) > 8000 {
		return false
	}
	right := true
	for _, c := range p.Caps {
		right = right && c.Index >= 0 && c.Index < 256
	}
	for _, v := range p.Consts {
		right = right && modelConst(v)
	}
	for _, x := range p.Code {
		right = right && inst.Right(x)
	}
	return right
}

func modelRight(u api.Unit) bool {
	if !modelName(u.Name) || u.Version < 1 || u.Version > 2147483647 || len(u.Uses) > 16 || len(u.Protos) > 64 || u.Funs < 0 || u.Funs > 32 || u.Funs > len(u.Protos) {
		return false
	}
	right := true
	for _, x := range u.Uses {
		right = right && modelName(x.Module) && modelName(x.Name) && x.Params >= 0 && x.Params <= 8
	}
	for i, p := range u.Protos {
		right = right && modelProto(p, i < u.Funs)
	}
	return right
}

// encoder writes any unit, also an invalid one, as far as its numbers fit.
type encoder struct{ out []byte }

func (e *encoder) number(n, width int) {
	for i := range width {
		e.out = append(e.out, byte(n>>(8*i)))
	}
}

func (e *encoder) text(s string) {
	e.number(len(s), 4)
	e.out = append(e.out, s...)
}

func (e *encoder) proto(p api.Proto) {
	e.text(p.Name)
	e.number(p.Params, 1)
	e.number(p.Regs, 1)
	e.number(len(p.Caps), 2)
	for _, c := range p.Caps {
		if c.Up {
			e.number(1, 1)
		} else {
			e.number(0, 1)
		}
		e.number(c.Index, 1)
	}
	e.number(len(p.Consts), 2)
	for _, v := range p.Consts {
		e.number(v.Kind, 1)
		if v.Kind == api.KInt {
			e.number(int(v.N), 8)
		}
		if v.Kind == api.KText {
			e.text(v.S)
		}
	}
	e.number(len(p.Code), 2)
	for _, x := range p.Code {
		e.out = append(e.out, byte(x.Op), byte(x.A), byte(x.B), byte(x.C))
	}
}

func encode(u api.Unit) string {
	e := &encoder{}
	e.out = append(e.out, "CHRY"...)
	e.text(u.Name)
	e.number(u.Version, 4)
	e.number(len(u.Uses), 2)
	for _, x := range u.Uses {
		e.text(x.Module)
		e.text(x.Name)
		e.number(x.Params, 1)
	}
	e.number(u.Funs, 1)
	e.number(len(u.Protos), 2)
	for _, p := range u.Protos {
		e.proto(p)
	}
	return string(e.out)
}

type shortText struct{}

// decoder reads with a panic at the end of the text; wrong tells of what no unit can express.
type decoder struct {
	rest  []byte
	wrong bool
}

func (d *decoder) cut(n int) []byte {
	if n > len(d.rest) {
		panic(shortText{})
	}
	b := d.rest[:n]
	d.rest = d.rest[n:]
	return b
}

func (d *decoder) byte() int { return int(d.cut(1)[0]) }

func (d *decoder) length() int { return int(binary.LittleEndian.Uint16(d.cut(2))) }

func (d *decoder) four() int { return int(binary.LittleEndian.Uint32(d.cut(4))) }

func (d *decoder) text() string { return string(d.cut(d.four())) }

func (d *decoder) proto() api.Proto {
	p := api.Proto{}
	p.Name = d.text()
	p.Params = d.byte()
	p.Regs = d.byte()
	for n := d.length(); n > 0; n-- {
		up := d.byte()
		d.wrong = d.wrong || up > 1
		p.Caps = append(p.Caps, api.Cap{Up: up == 1, Index: d.byte()})
	}
	for n := d.length(); n > 0; n-- {
		v := api.Value{Kind: d.byte()}
		if v.Kind == api.KInt {
			v.N = int64(binary.LittleEndian.Uint64(d.cut(8)))
		} else if v.Kind == api.KText {
			v.S = d.text()
		}
		p.Consts = append(p.Consts, v)
	}
	for n := d.length(); n > 0; n-- {
		b := d.cut(4)
		p.Code = append(p.Code, api.Inst{Op: int(b[0]), A: int(b[1]), B: int(b[2]), C: int(b[3])})
	}
	return p
}

func (d *decoder) unit() api.Unit {
	d.wrong = string(d.cut(4)) != "CHRY"
	u := api.Unit{}
	u.Name = d.text()
	u.Version = d.four()
	for n := d.length(); n > 0; n-- {
		x := api.Use{Module: d.text()}
		x.Name = d.text()
		x.Params = d.byte()
		u.Uses = append(u.Uses, x)
	}
	u.Funs = d.byte()
	for n := d.length(); n > 0; n-- {
		u.Protos = append(u.Protos, d.proto())
	}
	return u
}

func decode(s string) (u api.Unit, e api.Errno) {
	defer func() {
		if _, short := recover().(shortText); short {
			u, e = api.Unit{}, api.ErrShort
		}
	}()
	d := &decoder{rest: []byte(s)}
	u = d.unit()
	if d.wrong || len(d.rest) > 0 || !modelRight(u) {
		return api.Unit{}, api.ErrForm
	}
	return u, api.OK
}

// same compares units, where nil and empty lists are the same.
func same(a, b api.Unit) bool {
	return reflect.DeepEqual(tidy(a), tidy(b))
}

func tidy(u api.Unit) api.Unit {
	u.Uses = append([]api.Use(nil), u.Uses...)
	protos := u.Protos
	u.Protos = nil
	for _, p := range protos {
		p.Code = append([]api.Inst(nil), p.Code...)
		p.Consts = append([]api.Value(nil), p.Consts...)
		p.Caps = append([]api.Cap(nil), p.Caps...)
		u.Protos = append(u.Protos, p)
	}
	return u
}

func checkRight(t *testing.T, name string, u api.Unit) {
	if !image.Right(u) {
		t.Errorf("%s: not valid", name)
	}
	s, e := image.Build(u)
	if want := encode(u); s != want || e != api.OK {
		t.Errorf("%s: Build: %q %v, not %q", name, s, e, want)
		return
	}
	if v, e := image.Parse(s); !same(u, v) || e != api.OK {
		t.Errorf("%s: Parse: %v %v", name, v, e)
	}
}

func checkWrong(t *testing.T, name string, u api.Unit) {
	if image.Right(u) {
		t.Errorf("%s: valid", name)
	}
	if s, e := image.Build(u); s != "" || e != api.ErrForm {
		t.Errorf("%s: Build: %q %v", name, s, e)
	}
}

func checkParse(t *testing.T, name, s string) {
	u, e := image.Parse(s)
	wantUnit, want := decode(s)
	if !same(u, wantUnit) || e != want {
		t.Errorf("%s: Parse(%q): %v %v, not %v %v", name, s, u, e, wantUnit, want)
		return
	}
	if e == api.OK {
		if b, e := image.Build(u); b != s || e != api.OK {
			t.Errorf("%s: Build of Parse(%q): %q %v", name, s, b, e)
		}
	} else if !reflect.DeepEqual(u, api.Unit{}) {
		t.Errorf("%s: Parse(%q): a unit beside %v", name, s, e)
	}
}

// sample has each kind of part at least twice.
func sample() api.Unit {
	return api.Unit{
		Name: "mod_1", Version: 0x04030201,
		Uses: []api.Use{{Module: "a", Name: "ff", Params: 8}, {Module: "bbb", Name: "g_2"}},
		Funs: 2,
		Protos: []api.Proto{
			{Name: "f", Params: 2, Regs: 5, Consts: []api.Value{{Kind: api.KInt, N: -2}, {Kind: api.KText, S: "x\x00y"}, {}, {Kind: api.KText}},
				Code: []api.Inst{{Op: inst.Const, A: 1, B: 44, C: 1}, {Op: inst.Return, A: 1}}},
			{Name: "migrate", Params: 0, Regs: 1},
			{Params: 1, Regs: 1, Caps: []api.Cap{{Up: true, Index: 3}, {Index: 255}}, Consts: []api.Value{{Kind: api.KInt, N: math.MaxInt64}}, Code: []api.Inst{{}}},
			{Regs: 100},
		},
	}
}

const sampleBytes = "CHRY" + "\x05\x00\x00\x00mod_1" + "\x01\x02\x03\x04" +
	"\x02\x00" + "\x01\x00\x00\x00a" + "\x02\x00\x00\x00ff" + "\x08" + "\x03\x00\x00\x00bbb" + "\x03\x00\x00\x00g_2" + "\x00" +
	"\x02" + "\x04\x00" +
	"\x01\x00\x00\x00f" + "\x02" + "\x05" + "\x00\x00" +
	"\x04\x00" + "\x01\xfe\xff\xff\xff\xff\xff\xff\xff" + "\x02\x03\x00\x00\x00x\x00y" + "\x00" + "\x02\x00\x00\x00\x00" +
	"\x02\x00" + "\x02\x01\x2c\x01" + "\x25\x01\x00\x00" +
	"\x07\x00\x00\x00migrate" + "\x00" + "\x01" + "\x00\x00" + "\x00\x00" + "\x00\x00" +
	"\x00\x00\x00\x00" + "\x01" + "\x01" + "\x02\x00" + "\x01\x03" + "\x00\xff" + "\x01\x00" + "\x01\xff\xff\xff\xff\xff\xff\xff\x7f" + "\x01\x00" + "\x00\x00\x00\x00" +
	"\x00\x00\x00\x00" + "\x00" + "\x64" + "\x00\x00" + "\x00\x00" + "\x00\x00"

const small = "CHRY\x01\x00\x00\x00m\x01\x00\x00\x00\x00\x00\x00\x00\x00"

func TestExample(t *testing.T) {
	u := api.Unit{Name: "m", Version: 1}
	if s, e := image.Build(u); s != small || e != api.OK {
		t.Errorf("%q %v", s, e)
	}
	if v, e := image.Parse(small); !same(u, v) || e != api.OK {
		t.Error(v, e)
	}
	for i := range len(small) {
		if v, e := image.Parse(small[:i]); !reflect.DeepEqual(v, api.Unit{}) || e != api.ErrShort {
			t.Error(i, v, e)
		}
	}
}

func TestSample(t *testing.T) {
	if s, e := image.Build(sample()); s != sampleBytes || e != api.OK {
		t.Errorf("%q %v", s, e)
	}
	if u, e := image.Parse(sampleBytes); !same(u, sample()) || e != api.OK {
		t.Error(u, e)
	}
	for i := range len(sampleBytes) {
		if u, e := image.Parse(sampleBytes[:i]); !reflect.DeepEqual(u, api.Unit{}) || e != api.ErrShort {
			t.Error(i, u, e)
		}
	}
	for _, more := range []string{"\x00", "C", sampleBytes, strings.Repeat("\xff", 1000)} {
		if u, e := image.Parse(sampleBytes + more); !reflect.DeepEqual(u, api.Unit{}) || e != api.ErrForm {
			t.Error(more, u, e)
		}
	}
}

// change is a unit that differs from the sample.
type change struct {
	name string
	do   func(u *api.Unit)
}

func changed(c change) api.Unit {
	u := sample()
	c.do(&u)
	return u
}

func fun(p api.Proto) func(u *api.Unit) {
	return func(u *api.Unit) { u.Protos[1] = p }
}

func inner(p api.Proto) func(u *api.Unit) {
	return func(u *api.Unit) { u.Protos[3] = p }
}

func consts(l ...api.Value) func(u *api.Unit) {
	return inner(api.Proto{Regs: 1, Consts: l})
}

func code(l ...api.Inst) func(u *api.Unit) {
	return inner(api.Proto{Regs: 1, Code: l})
}

func caps(l ...api.Cap) func(u *api.Unit) {
	return inner(api.Proto{Regs: 1, Caps: l})
}

func copies(n, funs int) func(u *api.Unit) {
	return func(u *api.Unit) {
		u.Funs, u.Protos = funs, make([]api.Proto, n)
		for i := range u.Protos {
			u.Protos[i].Regs = 1
			if i < funs {
				u.Protos[i].Name = "f"
			}
		}
	}
}

func uses(n int) func(u *api.Unit) {
	return func(u *api.Unit) {
		u.Uses = nil
		for range n {
			u.Uses = append(u.Uses, api.Use{Module: "m", Name: "f"})
		}
	}
}

func TestBoundsRight(t *testing.T) {
	for _, c := range []change{
		{"same", func(u *api.Unit) {}},
		{"long name", func(u *api.Unit) { u.Name = "a_34567890abcdef" }},
		{"version 1", func(u *api.Unit) { u.Version = 1 }},
		{"version max", func(u *api.Unit) { u.Version = 1<<31 - 1 }},
		{"no uses", uses(0)},
		{"empty uses", func(u *api.Unit) { u.Uses = []api.Use{} }},
		{"16 uses", uses(16)},
		{"long names of a use", func(u *api.Unit) {
			u.Uses[1] = api.Use{Module: "abcdefghijklmnop", Name: "z9_z9_z9_z9_z9_z", Params: 8}
		}},
		{"no protos", copies(0, 0)},
		{"no funs", copies(3, 0)},
		{"only funs", copies(3, 3)},
		{"32 funs", copies(32, 32)},
		{"64 protos, 32 funs", copies(64, 32)},
		{"64 protos, 0 funs", copies(64, 0)},
		{"long name of a fun", fun(api.Proto{Name: "abcdefghijklmnop", Regs: 1})},
		{"empty caps of a fun", fun(api.Proto{Name: "f", Regs: 1, Caps: []api.Cap{}})},
		{"same name twice", fun(api.Proto{Name: "f", Regs: 1})},
		{"255 caps", caps(make([]api.Cap, 255)...)},
		{"index 0", caps(api.Cap{}, api.Cap{Up: true})},
		{"index 255", caps(api.Cap{Index: 255}, api.Cap{Up: true, Index: 255})},
		{"params 8 regs 8", inner(api.Proto{Params: 8, Regs: 8})},
		{"params 8 regs 100", fun(api.Proto{Name: "f", Params: 8, Regs: 100})},
		{"params 0 regs 1", inner(api.Proto{Regs: 1})},
		{"200 consts", consts(make([]api.Value, 200)...)},
		{"ints", consts(api.Value{Kind: api.KInt}, api.Value{Kind: api.KInt, N: math.MinInt64}, api.Value{Kind: api.KInt, N: 1 << 32})},
		{"longest text", consts(api.Value{Kind: api.KText, S: strings.Repeat("\xff", 1024)})},
		{"text 256", consts(api.Value{Kind: api.KText, S: strings.Repeat("CHRY", 64)})},
		{"8000 instructions", code(make([]api.Inst, 8000)...)},
		{"all numbers", code(api.Inst{Op: inst.Add, A: 255, B: 254, C: 253})},
	} {
		u := changed(c)
		if !modelRight(u) {
			t.Errorf("%s: the model says no", c.name)
		}
		checkRight(t, c.name, u)
		checkRight(t, c.name+", once more", u)
	}
}

func TestBoundsWrong(t *testing.T) {
	for _, c := range []change{
		{"no name", func(u *api.Unit) { u.Name = "" }},
		{"a key as name", func(u *api.Unit) { u.Name = "fn" }},
		{"too long a name", func(u *api.Unit) { u.Name = "abcdefghijklmnopq" }},
		{"a capital name", func(u *api.Unit) { u.Name = "M" }},
		{"a name with a digit at first", func(u *api.Unit) { u.Name = "1m" }},
		{"a name with a _ at first", func(u *api.Unit) { u.Name = "_m" }},
		{"version 0", func(u *api.Unit) { u.Version = 0 }},
		{"version 2^31", func(u *api.Unit) { u.Version = 1 << 31 }},
		{"version 2^32-1", func(u *api.Unit) { u.Version = 1<<32 - 1 }},
		{"17 uses", uses(17)},
		{"300 uses", uses(300)},
		{"no module of a use", func(u *api.Unit) { u.Uses[0].Module = "" }},
		{"a module of a use", func(u *api.Unit) { u.Uses[1].Module = "a-b" }},
		{"no name of a use", func(u *api.Unit) { u.Uses[1].Name = "" }},
		{"a name of a use", func(u *api.Unit) { u.Uses[0].Name = "while" }},
		{"params 9 of a use", func(u *api.Unit) { u.Uses[1].Params = 9 }},
		{"params 255 of a use", func(u *api.Unit) { u.Uses[0].Params = 255 }},
		{"65 protos", copies(65, 32)},
		{"65 protos, 0 funs", copies(65, 0)},
		{"33 funs", copies(33, 33)},
		{"33 funs of 64", copies(64, 33)},
		{"more funs than protos", func(u *api.Unit) { u.Funs = 5 }},
		{"a fun without protos", func(u *api.Unit) { u.Funs, u.Protos = 1, nil }},
		{"an inner one as fun", func(u *api.Unit) { u.Funs = 3 }},
		{"a fun as inner one", func(u *api.Unit) { u.Funs = 1 }},
		{"no name of a fun", fun(api.Proto{Regs: 1})},
		{"a key as name of a fun", fun(api.Proto{Name: "state", Regs: 1})},
		{"too long a name of a fun", fun(api.Proto{Name: "abcdefghijklmnopq", Regs: 1})},
		{"a cap of a fun", fun(api.Proto{Name: "f", Regs: 1, Caps: make([]api.Cap, 1)})},
		{"a name of an inner one", inner(api.Proto{Name: "f", Regs: 1})},
		{"a bad name of an inner one", inner(api.Proto{Name: "-", Regs: 1})},
		{"256 caps", caps(make([]api.Cap, 256)...)},
		{"params 9", inner(api.Proto{Params: 9, Regs: 9})},
		{"params 9 of a fun", fun(api.Proto{Name: "f", Params: 9, Regs: 9})},
		{"params 255", inner(api.Proto{Params: 255, Regs: 100})},
		{"regs 0", inner(api.Proto{})},
		{"regs 0 of a fun", fun(api.Proto{Name: "f"})},
		{"regs below params", inner(api.Proto{Params: 8, Regs: 7})},
		{"regs below params of a fun", fun(api.Proto{Name: "f", Params: 2, Regs: 1})},
		{"regs 101", inner(api.Proto{Regs: 101})},
		{"regs 255", fun(api.Proto{Name: "f", Regs: 255})},
		{"201 consts", consts(make([]api.Value, 201)...)},
		{"a table", consts(api.Value{Kind: api.KTable})},
		{"a closure", consts(api.Value{Kind: api.KFn})},
		{"a coroutine", consts(api.Value{}, api.Value{Kind: api.KCo})},
		{"kind 6", consts(api.Value{Kind: 6})},
		{"kind 255", consts(api.Value{Kind: 255}, api.Value{})},
		{"too long a text", consts(api.Value{Kind: api.KText, S: strings.Repeat("a", 1025)})},
		{"8001 instructions", code(make([]api.Inst, 8001)...)},
		{"op 38", code(api.Inst{}, api.Inst{Op: 38})},
		{"op 255", code(api.Inst{Op: 255, A: 255, B: 255, C: 255})},
		{"an unused number", code(api.Inst{Op: inst.Return, A: 1, C: 1}, api.Inst{})},
		{"an unused number of a jump", fun(api.Proto{Name: "f", Regs: 1, Code: []api.Inst{{Op: inst.Jump, A: 1}}})},
	} {
		u := changed(c)
		if modelRight(u) {
			t.Errorf("%s: the model says yes", c.name)
		}
		checkWrong(t, c.name, u)
		// These can be encoded, and so be found by Parse.
		s := encode(u)
		if v, e := image.Parse(s); !reflect.DeepEqual(v, api.Unit{}) || e != api.ErrForm {
			t.Errorf("%s: Parse: %v %v", c.name, v, e)
		}
		if v, e := image.Parse(s[:len(s)-1]); !reflect.DeepEqual(v, api.Unit{}) || e != api.ErrShort {
			t.Errorf("%s: Parse of the prefix: %v %v", c.name, v, e)
		}
	}
}

// TestNotEncodable has invalid units that no bytes can express, so only Right and Build meet them.
func TestNotEncodable(t *testing.T) {
	var l []change
	for _, n := range []int{-1, -256, math.MinInt, 1 << 31, 1 << 32, 1<<32 + 1, 1 << 33, math.MaxInt} {
		l = append(l,
			change{"version", func(u *api.Unit) { u.Version = n }},
			change{"params of a use", func(u *api.Unit) { u.Uses[0].Params = n }},
			change{"funs", func(u *api.Unit) { u.Funs = n }},
			change{"params", func(u *api.Unit) { u.Protos[2].Params = n }},
			change{"params of a fun", func(u *api.Unit) { u.Protos[0].Params = n }},
			change{"params and regs", func(u *api.Unit) { u.Protos[0].Params, u.Protos[0].Regs = n, n }},
			change{"regs", func(u *api.Unit) { u.Protos[2].Regs = n }},
			change{"regs of a fun", func(u *api.Unit) { u.Protos[0].Regs = n }},
			change{"index", func(u *api.Unit) { u.Protos[2].Caps[1].Index = n }},
			change{"kind", func(u *api.Unit) { u.Protos[2].Consts[0].Kind = n }},
			change{"op", func(u *api.Unit) { u.Protos[2].Code[0].Op = n }},
			change{"a", func(u *api.Unit) { u.Protos[0].Code[1].A = n }},
			change{"b", func(u *api.Unit) { u.Protos[0].Code[0].B = n }},
			change{"c", func(u *api.Unit) { u.Protos[0].Code[0].C = n }},
			change{"number of a nil", func(u *api.Unit) { u.Protos[0].Consts[2].N = int64(n) }},
			change{"number of a text", func(u *api.Unit) { u.Protos[0].Consts[1].N = int64(n) }},
		)
	}
	for _, n := range []int{256, 257, 511, 1 << 8, 1 << 16, 1<<16 + 1} {
		l = append(l,
			change{"params", func(u *api.Unit) { u.Protos[2].Params, u.Protos[2].Regs = n, 100 }},
			change{"params of a use", func(u *api.Unit) { u.Uses[1].Params = n }},
			change{"regs", func(u *api.Unit) { u.Protos[3].Regs = n }},
			change{"funs", func(u *api.Unit) { u.Funs = n }},
			change{"index", func(u *api.Unit) { u.Protos[2].Caps[0].Index = n }},
			change{"kind", func(u *api.Unit) { u.Protos[0].Consts[2].Kind = n }},
			change{"c", func(u *api.Unit) { u.Protos[0].Code[0].C = n }},
		)
	}
	l = append(l,
		change{"text of a nil", func(u *api.Unit) { u.Protos[0].Consts[2].S = "a" }},
		change{"text of an int", func(u *api.Unit) { u.Protos[0].Consts[0].S = "\x00" }},
		change{"text of a table", consts(api.Value{Kind: api.KTable, S: "a"})},
		change{"number of a table", consts(api.Value{Kind: api.KTable, N: 1})},
		change{"number 1 of a nil", consts(api.Value{N: 1})},
		change{"number 1 of a text", consts(api.Value{Kind: api.KText, N: 1})},
		change{"65537 uses", uses(1<<16 + 1)},
		change{"65536 protos", copies(1<<16, 0)},
		change{"65537 instructions", code(make([]api.Inst, 1<<16+1)...)},
		change{"65537 consts", consts(make([]api.Value, 1<<16+1)...)},
		change{"65536 caps", caps(make([]api.Cap, 1<<16)...)},
	)
	for _, c := range l {
		u := changed(c)
		if modelRight(u) {
			t.Errorf("%s: the model says yes", c.name)
		}
		checkWrong(t, c.name, u)
	}
}

func TestZero(t *testing.T) {
	checkWrong(t, "the zero unit", api.Unit{})
	checkWrong(t, "no version", api.Unit{Name: "m"})
	if u, e := image.Parse(""); !reflect.DeepEqual(u, api.Unit{}) || e != api.ErrShort {
		t.Error(u, e)
	}
}

// TestShort has texts whose length alone decides: all but lengths and kinds may be wrong.
func TestShort(t *testing.T) {
	long := strings.Repeat("\x00", 8)
	for _, c := range []struct {
		name, s string
		want    api.Errno
	}{
		{"other bytes at first", "chry" + small[4:], api.ErrForm},
		{"one other byte", "CHRX" + small[4:], api.ErrForm},
		{"other bytes, short", "chry" + small[4:len(small)-1], api.ErrShort},
		{"only other bytes", "????????????????", api.ErrShort},
		{"a name of 2^32-1 bytes", "CHRY\xff\xff\xff\xff" + strings.Repeat("m", 100), api.ErrShort},
		{"a name of 2^31 bytes", "CHRY\x00\x00\x00\x80" + strings.Repeat("m", 100), api.ErrShort},
		{"no name", "CHRY\x00\x00\x00\x00\x01\x00\x00\x00\x00\x00\x00\x00\x00", api.ErrForm},
		{"no name, short", "CHRY\x00\x00\x00\x00\x01\x00\x00\x00\x00\x00\x00\x00", api.ErrShort},
		{"a name of 20 bytes", "CHRY\x14\x00\x00\x00aaaaaaaaaaaaaaaaaaaa\x01\x00\x00\x00\x00\x00\x00\x00\x00", api.ErrForm},
		{"version 0", "CHRY\x01\x00\x00\x00m\x00\x00\x00\x00\x00\x00\x00\x00\x00", api.ErrForm},
		{"version 0, short", "CHRY\x01\x00\x00\x00m\x00\x00\x00\x00\x00\x00\x00\x00", api.ErrShort},
		{"65535 uses, short", "CHRY\x01\x00\x00\x00m\x01\x00\x00\x00\xff\xff" + strings.Repeat("\x00", 9*65535+2), api.ErrShort},
		{"65535 uses", "CHRY\x01\x00\x00\x00m\x01\x00\x00\x00\xff\xff" + strings.Repeat("\x00", 9*65535+3), api.ErrForm},
		{"65535 uses, long", "CHRY\x01\x00\x00\x00m\x01\x00\x00\x00\xff\xff" + strings.Repeat("\x00", 9*65535+4), api.ErrForm},
		{"255 funs", small[:15] + "\xff\x00\x00", api.ErrForm},
		{"255 funs, short", small[:15] + "\xff\x00", api.ErrShort},
		{"65535 protos, short", small[:16] + "\xff\xff" + strings.Repeat("\x00", 12*65535-1), api.ErrShort},
		{"65535 protos", small[:16] + "\xff\xff" + strings.Repeat("\x00", 12*65535), api.ErrForm},
		{"an inner proto", small[:16] + "\x01\x00" + "\x00\x00\x00\x00\x00\x01\x00\x00\x00\x00\x00\x00", api.OK},
		{"regs 0", small[:16] + "\x01\x00" + "\x00\x00\x00\x00\x00\x00\x00\x00\x00\x00\x00\x00", api.ErrForm},
		{"regs 0, short", small[:16] + "\x01\x00" + "\x00\x00\x00\x00\x00\x00\x00\x00\x00\x00\x00", api.ErrShort},
		{"up 1", small[:16] + "\x01\x00" + "\x00\x00\x00\x00\x00\x01\x01\x00\x01\x05\x00\x00\x00\x00", api.OK},
		{"up 2", small[:16] + "\x01\x00" + "\x00\x00\x00\x00\x00\x01\x01\x00\x02\x05\x00\x00\x00\x00", api.ErrForm},
		{"up 255", small[:16] + "\x01\x00" + "\x00\x00\x00\x00\x00\x01\x01\x00\xff\x05\x00\x00\x00\x00", api.ErrForm},
		{"up 2, short", small[:16] + "\x01\x00" + "\x00\x00\x00\x00\x00\x01\x01\x00\x02\x05\x00\x00\x00", api.ErrShort},
		{"65535 caps, short", small[:16] + "\x01\x00" + "\x00\x00\x00\x00\x00\x01\xff\xff" + strings.Repeat("\x00", 2*65535+3), api.ErrShort},
		{"65535 caps", small[:16] + "\x01\x00" + "\x00\x00\x00\x00\x00\x01\xff\xff" + strings.Repeat("\x00", 2*65535+4), api.ErrForm},
		{"kind 3 has no number", small[:16] + "\x01\x00" + "\x00\x00\x00\x00\x00\x01\x00\x00\x01\x00\x03\x00\x00", api.ErrForm},
		{"kind 3, short", small[:16] + "\x01\x00" + "\x00\x00\x00\x00\x00\x01\x00\x00\x01\x00\x03\x00", api.ErrShort},
		{"kind 255, then an int", small[:16] + "\x01\x00" + "\x00\x00\x00\x00\x00\x01\x00\x00\x02\x00\xff\x01" + long + "\x00\x00", api.ErrForm},
		{"kind 255, then an int, short", small[:16] + "\x01\x00" + "\x00\x00\x00\x00\x00\x01\x00\x00\x02\x00\xff\x01" + long + "\x00", api.ErrShort},
		{"a text of 2000 bytes", small[:16] + "\x01\x00" + "\x00\x00\x00\x00\x00\x01\x00\x00\x01\x00\x02\xd0\x07\x00\x00" + strings.Repeat("a", 2000) + "\x00\x00", api.ErrForm},
		{"a text of 2000 bytes, short", small[:16] + "\x01\x00" + "\x00\x00\x00\x00\x00\x01\x00\x00\x01\x00\x02\xd0\x07\x00\x00" + strings.Repeat("a", 2000) + "\x00", api.ErrShort},
		{"65535 consts of other kinds, short", small[:16] + "\x01\x00" + "\x00\x00\x00\x00\x00\x01\x00\x00\xff\xff" + strings.Repeat("\x07", 65535) + "\x00", api.ErrShort},
		{"65535 consts of other kinds", small[:16] + "\x01\x00" + "\x00\x00\x00\x00\x00\x01\x00\x00\xff\xff" + strings.Repeat("\x07", 65535) + "\x00\x00", api.ErrForm},
		{"op 38", small[:16] + "\x01\x00" + "\x00\x00\x00\x00\x00\x01\x00\x00\x00\x00\x01\x00\x26\x00\x00\x00", api.ErrForm},
		{"op 38, short", small[:16] + "\x01\x00" + "\x00\x00\x00\x00\x00\x01\x00\x00\x00\x00\x01\x00\x26\x00\x00", api.ErrShort},
		{"op 38, then one that is cut", small[:16] + "\x01\x00" + "\x00\x00\x00\x00\x00\x01\x00\x00\x00\x00\x02\x00\x26\x00\x00\x00\x00\x00\x00", api.ErrShort},
		{"op 38, then another", small[:16] + "\x01\x00" + "\x00\x00\x00\x00\x00\x01\x00\x00\x00\x00\x02\x00\x26\x00\x00\x00\x00\x00\x00\x00", api.ErrForm},
		{"65535 instructions, short", small[:16] + "\x01\x00" + "\x00\x00\x00\x00\x00\x01\x00\x00\x00\x00\xff\xff" + strings.Repeat("\xff", 4*65535-1), api.ErrShort},
		{"65535 instructions", small[:16] + "\x01\x00" + "\x00\x00\x00\x00\x00\x01\x00\x00\x00\x00\xff\xff" + strings.Repeat("\xff", 4*65535), api.ErrForm},
	} {
		if u, e := image.Parse(c.s); e != c.want || e != api.OK && !reflect.DeepEqual(u, api.Unit{}) {
			t.Errorf("%s: %v, not %v", c.name, e, c.want)
		}
		if _, e := decode(c.s); e != c.want {
			t.Errorf("%s: the model: %v, not %v", c.name, e, c.want)
		}
	}
}

func TestEachByte(t *testing.T) {
	for i := range len(sampleBytes) {
		for b := range 256 {
			checkParse(t, "byte", sampleBytes[:i]+string([]byte{byte(b)})+sampleBytes[i+1:])
		}
		checkParse(t, "without a byte", sampleBytes[:i]+sampleBytes[i+1:])
		checkParse(t, "with a byte", sampleBytes[:i]+"\x00"+sampleBytes[i:])
	}
}

func pick(r *rand.Rand, l ...int) int { return l[r.Intn(len(l))] }

func randomName(r *rand.Rand) string {
	if r.Intn(60) == 0 {
		return []string{"", "fn", "A", "abcdefghijklmnopq"}[r.Intn(4)]
	}
	return []string{"a", "m", "migrate", "x_1", "abcdefghijklmnop"}[r.Intn(5)]
}

func randomConst(r *rand.Rand) api.Value {
	switch r.Intn(30) {
	case 0:
		return api.Value{Kind: pick(r, -1, 3, 4, 5, 6, 256)}
	case 1:
		return api.Value{Kind: r.Intn(3), N: int64(r.Intn(2)), S: strings.Repeat("a", r.Intn(2))}
	case 2, 3, 4, 5:
		return api.Value{}
	case 6, 7, 8, 9, 10, 11, 12, 13:
		return api.Value{Kind: api.KInt, N: int64(r.Uint64()) >> r.Intn(64)}
	}
	return api.Value{Kind: api.KText, S: strings.Repeat("t\xff", pick(r, 0, 1, 3, 128, 511, 512))}
}

func randomInst(r *rand.Rand) api.Inst {
	x := api.Inst{Op: r.Intn(38), A: r.Intn(256), B: r.Intn(256), C: r.Intn(256)}
	if r.Intn(100) == 0 {
		return x
	}
	shape := inst.Shape(x.Op)
	for i, n := range []*int{&x.A, &x.B, &x.C} {
		if i < len(shape) && shape[i] == '-' {
			*n = 0
		}
	}
	return x
}

func randomProto(r *rand.Rand, fun bool) api.Proto {
	p := api.Proto{Params: r.Intn(9), Regs: pick(r, 1, 7, 8, 8, 8, 9, 100, 100)}
	if fun {
		p.Name = randomName(r)
	}
	if !fun || r.Intn(40) == 0 {
		for range r.Intn(4) {
			p.Caps = append(p.Caps, api.Cap{Up: r.Intn(2) == 0, Index: pick(r, 0, 1, 2, 128, 254, 255)})
		}
	}
	for range r.Intn(4) {
		p.Consts = append(p.Consts, randomConst(r))
	}
	for range r.Intn(6) {
		p.Code = append(p.Code, randomInst(r))
	}
	return p
}

func randomUnit(r *rand.Rand) api.Unit {
	u := api.Unit{Name: randomName(r), Version: pick(r, 1, 2, 255, 256, 1<<24, 1<<31-1)}
	for range r.Intn(4) {
		u.Uses = append(u.Uses, api.Use{Module: randomName(r), Name: randomName(r), Params: r.Intn(9)})
	}
	protos := r.Intn(4)
	u.Funs = r.Intn(protos + 1)
	for i := range protos {
		u.Protos = append(u.Protos, randomProto(r, i < u.Funs))
	}
	return u
}

func TestRandomUnits(t *testing.T) {
	r := rand.New(rand.NewSource(14))
	right := 0
	for range 20000 {
		u := randomUnit(r)
		if modelRight(u) {
			right++
			checkRight(t, "random", u)
		} else {
			checkWrong(t, "random", u)
		}
	}
	if right < 5000 || right > 18000 {
		t.Error(right, "of 20000 are valid")
	}
}

func TestRandomTexts(t *testing.T) {
	r := rand.New(rand.NewSource(41))
	found := map[api.Errno]int{}
	for range 20000 {
		s := []byte(encode(randomUnit(r)))
		for range r.Intn(3) {
			switch i := r.Intn(len(s)); r.Intn(3) {
			case 0:
				s[i] = byte(pick(r, 0, 1, 2, 3, 4, 5, r.Intn(256)))
			case 1:
				s = append(s[:i:i], s[i+1:]...)
			case 2:
				s = append(s[:i:i], append([]byte{byte(r.Intn(3))}, s[i:]...)...)
			}
		}
		checkParse(t, "random", string(s))
		_, e := image.Parse(string(s))
		found[e]++
	}
	for _, e := range []api.Errno{api.OK, api.ErrShort, api.ErrForm} {
		if found[e] < 1000 {
			t.Error(e, found[e])
		}
	}
	for range 20000 {
		s := make([]byte, r.Intn(60))
		for i := range s {
			s[i] = byte(r.Intn(pick(r, 2, 3, 256)))
		}
		checkParse(t, "random bytes", "CHRY"[:pick(r, 0, 4, 4)]+string(s))
	}
}

func TestGreatest(t *testing.T) {
	if testing.Short() {
		t.Skip("takes a second")
	}
	u := api.Unit{Name: "abcdefghijklmnop", Version: 1<<31 - 1, Funs: 32}
	for range 16 {
		u.Uses = append(u.Uses, api.Use{Module: "abcdefghijklmnop", Name: "abcdefghijklmnop", Params: 8})
	}
	for i := range 64 {
		p := api.Proto{Params: 8, Regs: 100}
		for range 200 {
			p.Consts = append(p.Consts, api.Value{Kind: api.KText, S: strings.Repeat("a", 1024)})
		}
		for range 8000 {
			p.Code = append(p.Code, api.Inst{Op: inst.Add, A: 255, B: 255, C: 255})
		}
		if i < 32 {
			p.Name = "abcdefghijklmnop"
		} else {
			p.Caps = make([]api.Cap, 255)
		}
		u.Protos = append(u.Protos, p)
	}
	s, e := image.Build(u)
	if e != api.OK || s != encode(u) {
		t.Fatal(e)
	}
	if v, e := image.Parse(s); e != api.OK || !same(u, v) {
		t.Fatal(e)
	}
	if _, e := image.Parse(s[:len(s)-1]); e != api.ErrShort {
		t.Error(e)
	}
}

// TestArguments looks at the lists that were passed, and at their spare capacity.
func TestArguments(t *testing.T) {
	u := roomy(sample())
	before := clone(u)
	if !image.Right(u) {
		t.Error("not valid")
	}
	if _, e := image.Build(u); e != api.OK {
		t.Error(e)
	}
	if !same(whole(u), whole(before)) {
		t.Error("the unit was changed")
	}
}

// roomy gives each list spare capacity with elements that can be told from zero.
func roomy(u api.Unit) api.Unit {
	u.Uses = append(u.Uses, api.Use{Module: "spare"})[: len(u.Uses) : len(u.Uses)+1]
	for i := range u.Protos {
		p := &u.Protos[i]
		p.Code = append(p.Code, api.Inst{Op: 77})[: len(p.Code) : len(p.Code)+1]
		p.Consts = append(p.Consts, api.Value{N: 77})[: len(p.Consts) : len(p.Consts)+1]
		p.Caps = append(p.Caps, api.Cap{Index: 77})[: len(p.Caps) : len(p.Caps)+1]
	}
	u.Protos = append(u.Protos, api.Proto{Name: "spare"})[: len(u.Protos) : len(u.Protos)+1]
	return u
}

// whole extends each list to its capacity.
func whole(u api.Unit) api.Unit {
	u.Uses = u.Uses[:cap(u.Uses)]
	u.Protos = append([]api.Proto(nil), u.Protos[:cap(u.Protos)]...)
	for i := range u.Protos {
		p := &u.Protos[i]
		p.Code, p.Consts, p.Caps = p.Code[:cap(p.Code)], p.Consts[:cap(p.Consts)], p.Caps[:cap(p.Caps)]
	}
	return u
}

func clone(u api.Unit) api.Unit {
	u.Uses = append(make([]api.Use, 0, cap(u.Uses)), u.Uses[:cap(u.Uses)]...)
	u.Protos = append(make([]api.Proto, 0, cap(u.Protos)), u.Protos[:cap(u.Protos)]...)
	for i := range u.Protos {
		p := &u.Protos[i]
		p.Code = append(make([]api.Inst, 0, cap(p.Code)), p.Code[:cap(p.Code)]...)
		p.Consts = append(make([]api.Value, 0, cap(p.Consts)), p.Consts[:cap(p.Consts)]...)
		p.Caps = append(make([]api.Cap, 0, cap(p.Caps)), p.Caps[:cap(p.Caps)]...)
	}
	return u
}

// TestResults overwrites one list of a result, with its spare capacity, and looks at the others and at another result.
func TestResults(t *testing.T) {
	lists := func(u api.Unit) []reflect.Value {
		l := []reflect.Value{reflect.ValueOf(u.Uses), reflect.ValueOf(u.Protos)}
		for _, p := range u.Protos {
			l = append(l, reflect.ValueOf(p.Code), reflect.ValueOf(p.Consts), reflect.ValueOf(p.Caps))
		}
		return l
	}
	fresh, _ := image.Parse(sampleBytes)
	for i := range lists(fresh) {
		u, _ := image.Parse(sampleBytes)
		l := lists(u)
		list := l[i].Slice(0, l[i].Cap())
		for k := range list.Len() {
			list.Index(k).SetZero()
		}
		want := lists(fresh)
		for j := range l {
			// The protos at 1 contain the lists after them, so they differ with these.
			if j != i && j != 1 && !equalLists(l[j], want[j]) {
				t.Errorf("list %d shares memory with list %d", j, i)
			}
		}
		if v, e := image.Parse(sampleBytes); e != api.OK || !same(v, sample()) {
			t.Error("a result shares memory with another")
		}
	}
}

func equalLists(a, b reflect.Value) bool {
	return a.Len() == b.Len() && (a.Len() == 0 || reflect.DeepEqual(a.Interface(), b.Interface()))
}
