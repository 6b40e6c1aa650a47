package fields

import (
	"bytes"
	"math"
	"math/big"
	"slices"
	"testing"

	"gateline/api"
)

// tagNames is the numbers that the tags are of, as the document writes them.
var tagNames = []string{1: "Version", 2: "Key", 3: "Kind", 4: "Serial", 5: "From", 6: "To", 7: "Class", 8: "Card", 9: "Seat", 10: "Start", 11: "Days", 12: "Uses", 13: "Epoch"}

// farOff is numbers that are none of anything, at the ends of int and about them.
func farOff() []int {
	return []int{math.MinInt, math.MinInt + 1, -1 << 32, -256, -100, -2, -1, 1<<40 + 1, 1 << 56, 1 << 62, math.MaxInt - 1, math.MaxInt}
}

// place is where a number of r is, by its name.
func place(r *api.Read, name string) *int {
	return map[string]*int{
		"Serial": &r.T.Serial, "Kind": &r.T.Kind, "From": &r.T.From, "To": &r.T.To, "Class": &r.T.Class, "Card": &r.T.Card,
		"Seat": &r.T.Seat, "Start": &r.T.Start, "Days": &r.T.Days, "Uses": &r.T.Uses, "Epoch": &r.T.Epoch,
		"Left": &r.J.Left, "In": &r.J.In, "Key": &r.Key, "Version": &r.Version,
	}[name]
}

// with is r with one number that is another.
func with(r api.Read, name string, n int) api.Read {
	*place(&r, name) = n
	return r
}

func single() api.Read {
	return api.Read{T: api.Ticket{Serial: 1, Kind: 1, From: 10, To: 20, Class: 2, Days: 1, Uses: 1}, Key: 7, Version: 1}
}

func back() api.Read {
	return api.Read{T: api.Ticket{Serial: 1 << 40, Kind: 2, From: 39, To: 0, Class: 1, Card: 3, Seat: 999, Start: 99999, Days: 1, Uses: 2, Epoch: 9}, Key: 99, Version: 3}
}

func season() api.Read {
	return api.Read{T: api.Ticket{Serial: 300, Kind: 3, From: 2, To: 4, Class: 2, Card: 1, Start: 500, Days: 30, Epoch: 3}, Version: 2}
}

func carnet() api.Read {
	return api.Read{T: api.Ticket{Serial: 1234567, Kind: 4, From: 0, To: 15, Class: 1, Start: 99001, Days: 999, Uses: 20, Epoch: 1}, Key: 40, Version: 2}
}

// ofEachKind is what a barcode of each kind says.
func ofEachKind() []api.Read {
	return []api.Read{single(), back(), season(), carnet()}
}

// field is a field of that tag and these bytes.
func field(tag int, value ...byte) api.Field {
	return api.Field{Tag: tag, Value: value}
}

// fieldsOfEachKind is the same as fields, written out.
func fieldsOfEachKind() [][]api.Field {
	return [][]api.Field{
		{field(1, 1), field(2, 7), field(3, 1), field(4, 1), field(5, 10), field(6, 20), field(7, 2), field(11, 1)},
		{field(1, 3), field(2, 99), field(3, 2), field(4, 1, 0, 0, 0, 0, 0), field(5, 39), field(7, 1), field(8, 3), field(9, 3, 231), field(10, 1, 134, 159), field(11, 1), field(13, 9)},
		{field(1, 2), field(3, 3), field(4, 1, 44), field(5, 2), field(6, 4), field(7, 2), field(8, 1), field(10, 1, 244), field(11, 30), field(13, 3)},
		{field(1, 2), field(2, 40), field(3, 4), field(4, 18, 214, 135), field(6, 15), field(7, 1), field(10, 1, 130, 185), field(11, 3, 231), field(12, 20), field(13, 1)},
	}
}

// rightTicket is whether a ticket is right by chapter 9, told another way.
func rightTicket(t api.Ticket) bool {
	in := func(n, least, most int) bool { return least <= n && n <= most }
	if !in(t.Serial, 1, 1<<40) || !in(t.Class, 1, 2) || !in(t.Card, 0, 3) || !in(t.Seat, 0, 999) || !in(t.Start, 0, 99999) || !in(t.Days, 1, 999) || t.Start+t.Days > 100000 || !in(t.Epoch, 0, 9) {
		return false
	}
	way := in(t.From, 0, 39) && in(t.To, 0, 39) && t.From != t.To
	switch t.Kind {
	case 1:
		return way && t.Uses == 1
	case 2:
		return way && t.Uses == 2
	case 3:
		return in(t.From, 1, 6) && in(t.To, 1, 6) && t.From <= t.To && t.Uses == 0
	case 4:
		return way && in(t.Uses, 2, 20)
	}
	return false
}

// putModel is what Put is to answer of r, by the document's words.
func putModel(r api.Read) ([]api.Field, api.Errno) {
	if !rightTicket(r.T) || r.Key < 0 || r.Key > 99 || r.J.Left != 0 || r.J.In != 0 || r.Version < 1 || r.Version > 3 {
		return nil, api.ErrArg
	}
	if r.T.Card != 0 && r.Version < 2 || r.T.Seat != 0 && r.Version < 3 {
		return nil, api.ErrFit
	}
	var l []api.Field
	for tag, name := range tagNames {
		if tag == 0 || tag == 12 && r.T.Kind != 4 {
			continue
		}
		if n := *place(&r, name); n != 0 {
			l = append(l, api.Field{Tag: tag, Value: big.NewInt(int64(n)).Bytes()})
		}
	}
	return l, api.OK
}

// rightFields is whether fields are right by chapter 17, told another way.
func rightFields(l []api.Field) bool {
	ahead := 0
	for _, f := range l {
		if f.Tag <= ahead || f.Tag > 255 || len(f.Value) > 255 {
			return false
		}
		ahead = f.Tag
	}
	return true
}

// getModel is what Get is to answer of l, by the document's words.
func getModel(l []api.Field) (api.Read, api.Errno) {
	if !rightFields(l) {
		return api.Read{}, api.ErrArg
	}
	var r api.Read
	there := map[int]bool{}
	for _, f := range l {
		switch {
		case f.Tag >= 128:
			return api.Read{}, api.ErrMust
		case f.Tag > 13:
			return api.Read{}, api.ErrUnknown
		case len(f.Value) == 0 || len(f.Value) > 7 || f.Value[0] == 0:
			return api.Read{}, api.ErrLength
		}
		there[f.Tag] = true
		*place(&r, tagNames[f.Tag]) = int(new(big.Int).SetBytes(f.Value).Int64())
	}
	if !there[1] || r.Version > 3 || there[8] && r.Version < 2 || there[9] && r.Version < 3 {
		return api.Read{}, api.ErrVersion
	}
	if !there[12] {
		r.T.Uses = map[int]int{1: 1, 2: 2}[r.T.Kind]
	}
	if there[12] && r.T.Kind != 4 || r.Key > 99 || !rightTicket(r.T) {
		return api.Read{}, api.ErrField
	}
	return r, api.OK
}

func same(l, m []api.Field) bool {
	return slices.EqualFunc(l, m, func(f, g api.Field) bool {
		return f.Tag == g.Tag && bytes.Equal(f.Value, g.Value)
	})
}

func cloned(l []api.Field) []api.Field {
	other := slices.Clone(l)
	for i, f := range l {
		other[i].Value = bytes.Clone(f.Value)
	}
	return other
}

// number is a value of n, as few bytes as it has.
func number(n int) []byte {
	return big.NewInt(int64(n)).Bytes()
}

// withField is l with a field of that tag, in its place, instead of the one that it may have.
func withField(l []api.Field, tag int, value []byte) []api.Field {
	l = without(l, tag)
	at := 0
	for at < len(l) && l[at].Tag < tag {
		at++
	}
	return slices.Insert(l, at, api.Field{Tag: tag, Value: value})
}

// without is l without the field of that tag.
func without(l []api.Field, tag int) []api.Field {
	return slices.DeleteFunc(cloned(l), func(f api.Field) bool { return f.Tag == tag })
}

func wantPut(t *testing.T, r api.Read, want []api.Field) {
	t.Helper()
	if got, e := Put(r); e != api.OK || !same(got, want) {
		t.Errorf("P18.2: Put(%+v) = %v, %d, want %v", r, got, e, want)
	}
}

func wantNoPut(t *testing.T, r api.Read, code api.Errno) {
	t.Helper()
	if got, e := Put(r); e != code || got != nil {
		t.Errorf("P18.2: Put(%+v) = %v, %d, want none, %d", r, got, e, code)
	}
}

func wantPutAsModel(t *testing.T, r api.Read) {
	t.Helper()
	if want, code := putModel(r); code != api.OK {
		wantNoPut(t, r, code)
	} else {
		wantPut(t, r, want)
	}
}

func wantGet(t *testing.T, l []api.Field, want api.Read, code api.Errno) {
	t.Helper()
	if got, e := Get(l); got != want || e != code {
		t.Errorf("P18.3: Get(%v) = %+v, %d, want %+v, %d", l, got, e, want, code)
	}
}

func wantGetAsModel(t *testing.T, l []api.Field) {
	t.Helper()
	want, code := getModel(l)
	wantGet(t, l, want, code)
}

func TestName(t *testing.T) {
	least := map[int]int{1: 1, 2: 1, 3: 1, 4: 1, 5: 1, 6: 1, 7: 1, 8: 2, 9: 3, 10: 1, 11: 1, 12: 1, 13: 1}
	tags := farOff()
	for tag := -300; tag <= 600; tag++ {
		tags = append(tags, tag)
	}
	for tag := 1; tag <= 13; tag++ {
		tags = append(tags, tag+1<<8, tag+1<<16, tag+1<<32, tag-1<<32, tag+math.MinInt)
	}
	for _, tag := range tags {
		want, is := least[tag]
		if got, ok := Name(tag); got != want || ok != is {
			t.Errorf("P18.1: Name(%d) = %d, %t, want %d, %t", tag, got, ok, want, is)
		}
	}
}

func TestExamples(t *testing.T) {
	for i, r := range ofEachKind() {
		l := fieldsOfEachKind()[i]
		wantPut(t, r, l)
		wantGet(t, l, r, api.OK)
	}
}

// numbersOf is the numbers of a field that matter: all the small ones, its bounds, and those of more bytes.
func numbersOf(name string) []int {
	l := farOff()
	for n := -3; n <= 130; n++ {
		l = append(l, n)
	}
	l = append(l, 255, 256, 257, 998, 999, 1000, 1001, 65535, 65536, 65537, 99998, 99999, 100000, 100001, 1<<24-1, 1<<24, 1<<32-1, 1<<32, 1<<32+1, 1<<32+2, 1<<40-1, 1<<40, 1<<48, 1<<56-1)
	if name == "Days" {
		l = append(l, 500, 501, 997)
	}
	return l
}

// TestEachNumber has each number of each field, put, and got as a field that tells it.
func TestEachNumber(t *testing.T) {
	for i, r := range ofEachKind() {
		for version := 0; version <= 4; version++ {
			r := with(r, "Version", version)
			for tag, name := range tagNames {
				if tag == 0 {
					continue
				}
				for _, n := range numbersOf(name) {
					wantPutAsModel(t, with(r, name, n))
					if n >= 0 {
						l := withField(fieldsOfEachKind()[i], 1, number(version))
						wantGetAsModel(t, withField(l, tag, number(n)))
					}
				}
			}
		}
	}
}

func TestFromAndTo(t *testing.T) {
	for i, r := range ofEachKind() {
		for from := 0; from <= 45; from++ {
			for to := 0; to <= 45; to++ {
				x := with(with(r, "From", from), "To", to)
				wantPutAsModel(t, x)
				l := without(without(fieldsOfEachKind()[i], 5), 6)
				if from > 0 {
					l = withField(l, 5, number(from))
				}
				if to > 0 {
					l = withField(l, 6, number(to))
				}
				wantGetAsModel(t, l)
			}
		}
	}
}

func TestStartAndDays(t *testing.T) {
	for i, r := range ofEachKind() {
		for start := 98990; start <= 100010; start += 3 {
			for _, days := range []int{1, 2, 3, 500, 998, 999, 1000, 100000 - start, 100001 - start} {
				x := with(with(r, "Start", start), "Days", days)
				wantPutAsModel(t, x)
				if days > 0 {
					l := withField(withField(fieldsOfEachKind()[i], 10, number(start)), 11, number(days))
					wantGetAsModel(t, l)
				}
			}
		}
	}
}

func TestKindAndUses(t *testing.T) {
	for i, r := range ofEachKind() {
		for kind := -1; kind <= 6; kind++ {
			for uses := -1; uses <= 25; uses++ {
				wantPutAsModel(t, with(with(r, "Kind", kind), "Uses", uses))
				l := without(without(fieldsOfEachKind()[i], 3), 12)
				if kind > 0 {
					l = withField(l, 3, number(kind))
				}
				if uses > 0 {
					l = withField(l, 12, number(uses))
				}
				wantGetAsModel(t, l)
			}
		}
	}
}

func TestPutOfAJourney(t *testing.T) {
	for _, r := range ofEachKind() {
		for _, n := range append(farOff(), 1, 2, 40, 41) {
			wantNoPut(t, with(r, "Left", n), api.ErrArg)
			wantNoPut(t, with(r, "In", n), api.ErrArg)
			wantNoPut(t, with(with(r, "Left", n), "In", -n), api.ErrArg)
		}
	}
}

func TestPutOfNoVersion(t *testing.T) {
	for _, r := range ofEachKind() {
		for _, n := range append(farOff(), 0, 4, 5, 1<<8+1, 1<<32+3) {
			wantNoPut(t, with(r, "Version", n), api.ErrArg)
		}
	}
	wantNoPut(t, api.Read{}, api.ErrArg)
	wantNoPut(t, api.Read{Version: 1}, api.ErrArg)
}

// TestPutErrorsInOrder has what is wrong ahead of what has no room.
func TestPutErrorsInOrder(t *testing.T) {
	for _, r := range ofEachKind() {
		r = with(r, "Version", 1)
		for _, room := range []api.Read{with(r, "Card", 1), with(r, "Seat", 1), with(with(r, "Card", 3), "Seat", 999)} {
			wantNoPut(t, room, api.ErrFit)
			for _, wrong := range []struct {
				name string
				n    int
			}{{"Serial", 0}, {"Kind", 5}, {"From", 40}, {"To", 40}, {"Class", 3}, {"Start", 100000}, {"Days", 0}, {"Uses", 21}, {"Epoch", 10}, {"Key", 100}, {"Key", -1}, {"Left", 1}, {"In", 1}, {"Version", 0}, {"Version", -1}} {
				wantNoPut(t, with(room, wrong.name, wrong.n), api.ErrArg)
			}
		}
	}
}

func TestFit(t *testing.T) {
	for _, r := range ofEachKind() {
		for version := 1; version <= 3; version++ {
			for card := 0; card <= 3; card++ {
				for _, seat := range []int{0, 1, 9, 255, 256, 999} {
					x := with(with(with(r, "Version", version), "Card", card), "Seat", seat)
					if card > 0 && version == 1 || seat > 0 && version < 3 {
						wantNoPut(t, x, api.ErrFit)
					} else {
						wantPutAsModel(t, x)
					}
				}
			}
		}
	}
}

func TestGetOfNothing(t *testing.T) {
	wantGet(t, nil, api.Read{}, api.ErrVersion)
	wantGet(t, []api.Field{}, api.Read{}, api.ErrVersion)
	for version := 0; version <= 255; version++ {
		code := api.ErrVersion
		switch {
		case version == 0:
			code = api.ErrLength
		case version <= 3:
			code = api.ErrField
		}
		wantGet(t, []api.Field{field(1, byte(version))}, api.Read{}, code)
	}
}

// TestGetOfWrongFields has lists that chapter 17 refuses, whatever else is wrong with them.
func TestGetOfWrongFields(t *testing.T) {
	for _, l := range fieldsOfEachKind() {
		for i := range l {
			for _, tag := range append(farOff(), 0, 256, 257, 1<<32+l[i].Tag, l[i].Tag-1<<32) {
				x := cloned(l)
				x[i].Tag = tag
				wantGet(t, x, api.Read{}, api.ErrArg)
				x[0].Value = nil
				wantGet(t, x, api.Read{}, api.ErrArg)
			}
			x := cloned(l)
			x[i].Value = make([]byte, 256)
			wantGet(t, x, api.Read{}, api.ErrArg)
			x[i].Value = make([]byte, 255)
			wantGet(t, x, api.Read{}, api.ErrLength)
			wantGet(t, slices.Insert(cloned(l), i, l[i]), api.Read{}, api.ErrArg)
			if i > 0 {
				x := cloned(l)
				x[i-1], x[i] = x[i], x[i-1]
				wantGet(t, x, api.Read{}, api.ErrArg)
			}
		}
		wantGet(t, append(cloned(l), api.Field{Tag: 200}, api.Field{Tag: 200}), api.Read{}, api.ErrArg)
		wantGet(t, append([]api.Field{{Tag: 14}}, l...), api.Read{}, api.ErrArg)
	}
}

func TestGetOfOtherTags(t *testing.T) {
	for _, l := range fieldsOfEachKind() {
		for tag := 14; tag <= 255; tag++ {
			code := api.ErrUnknown
			if tag >= 128 {
				code = api.ErrMust
			}
			// A tag is asked ahead of its value, and of all that the fields tell together.
			for _, value := range [][]byte{{1}, nil, {0}, {0, 1}, make([]byte, 8), make([]byte, 255)} {
				wantGet(t, withField(l, tag, value), api.Read{}, code)
				wantGet(t, withField(without(l, 1), tag, value), api.Read{}, code)
				wantGet(t, withField(withField(l, 2, []byte{100}), tag, value), api.Read{}, code)
				wantGet(t, []api.Field{{Tag: tag, Value: value}}, api.Read{}, code)
			}
		}
	}
}

// TestGetErrorsByField has errors of several fields: it is the first one's that is told.
func TestGetErrorsByField(t *testing.T) {
	for _, l := range fieldsOfEachKind() {
		for _, f := range l {
			wrong := withField(l, f.Tag, []byte{0})
			wantGet(t, wrong, api.Read{}, api.ErrLength)
			wantGet(t, withField(wrong, 14, nil), api.Read{}, api.ErrLength)
			wantGet(t, withField(wrong, 128, nil), api.Read{}, api.ErrLength)
			if f.Tag != 1 {
				// Each field ahead of what the fields tell together.
				wantGet(t, without(wrong, 1), api.Read{}, api.ErrLength)
				wantGet(t, withField(wrong, 1, []byte{9}), api.Read{}, api.ErrLength)
			}
		}
		wantGet(t, withField(withField(l, 14, nil), 128, nil), api.Read{}, api.ErrUnknown)
		wantGet(t, withField(withField(l, 127, nil), 128, nil), api.Read{}, api.ErrUnknown)
		wantGet(t, withField(withField(l, 128, nil), 255, nil), api.Read{}, api.ErrMust)
	}
}

func TestGetOfWrongValues(t *testing.T) {
	for _, l := range fieldsOfEachKind() {
		for tag := 1; tag <= 13; tag++ {
			for _, value := range [][]byte{nil, {}, {0}, {0, 0}, {0, 1}, {0, 0, 0, 0, 0, 0, 1}, {0, 0, 0, 0, 0, 0, 0, 1}, {1, 0, 0, 0, 0, 0, 0, 0}, {255, 255, 255, 255, 255, 255, 255, 255}, make([]byte, 9), bytes.Repeat([]byte{1}, 9), bytes.Repeat([]byte{1}, 255)} {
				wantGet(t, withField(l, tag, value), api.Read{}, api.ErrLength)
			}
			// All bytes at its front, with as many behind it as there may be.
			for first := range 256 {
				for _, more := range []int{0, 1, 5, 6, 7} {
					wantGetAsModel(t, withField(l, tag, append([]byte{byte(first)}, make([]byte, more)...)))
				}
			}
		}
	}
}

func TestGetOfWrongVersions(t *testing.T) {
	for _, l := range fieldsOfEachKind() {
		wantGet(t, without(l, 1), api.Read{}, api.ErrVersion)
		for _, version := range []int{4, 5, 127, 255, 256, 257, 258, 259, 1 << 16, 1<<32 + 1, 1<<32 + 3, 1<<56 - 1} {
			wantGet(t, withField(l, 1, number(version)), api.Read{}, api.ErrVersion)
			// Ahead of what is no ticket.
			wantGet(t, withField(withField(l, 1, number(version)), 7, []byte{3}), api.Read{}, api.ErrVersion)
			wantGet(t, withField(withField(l, 1, number(version)), 2, []byte{100}), api.Read{}, api.ErrVersion)
		}
		wantGet(t, withField(without(l, 1), 12, []byte{1}), api.Read{}, api.ErrVersion)
		wantGet(t, withField(without(l, 1), 2, []byte{100}), api.Read{}, api.ErrVersion)
	}
}

// TestGetOfUntoldFields has fields that the version does not tell, right ones or wrong ones.
func TestGetOfUntoldFields(t *testing.T) {
	for _, l := range fieldsOfEachKind() {
		l = without(without(l, 8), 9)
		for _, n := range []int{1, 2, 3, 4, 255, 999, 1000, 1<<56 - 1} {
			for version := 1; version <= 3; version++ {
				card := withField(withField(l, 1, number(version)), 8, number(n))
				seat := withField(withField(l, 1, number(version)), 9, number(n))
				if version < 2 {
					wantGet(t, card, api.Read{}, api.ErrVersion)
					wantGet(t, without(card, 7), api.Read{}, api.ErrVersion)
				} else {
					wantGetAsModel(t, card)
				}
				if version < 3 {
					wantGet(t, seat, api.Read{}, api.ErrVersion)
					wantGet(t, withField(seat, 2, []byte{100}), api.Read{}, api.ErrVersion)
				} else {
					wantGetAsModel(t, seat)
				}
			}
		}
	}
}

// TestGetWithoutFields has each choice of the fields of each kind, and of one of each tag.
func TestGetWithoutFields(t *testing.T) {
	lists := fieldsOfEachKind()
	var all []api.Field
	for tag := 1; tag <= 13; tag++ {
		all = append(all, api.Field{Tag: tag, Value: []byte{2}})
	}
	all[0].Value = []byte{3}
	full := withField(withField(all, 3, []byte{4}), 5, []byte{3})
	for _, l := range append(lists, all, full) {
		for choice := range 1 << len(l) {
			var x []api.Field
			for i, f := range l {
				if choice>>i&1 == 1 {
					x = append(x, f)
				}
			}
			wantGetAsModel(t, x)
		}
	}
}

func TestGetOfUses(t *testing.T) {
	for i, uses := range []int{1, 2, 0} {
		l := fieldsOfEachKind()[i]
		if got, e := Get(l); e != api.OK || got.T.Uses != uses {
			t.Errorf("P18.3: Get(%v) has Uses %d, %d, want %d", l, got.T.Uses, e, uses)
		}
		for n := 1; n <= 300; n++ {
			wantGet(t, withField(l, 12, number(n)), api.Read{}, api.ErrField)
		}
	}
	l := fieldsOfEachKind()[3]
	wantGet(t, without(l, 12), api.Read{}, api.ErrField)
	for n := 1; n <= 300; n++ {
		if n >= 2 && n <= 20 {
			wantGet(t, withField(l, 12, number(n)), with(carnet(), "Uses", n), api.OK)
		} else {
			wantGet(t, withField(l, 12, number(n)), api.Read{}, api.ErrField)
		}
	}
}

// noise is numbers below n without a pattern, always the same ones of one seed.
func noise(seed uint64) func(n int) int {
	x := seed*0x9e3779b97f4a7c15 + 1
	return func(n int) int {
		x ^= x << 13
		x ^= x >> 7
		x ^= x << 17
		return int(x>>11) % n
	}
}

// noiseRead is what a barcode says, without a pattern; most of them are right.
func noiseRead(next func(n int) int) api.Read {
	kind := 1 + next(4)
	r := api.Read{T: api.Ticket{Serial: 1 + next(1<<uint(next(41))), Kind: kind, From: next(40), To: next(40), Class: 1 + next(2), Start: next(99002), Days: 1 + next(999), Uses: kind % 3, Epoch: next(10)}, Key: next(100), Version: 1 + next(3)}
	if kind == 3 {
		r.T.From = 1 + next(6)
		r.T.To = r.T.From + next(7-r.T.From)
		r.T.Uses = 0
	}
	if kind == 4 {
		r.T.Uses = 2 + next(19)
	}
	if r.Version >= 2 {
		r.T.Card = next(4)
	}
	if r.Version >= 3 {
		r.T.Seat = next(1000) * next(2)
	}
	return r
}

func TestPutIsGot(t *testing.T) {
	next := noise(18)
	right := 0
	for range 40000 {
		r := noiseRead(next)
		wantPutAsModel(t, r)
		if l, e := Put(r); e == api.OK {
			right++
			wantGet(t, l, r, api.OK)
		}
	}
	if right < 30000 {
		t.Errorf("only %d of what was tried is right", right)
	}
}

// TestGotIsPut has fields that are changed without a pattern: what is got of them is put as just these.
func TestGotIsPut(t *testing.T) {
	next := noise(81)
	right := 0
	for range 60000 {
		l, e := putModel(noiseRead(next))
		if e != api.OK {
			continue
		}
		for range next(3) {
			switch i := next(len(l)); next(3) {
			case 0:
				l = without(l, l[i].Tag)
			case 1:
				l = withField(l, 1+next(13), number(1+next(1<<uint(1+next(20)))))
			case 2:
				l = cloned(l)
				l[i].Value[next(len(l[i].Value))] = byte(next(256))
			}
		}
		wantGetAsModel(t, l)
		if r, e := Get(l); e == api.OK {
			right++
			wantPut(t, r, l)
		}
	}
	if right < 20000 {
		t.Errorf("only %d of what was tried is right", right)
	}
}

// TestGreaterVersions has what a version tells told by the greater ones, too.
func TestGreaterVersions(t *testing.T) {
	next := noise(184)
	for range 20000 {
		r := noiseRead(next)
		l, e := Put(r)
		if e != api.OK {
			continue
		}
		for version := r.Version; version <= 3; version++ {
			greater := withField(l, 1, number(version))
			wantPut(t, with(r, "Version", version), greater)
			wantGet(t, greater, with(r, "Version", version), api.OK)
		}
	}
}

func TestArgumentsStay(t *testing.T) {
	for _, l := range fieldsOfEachKind() {
		for _, x := range [][]api.Field{l, without(l, 1), withField(l, 12, []byte{9}), withField(l, 200, nil), withField(l, 4, make([]byte, 8))} {
			was := cloned(x)
			Get(x)
			if !same(x, was) {
				t.Errorf("R2: Get changed %v to %v", was, x)
			}
		}
	}
}

// TestAnswersStay has answers that are written over: they share nothing with one another, nor with what comes later.
func TestAnswersStay(t *testing.T) {
	for i, r := range ofEachKind() {
		want := fieldsOfEachKind()[i]
		first, _ := Put(r)
		second, _ := Put(r)
		for j := range first {
			clear(first[j].Value[:cap(first[j].Value)])
			for k := range first {
				if k > j && !bytes.Equal(first[k].Value, want[k].Value) {
					t.Errorf("R2: the values %d and %d of Put(%+v) share bytes", j, k, r)
				}
			}
		}
		clear(first)
		if !same(second, want) {
			t.Errorf("R2: an answer of Put(%+v) was changed by another one", r)
		}
		wantPut(t, r, want)
		l := cloned(want)
		got, _ := Get(l)
		for j := range l {
			clear(l[j].Value)
		}
		if got != r {
			t.Errorf("R2: the answer of Get(%v) was changed with its argument", want)
		}
	}
}
