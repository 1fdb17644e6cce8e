package rules

import (
	"reflect"
	"testing"

	"style/api"
)

func TestReadTakesASheetApart(t *testing.T) {
	text := "a.b>*!:f,#c{A:12;D:$X!}@3a~b:n21+!c:l :e{}:f{B:i;C:r!;E:u;Z:007!}"
	want := Sheet{Rules: []Rule{
		{
			Layer: NoLayer,
			Selectors: []Selector{
				{Compounds: []Compound{
					{Type: 'a', Parts: []Part{{Kind: Class, Letter: 'b'}}},
					{Sign: '>', Parts: []Part{{Not: true, Kind: First}}},
				}},
				{Compounds: []Compound{{Parts: []Part{{Kind: Name, Letter: 'c'}}}}},
			},
			Declarations: []Declaration{
				{Property: 'A', Value: Value{Kind: Number, Number: 12}},
				{Property: 'D', Value: Value{Kind: Variable, Variable: 'X'}, Important: true},
			},
		},
		{
			Layer: 3,
			Selectors: []Selector{
				{Compounds: []Compound{
					{Type: 'a'},
					{Sign: '~', Type: 'b', Parts: []Part{{Kind: Nth, Step: 2, Start: 1}}},
					{Sign: '+', Parts: []Part{{Not: true, Kind: Type, Letter: 'c'}, {Kind: Last}}},
					{Sign: ' ', Parts: []Part{{Kind: Empty}}},
				}},
			},
		},
		{
			Layer:     NoLayer,
			Selectors: []Selector{{Compounds: []Compound{{Parts: []Part{{Kind: First}}}}}},
			Declarations: []Declaration{
				{Property: 'B', Value: Value{Kind: Comes}},
				{Property: 'C', Value: Value{Kind: Initial}, Important: true},
				{Property: 'E', Value: Value{Kind: Unset}},
				{Property: 'Z', Value: Value{Kind: Number, Number: 7}, Important: true},
			},
		},
	}}
	got, errno, place := Read(text)
	if errno != api.OK || place != 0 {
		t.Fatalf("Read(%q) answers %d, %d", text, errno, place)
	}
	if !reflect.DeepEqual(got, want) {
		t.Errorf("Read(%q)\n got %+v\nwant %+v", text, got, want)
	}
}

func TestReadKeepsNothingOfARefusedText(t *testing.T) {
	for _, text := range []string{"a{}b", "a{}a b c d e{}", string(make([]byte, api.MaxText+1))} {
		got, errno, _ := Read(text)
		if errno == api.OK || got.Rules != nil {
			t.Errorf("Read(%.40q) = %+v, %d", text, got, errno)
		}
	}
}
