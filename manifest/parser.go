package manifest

import (
	"slices"
	"strings"

	"bulkhead/api"
)

// parser goes along the grammar. Once err is set, it stays, no token is read and
// no list goes on, so that the rules need not ask for it at each of their steps.
type parser struct {
	next       func() (token, error)
	now        token // the one that is looked at
	err        error // about the first token that does not fit
	partitions []api.Partition
}

func parse(text string) (api.Manifest, error) {
	p := &parser{next: newReader(text)}
	p.advance()
	m := p.manifest()
	if p.err != nil {
		return api.Manifest{}, p.err
	}
	return m, nil
}

func (p *parser) manifest() api.Manifest {
	var m api.Manifest
	m.Frame = p.setting("module")
	for p.at("partition") {
		p.partitions = append(p.partitions, p.partition())
	}
	m.Partitions = p.partitions
	for p.at("channel") {
		m.Channels = append(m.Channels, p.channel())
	}
	p.expect(endText)
	return m
}

func (p *parser) partition() api.Partition {
	var one api.Partition
	p.expect("partition")
	one.Name = p.name()
	p.expect("{")
	one.Period = p.setting("period")
	one.Duration = p.setting("duration")
	p.expect("fault")
	one.Action = p.choice(actions())
	p.expect(";")
	for p.at("memory") {
		one.Regions = append(one.Regions, p.region())
	}
	p.expect("}")
	return one
}

func (p *parser) region() api.Region {
	var one api.Region
	p.expect("memory")
	one.Page = p.number()
	one.Pages = p.number()
	one.Rights = p.choice(rights())
	p.expect(";")
	return one
}

func (p *parser) channel() api.Channel {
	var one api.Channel
	p.expect("channel")
	one.Name = p.name()
	one.Source = p.partitionPlace()
	p.expect("->")
	one.Target = p.partitionPlace()
	one.Kind = p.choice(channelKinds())
	one.Size = p.number()
	one.Depth = p.number()
	p.expect(";")
	return one
}

func (p *parser) setting(keyword string) int {
	p.expect(keyword)
	value := p.number()
	p.expect(";")
	return value
}

func (p *parser) expect(text string) {
	if !p.at(text) {
		p.refuse(errSyntax)
		return
	}
	p.advance()
}

func (p *parser) number() int {
	if p.now.kind != number {
		p.refuse(errSyntax)
		return 0
	}
	value := p.now.value
	p.advance()
	return value
}

func (p *parser) name() string {
	if p.now.kind != word {
		p.refuse(errSyntax)
		return ""
	}
	// A piece of the text would keep hold of the caller's memory.
	name := strings.Clone(p.now.text)
	p.advance()
	return name
}

// partitionPlace reads a partition's name and answers its place in the list.
func (p *parser) partitionPlace() int {
	if p.now.kind != word {
		p.refuse(errSyntax)
		return 0
	}
	place := slices.IndexFunc(p.partitions, func(one api.Partition) bool { return one.Name == p.now.text })
	if place < 0 {
		p.refuse(errUnknown)
		return 0
	}
	p.advance()
	return place
}

func (p *parser) choice(options []option) int {
	for _, one := range options {
		if p.at(one.word) {
			p.advance()
			return one.value
		}
	}
	p.refuse(errSyntax)
	return 0
}

func (p *parser) at(text string) bool { return p.err == nil && p.now.text == text }

func (p *parser) advance() {
	if p.err == nil {
		p.now, p.err = p.next()
	}
}

// refuse says that the token that is looked at does not fit.
func (p *parser) refuse(cause error) {
	if p.err == nil {
		p.err = &misfit{cause: cause, place: p.now.place}
	}
}
